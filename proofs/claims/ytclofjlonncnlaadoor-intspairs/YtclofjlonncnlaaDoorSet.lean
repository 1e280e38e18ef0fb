/- Sets: what a pointer to a set stands for; all, Len, find, rowAt. -/
import Derived.Test.YtclofjlonncnlaaDoorFind
set_option linter.unusedSimpArgs false
set_option linter.unusedVariables false
namespace Go.Proofs.YtclofjlonncnlaaDoor
open Go.RowKit

def total (rs : List Row) : Nat := (rs.map Row.count).sum
/-- Rows as a set keeps them: rising, none empty, all in their ranges. -/
structure Ok (rs : List Row) : Prop where
  asc : Asc rs
  fits : ∀ r ∈ rs, r.Fits
  some_ : ∀ r ∈ rs, 0 < r.count
theorem asc_len {rs : List Row} (h : Asc rs) (lo : Nat) (hlo : ∀ r ∈ rs, lo ≤ r.at_) (hf : ∀ r ∈ rs, r.at_ < 4096) : rs.length + lo ≤ 4096 ∨ rs = [] := by
  induction rs generalizing lo with
  | nil => exact .inr rfl
  | cons r t ih =>
    left
    have h1 := List.pairwise_cons.1 h
    have hr := hf r (by simp)
    have hl := hlo r (by simp)
    rcases ih h1.2 (r.at_ + 1) (fun s hs => h1.1 s hs) (fun s hs => hf s (by simp [hs])) with h2 | h2
    · simp only [List.length_cons]; omega
    · subst h2; simp; omega
theorem Ok.len {rs : List Row} (h : Ok rs) : rs.length ≤ 4096 := by
  rcases asc_len h.asc 0 (fun _ _ => Nat.zero_le _) (fun r hr => (h.fits r hr).a) with h1 | h1
  · omega
  · subst h1; simp
theorem Row.count_le (r : Row) : r.count ≤ 256 := by
  have h0 := popN_le 64 r.w0
  have h1 := popN_le 64 r.w1
  have h2 := popN_le 64 r.w2
  have h3 := popN_le 64 r.w3
  unfold Row.count; omega
theorem total_le (rs : List Row) : total rs ≤ rs.length * 256 := by
  induction rs with
  | nil => simp [total]
  | cons r t ih =>
    have := r.count_le
    simp only [total, List.map_cons, List.sum_cons, List.length_cons] at *
    omega
theorem Ok.total {rs : List Row} (h : Ok rs) : total rs ≤ 1048576 := by
  have h1 := total_le rs
  have h2 := h.len
  omega

/-- Block b is a set whose slice is v and whose rows are rs. -/
structure SetAt (w : World) (b : Nat) (v : Value) (rs : List Row) : Prop where
  blk : w.heap[b]? = some (.cells #[v, .int .i64 (total rs)] 39 (0, 0))
  rows : OwnR w 0 v rs
  ok : Ok rs
/-- The pointer p is nil, which stands for no rows, or points to a set. -/
def SetV (w : World) (p v : Value) (rs : List Row) : Prop := (p = .pointer none ∧ v = .slice none 0 0 ∧ rs = []) ∨ ∃ b, p = .pointer (some ⟨b, 0, none⟩) ∧ SetAt w b v rs
def foot (p v : Value) : List Nat := (match p with
  | .pointer (some a) => [a.block]
  | _ => []) ++ v.ownBlock.toList
theorem SetAt.lt {w : World} {b : Nat} {v : Value} {rs : List Row} (h : SetAt w b v rs) : b < w.heap.size := (Array.getElem?_eq_some_iff.1 h.blk).1
theorem SetAt.ne {w : World} {b : Nat} {v : Value} {rs : List Row} (h : SetAt w b v rs) : v.ownBlock ≠ some b := by
  intro e
  rcases h.rows.2 with ⟨rfl, _⟩ | ⟨g, cap, cur, rfl, _, hg, _⟩
  · simp [Value.ownBlock] at e
  · simp [Value.ownBlock] at e
    subst e
    rw [h.blk] at hg
    simp at hg
theorem SetAt.turn {F : List Nat} {w w' : World} {b : Nat} {v : Value} {rs : List Row} (h : SetAt w b v rs) (t : Turn F w w') (hb : b ∉ F) (hv : ∀ g, v.ownBlock = some g → g ∉ F) : SetAt w' b v rs :=
  ⟨t.heap h.blk hb, h.rows.turn t hv, h.ok⟩
theorem SetAt.turn' {w w' : World} {b : Nat} {v : Value} {rs : List Row} (h : SetAt w b v rs) (t : Turn [] w w') : SetAt w' b v rs := h.turn t (by simp) (by simp)
theorem SetV.turn' {w w' : World} {p v : Value} {rs : List Row} (h : SetV w p v rs) (t : Turn [] w w') : SetV w' p v rs := by
  rcases h with h | ⟨b, e, h⟩
  · exact .inl h
  · exact .inr ⟨b, e, h.turn' t⟩
theorem Ok.nil : Ok [] := ⟨List.Pairwise.nil, by simp, by simp⟩
theorem SetV.ok {w : World} {p v : Value} {rs : List Row} (h : SetV w p v rs) : Ok rs := by
  rcases h with ⟨_, _, rfl⟩ | ⟨b, _, h⟩
  · exact Ok.nil
  · exact h.ok
theorem SetV.form {w : World} {p v : Value} {rs : List Row} (h : SetV w p v rs) : ∃ A c, v = .slice A rs.length c ∧ RowsAt w A rs ∧ rs.length ≤ c := by
  rcases h with ⟨_, rfl, rfl⟩ | ⟨b, _, h⟩
  · exact ⟨none, 0, rfl, fun i r hr => by simp at hr, by simp⟩
  · exact h.rows.form

set_option maxHeartbeats 400000 in
theorem all_any (p v : Value) (rs : List Row) (w : World) (h : SetV w p v rs) : Calls Tryd.prog 29 #[p] w fun e w' => e = .returned v ∧ w = w' := by
  obtain ⟨A, c, hv, _, _⟩ := h.form
  rcases h with ⟨rfl, rfl, _⟩ | ⟨b, rfl, h⟩
  · go_enter Tryd.func29, Tryd.ntmps29
    go_wp2
    go_ret
    exact ⟨rfl, rfl⟩
  · subst hv
    have hc : w.cell? ⟨b, 0, none⟩ = some (.slice A rs.length c) := cell_of_row w b 0 _ 39 (0, 0) h.blk
    clear h
    go_enter Tryd.func29, Tryd.ntmps29
    go_wp2
    go_ret
    exact ⟨rfl, rfl⟩
set_option maxHeartbeats 400000 in
theorem len_any (p v : Value) (rs : List Row) (w : World) (h : SetV w p v rs) : Calls Tryd.prog 12 #[p] w fun e w' => e = .returned (.int .i64 (total rs)) ∧ w = w' := by
  rcases h with ⟨rfl, rfl, rfl⟩ | ⟨b, rfl, h⟩
  · go_enter Tryd.func12, Tryd.ntmps12
    go_wp2
    go_ret
    exact ⟨rfl, rfl⟩
  · have hc : w.cell? ⟨b, 1, none⟩ = some (.int .i64 (total rs)) := cell_of_row w b 1 _ 39 (0, 0) h.blk
    clear h
    generalize total rs = n at *
    go_enter Tryd.func12, Tryd.ntmps12
    go_wp2
    go_ret
    exact ⟨rfl, rfl⟩
set_option maxHeartbeats 400000 in
theorem find_any (p v : Value) (rs : List Row) (t : Nat) (w : World) (h : SetV w p v rs) (ht : t < 100000) : Calls Tryd.prog 25 #[p, .int .i64 t] w (FoundPost rs t w) := by
  obtain ⟨A, c, rfl, hrow, hc⟩ := h.form
  have hok := h.ok
  have hlen := hok.len
  have H := Lib.hid h
  have HR := Lib.hid hrow
  have HO := Lib.hid hok
  clear h hrow hok
  generalize hn : rs.length = n at *
  have HN := Lib.hid hn
  clear hn
  go_enter Tryd.func25, Tryd.ntmps25
  go_wp2_with (first
    | (go_at_call 29; refine (all_any p _ rs _ H.out).mono ?_; rintro e w' ⟨rfl, rfl⟩)
    | (go_at_call 36; refine (search_any A n c rs t _ HR.out HN.out.symm (by omega) HO.out.asc HO.out.fits ht).mono ?_; rintro e w' ⟨k, hk, rfl, htt⟩))
  go_ret2
  exact ⟨k, hk, rfl, htt⟩
end Go.Proofs.YtclofjlonncnlaaDoor
