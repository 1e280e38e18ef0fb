import Derived.Test.YtbocejiclellfaaDoorQ00IKit
import Derived.Lib.TrailingZeros

/- Stage 1's text Find: what stage 8 wants of it (printed by conv1.py). -/
set_option linter.unusedSimpArgs false
set_option linter.unusedVariables false
set_option maxRecDepth 100000
namespace Go.Proofs.YtbocejiclellfaaDoor
open Go.RowKit

/-- The slice at A reads as the rows rs. -/
def RowsAt (w : World) (A : Option Addr) (rs : List Row) : Prop :=
  ∀ i r, rs[i]? = some r → ∃ g, A = some ⟨g, 0, none⟩ ∧ g < w.heap.size ∧ w.cell? ⟨g, i * 5, none⟩ = some (.int .i64 r.at_) ∧ w.cell? ⟨g, i * 5 + 1, none⟩ = some (.int .u64 r.w0) ∧
    w.cell? ⟨g, i * 5 + 2, none⟩ = some (.int .u64 r.w1) ∧ w.cell? ⟨g, i * 5 + 3, none⟩ = some (.int .u64 r.w2) ∧ w.cell? ⟨g, i * 5 + 4, none⟩ = some (.int .u64 r.w3)
theorem RowsAt.turn {F : List Nat} {w w' : World} {A : Option Addr} {rs : List Row} (h : RowsAt w A rs) (t : Turn F w w') (hn : ∀ g, A = some ⟨g, 0, none⟩ → g ∉ F) : RowsAt w' A rs := fun i r hr => by
  obtain ⟨g, e, hg, c⟩ := h i r hr
  have k := fun o => t.cell (p := ⟨g, o, none⟩) hg (hn g e)
  exact ⟨g, e, Nat.lt_of_lt_of_le hg t.size, (k _).trans c.1, (k _).trans c.2.1, (k _).trans c.2.2.1, (k _).trans c.2.2.2.1, (k _).trans c.2.2.2.2⟩
theorem RowsAt.turn' {w w' : World} {A : Option Addr} {rs : List Row} (h : RowsAt w A rs) (t : Turn [] w w') : RowsAt w' A rs := h.turn t (by simp)
theorem OwnR.form {w : World} {B : Nat} {v : Value} {rs : List Row} (h : OwnR w B v rs) : ∃ A c, v = .slice A rs.length c ∧ RowsAt w A rs ∧ rs.length ≤ c := by
  rcases h.2 with ⟨rfl, hn⟩ | ⟨g, cap, cur, rfl, hb, hg, hnc, _, _, ht⟩
  · refine ⟨none, 0, by rw [hn], fun k y hy => ?_, by omega⟩
    rw [List.eq_nil_of_length_eq_zero hn] at hy
    simp at hy
  · exact ⟨_, cap, rfl, fun k y hy => ⟨g, rfl, (Array.getElem?_eq_some_iff.1 hg).1, OwnR.cells h rfl hy⟩, hnc⟩
/-- Where the row of place t stands, or would stand. -/
structure Cut (rs : List Row) (t k : Nat) : Prop where
  le : k ≤ rs.length
  lo : ∀ i r, i < k → rs[i]? = some r → r.at_ < t
  hi : ∀ i r, k ≤ i → rs[i]? = some r → t ≤ r.at_
def hit (rs : List Row) (t k : Nat) : Bool := match rs[k]? with
  | some r => decide (r.at_ = t)
  | none => false
theorem hit_some {rs : List Row} {t k : Nat} {r : Row} (h : rs[k]? = some r) : hit rs t k = decide (r.at_ = t) := by simp [hit, h]
theorem hit_none {rs : List Row} {t k : Nat} (h : ¬ k < rs.length) : hit rs t k = false := by simp [hit, List.getElem?_eq_none (Nat.le_of_not_lt h)]
def Asc (rs : List Row) : Prop := rs.Pairwise (fun r s => r.at_ < s.at_)
theorem Asc.lt {rs : List Row} (h : Asc rs) {i j : Nat} {r s : Row} (hi : rs[i]? = some r) (hj : rs[j]? = some s) (hij : i < j) : r.at_ < s.at_ := by
  obtain ⟨h1, rfl⟩ := List.getElem?_eq_some_iff.1 hi
  obtain ⟨h2, rfl⟩ := List.getElem?_eq_some_iff.1 hj
  exact List.pairwise_iff_getElem.1 h i j h1 h2 hij
def FoundPost (rs : List Row) (t : Nat) (w : World) (e : Ending) (w' : World) : Prop := ∃ k : Nat, Cut rs t k ∧ e = .returned (.tuple #[.int .i64 k, .bool (hit rs t k)]) ∧ Turn [] w w'
theorem ret_ib {a b : Int} {c d : Bool} (h : a = b) (h' : c = d) : Ending.returned (.tuple #[.int .i64 a, .bool c]) = .returned (.tuple #[.int .i64 b, .bool d]) := by rw [h, h']
set_option maxHeartbeats 1000000 in
theorem search_any (A : Option Addr) (n c : Nat) (rs : List Row) (t : Nat) (w : World) (h : RowsAt w A rs) (hn : n = rs.length) (hl : n ≤ 100000) (ha : Asc rs) (hf : ∀ r ∈ rs, r.Fits) (ht : t < 100000) :
    Calls Tryd.prog 90 #[.slice A n c, .int .i64 t, .func (.func 91) #[] #[]] w (FoundPost rs t w) := by
  have HN := Lib.hid hn
  have H := Lib.hid h
  have HA := Lib.hid ha
  have HF := Lib.hid hf
  clear hn h ha hf
  go_enter Tryd.func90, Tryd.ntmps90
  go_wp2
  go_loopw [9, 10] (fun p q wr => ∃ i j : Nat, i ≤ j ∧ j ≤ n ∧ p = .int .i64 i ∧ q = .int .i64 j ∧ (∀ k r, k < i → rs[k]? = some r → r.at_ < t) ∧ (∀ k r, j ≤ k → rs[k]? = some r → t ≤ r.at_) ∧ Turn [] w wr) (fun p q _ => (intOf q - intOf p).toNat)
  case atStart => exact ⟨0, n, by omega, by omega, rfl, rfl, fun k r hk => by omega, fun k r hk hr => by
    have := (List.getElem?_eq_some_iff.1 hr).1
    have := HN.out
    omega, Turn.refl _ _⟩
  case round =>
    obtain ⟨i, j, hij, hj, rfl, rfl, h1, h2, ht1⟩ := hrel
    have H1 := Lib.hid h1
    have H2 := Lib.hid h2
    have HT := Lib.hid ht1
    clear h1 h2 ht1
    by_cases hlt : i < j
    · obtain ⟨m, hm⟩ : ∃ m, m = (i + j) / 2 := ⟨_, rfl⟩
      obtain ⟨r, hr⟩ := at_lt (show m < rs.length by have := HN.out; omega)
      obtain ⟨g, rfl, hg, c0, c1, c2, c3, c4⟩ := (H.out.turn' HT.out) m r hr
      have hfit := HF.out r (List.mem_of_getElem? hr)
      have hra := hfit.a
      have HR := Lib.hid hr
      have hm1 : i ≤ m := by omega
      have hm2 : m < j := by omega
      have HM := Lib.hid hm
      have hmi : ((i : Int) + (j : Int)) / 2 = (m : Int) := by omega
      clear hr hm hfit
      by_cases hc : r.at_ < t
      · have hd : decide ((r.at_ : Int) - (t : Int) < 0) = true := by simp; omega
        go_wp2_with (go_at_call 91; refine (cmp_walk r.at_ r.w0 r.w1 r.w2 r.w3 t _ (by omega) (by omega)).mono ?_; rintro e w' ⟨rfl, ht2⟩; have HT2 := Lib.hid ht2; clear ht2)
        go_roundw
        case rel => exact ⟨m + 1, j, by omega, by omega, by go_num, rfl, fun k s hk hs => by
          rcases Nat.lt_or_ge k m with h3 | h3
          · exact Nat.lt_trans (HA.out.lt hs HR.out h3) hc
          · have e : k = m := by omega
            subst e
            have := HR.out.symm.trans hs
            injection this with e
            subst e
            exact hc, H2.out, HT.out.trans' HT2.out⟩
        case measure => simp [intOf]; omega
      · have hd : decide ((r.at_ : Int) - (t : Int) < 0) = false := by simp; omega
        go_wp2_with (go_at_call 91; refine (cmp_walk r.at_ r.w0 r.w1 r.w2 r.w3 t _ (by omega) (by omega)).mono ?_; rintro e w' ⟨rfl, ht2⟩; have HT2 := Lib.hid ht2; clear ht2)
        go_roundw
        case rel => exact ⟨i, m, by omega, by omega, rfl, rfl, H1.out, fun k s hk hs => by
          rcases Nat.lt_or_ge m k with h3 | h3
          · have := HA.out.lt HR.out hs h3
            omega
          · have e : k = m := by omega
            subst e
            have := HR.out.symm.trans hs
            injection this with e
            subst e
            omega, HT.out.trans' HT2.out⟩
        case measure => simp [intOf]; omega
    · obtain rfl : i = j := by omega
      have hcut : Cut rs t i := ⟨by have := HN.out; omega, H1.out, H2.out⟩
      have HC := Lib.hid hcut
      clear hcut
      by_cases hin : i < n
      · obtain ⟨r, hr⟩ := at_lt (show i < rs.length by have := HN.out; omega)
        obtain ⟨g, rfl, hg, c0, c1, c2, c3, c4⟩ := (H.out.turn' HT.out) i r hr
        have hfit := HF.out r (List.mem_of_getElem? hr)
        have hra := hfit.a
        have HR := Lib.hid hr
        have hdi : decide ((i : Int) < (n : Int)) = true := by simp; omega
        clear hr hfit
        cases hq : ((r.at_ : Int) - (t : Int) == 0)
        all_goals
          go_wp2_with (go_at_call 91; refine (cmp_walk r.at_ r.w0 r.w1 r.w2 r.w3 t _ (by omega) (by omega)).mono ?_; rintro e w' ⟨rfl, ht2⟩; have HT2 := Lib.hid ht2; clear ht2)
          go_ret2
          refine ⟨i, HC.out, ret_ib rfl ?_, HT.out.trans' HT2.out⟩
          rw [hit_some HR.out]
          simp at hq ⊢
          omega
      · have hdi : decide ((i : Int) < (n : Int)) = false := by simp; omega
        go_wp2
        go_ret2
        refine ⟨i, HC.out, ret_ib rfl ?_, HT.out⟩
        rw [hit_none (by have := HN.out; omega)]
end Go.Proofs.YtbocejiclellfaaDoor

/- Stage 1's text Set: what stage 8 wants of it (printed by conv1.py). -/
set_option linter.unusedSimpArgs false
set_option linter.unusedVariables false
set_option maxRecDepth 100000
namespace Go.Proofs.YtbocejiclellfaaDoor
open Go.RowKit

def total (rs : List Row) : Nat := (rs.map Row.count).sum
/-- Rows as a set keeps them: rising, none empty, all in their ranges. -/
structure Ok (rs : List Row) : Prop where
  asc : Asc rs
  fits : ∀ r ∈ rs, r.Fits
  some_ : ∀ r ∈ rs, 0 < r.count
theorem asc_len {rs : List Row} (h : Asc rs) (lo : Nat) (hlo : ∀ r ∈ rs, lo ≤ r.at_) (hf : ∀ r ∈ rs, r.at_ < 4096) : rs.length + lo ≤ 4096 ∨ rs = [] := by
  induction rs generalizing lo with
  | nil => exact .inr rfl
  | cons r t ih =>
    left
    have h1 := List.pairwise_cons.1 h
    have hr := hf r (by simp)
    have hl := hlo r (by simp)
    rcases ih h1.2 (r.at_ + 1) (fun s hs => h1.1 s hs) (fun s hs => hf s (by simp [hs])) with h2 | h2
    · simp only [List.length_cons]; omega
    · subst h2; simp; omega
theorem Ok.len {rs : List Row} (h : Ok rs) : rs.length ≤ 4096 := by
  rcases asc_len h.asc 0 (fun _ _ => Nat.zero_le _) (fun r hr => (h.fits r hr).a) with h1 | h1
  · omega
  · subst h1; simp
theorem Row.count_le (r : Row) : r.count ≤ 256 := by
  have h0 := popN_le 64 r.w0
  have h1 := popN_le 64 r.w1
  have h2 := popN_le 64 r.w2
  have h3 := popN_le 64 r.w3
  unfold Row.count; omega
theorem total_le (rs : List Row) : total rs ≤ rs.length * 256 := by
  induction rs with
  | nil => simp [total]
  | cons r t ih =>
    have := r.count_le
    simp only [total, List.map_cons, List.sum_cons, List.length_cons] at *
    omega
theorem Ok.total {rs : List Row} (h : Ok rs) : total rs ≤ 1048576 := by
  have h1 := total_le rs
  have h2 := h.len
  omega
/-- Block b is a set whose slice is v and whose rows are rs. -/
structure SetAt (w : World) (b : Nat) (v : Value) (rs : List Row) : Prop where
  blk : w.heap[b]? = some (.cells #[v, .int .i64 (total rs)] 129 (0, 0))
  rows : OwnR w 0 v rs
  ok : Ok rs
/-- The pointer p is nil, which stands for no rows, or points to a set. -/
def SetV (w : World) (p v : Value) (rs : List Row) : Prop := (p = .pointer none ∧ v = .slice none 0 0 ∧ rs = []) ∨ ∃ b, p = .pointer (some ⟨b, 0, none⟩) ∧ SetAt w b v rs
theorem SetAt.lt {w : World} {b : Nat} {v : Value} {rs : List Row} (h : SetAt w b v rs) : b < w.heap.size := (Array.getElem?_eq_some_iff.1 h.blk).1
theorem SetAt.ne {w : World} {b : Nat} {v : Value} {rs : List Row} (h : SetAt w b v rs) : v.ownBlock ≠ some b := by
  intro e
  rcases h.rows.2 with ⟨rfl, _⟩ | ⟨g, cap, cur, rfl, _, hg, _⟩
  · simp [Value.ownBlock] at e
  · simp [Value.ownBlock] at e
    subst e
    rw [h.blk] at hg
    simp at hg
theorem SetAt.turn {F : List Nat} {w w' : World} {b : Nat} {v : Value} {rs : List Row} (h : SetAt w b v rs) (t : Turn F w w') (hb : b ∉ F) (hv : ∀ g, v.ownBlock = some g → g ∉ F) : SetAt w' b v rs :=
  ⟨t.heap h.blk hb, h.rows.turn t hv, h.ok⟩
theorem SetAt.turn' {w w' : World} {b : Nat} {v : Value} {rs : List Row} (h : SetAt w b v rs) (t : Turn [] w w') : SetAt w' b v rs := h.turn t (by simp) (by simp)
theorem SetV.turn' {w w' : World} {p v : Value} {rs : List Row} (h : SetV w p v rs) (t : Turn [] w w') : SetV w' p v rs := by
  rcases h with h | ⟨b, e, h⟩
  · exact .inl h
  · exact .inr ⟨b, e, h.turn' t⟩
theorem Ok.nil : Ok [] := ⟨List.Pairwise.nil, by simp, by simp⟩
theorem SetV.ok {w : World} {p v : Value} {rs : List Row} (h : SetV w p v rs) : Ok rs := by
  rcases h with ⟨_, _, rfl⟩ | ⟨b, _, h⟩
  · exact Ok.nil
  · exact h.ok
theorem SetV.form {w : World} {p v : Value} {rs : List Row} (h : SetV w p v rs) : ∃ A c, v = .slice A rs.length c ∧ RowsAt w A rs ∧ rs.length ≤ c := by
  rcases h with ⟨_, rfl, rfl⟩ | ⟨b, _, h⟩
  · exact ⟨none, 0, rfl, fun i r hr => by simp at hr, by simp⟩
  · exact h.rows.form
set_option maxHeartbeats 400000 in
theorem all_any (p v : Value) (rs : List Row) (w : World) (h : SetV w p v rs) : Calls Tryd.prog 87 #[p] w fun e w' => e = .returned v ∧ w = w' := by
  obtain ⟨A, c, hv, _, _⟩ := h.form
  rcases h with ⟨rfl, rfl, _⟩ | ⟨b, rfl, h⟩
  · go_enter Tryd.func87, Tryd.ntmps87
    go_wp2
    go_ret
    exact ⟨rfl, rfl⟩
  · subst hv
    have hc : w.cell? ⟨b, 0, none⟩ = some (.slice A rs.length c) := cell_of_row w b 0 _ 129 (0, 0) h.blk
    clear h
    go_enter Tryd.func87, Tryd.ntmps87
    go_wp2
    go_ret
    exact ⟨rfl, rfl⟩
set_option maxHeartbeats 400000 in
theorem len_any (p v : Value) (rs : List Row) (w : World) (h : SetV w p v rs) : Calls Tryd.prog 86 #[p] w fun e w' => e = .returned (.int .i64 (total rs)) ∧ w = w' := by
  rcases h with ⟨rfl, rfl, rfl⟩ | ⟨b, rfl, h⟩
  · go_enter Tryd.func86, Tryd.ntmps86
    go_wp2
    go_ret
    exact ⟨rfl, rfl⟩
  · have hc : w.cell? ⟨b, 1, none⟩ = some (.int .i64 (total rs)) := cell_of_row w b 1 _ 129 (0, 0) h.blk
    clear h
    generalize total rs = n at *
    go_enter Tryd.func86, Tryd.ntmps86
    go_wp2
    go_ret
    exact ⟨rfl, rfl⟩
set_option maxHeartbeats 400000 in
theorem find_any (p v : Value) (rs : List Row) (t : Nat) (w : World) (h : SetV w p v rs) (ht : t < 100000) : Calls Tryd.prog 82 #[p, .int .i64 t] w (FoundPost rs t w) := by
  obtain ⟨A, c, rfl, hrow, hc⟩ := h.form
  have hok := h.ok
  have hlen := hok.len
  have H := Lib.hid h
  have HR := Lib.hid hrow
  have HO := Lib.hid hok
  clear h hrow hok
  generalize hn : rs.length = n at *
  have HN := Lib.hid hn
  clear hn
  go_enter Tryd.func82, Tryd.ntmps82
  go_wp2_with (first
    | (go_at_call 87; refine (all_any p _ rs _ H.out).mono ?_; rintro e w' ⟨rfl, rfl⟩)
    | (go_at_call 90; refine (search_any A n c rs t _ HR.out HN.out.symm (by omega) HO.out.asc HO.out.fits ht).mono ?_; rintro e w' ⟨k, hk, rfl, htt⟩))
  go_ret2
  exact ⟨k, hk, rfl, htt⟩
end Go.Proofs.YtbocejiclellfaaDoor

/- Stage 1's text Set2: what stage 8 wants of it (printed by conv1.py). -/
set_option linter.unusedSimpArgs false
set_option linter.unusedVariables false
set_option maxRecDepth 100000
namespace Go.Proofs.YtbocejiclellfaaDoor
open Go.RowKit

attribute [local go_sem] idx44_0 idx44_1 idx44_2 idx44_3
/-- The row of place t; an empty one, if there is none. -/
def rowOf (rs : List Row) (t : Nat) : Row := match rs.find? (fun r => r.at_ == t) with
  | some r => r
  | none => ⟨t, 0, 0, 0, 0⟩
theorem find_at {rs : List Row} {t k : Nat} {r : Row} (hc : Cut rs t k) (hr : rs[k]? = some r) (he : r.at_ = t) : rs.find? (fun r => r.at_ == t) = some r := by
  induction rs generalizing k with
  | nil => simp at hr
  | cons s l ih =>
    cases k with
    | zero =>
      simp at hr
      subst hr
      simp [List.find?_cons, he]
    | succ k =>
      have hs := hc.lo 0 s (by omega) rfl
      rw [List.find?_cons]
      simp only [show (s.at_ == t) = false by simp; omega]
      exact ih (k := k) ⟨by have := hc.le; simp at this; omega, fun i q hi hq => hc.lo (i + 1) q (by omega) (by simpa using hq), fun i q hi hq => hc.hi (i + 1) q (by omega) (by simpa using hq)⟩ (by simpa using hr)
theorem rowOf_hit {rs : List Row} {t k : Nat} {r : Row} (hc : Cut rs t k) (hr : rs[k]? = some r) (he : r.at_ = t) : rowOf rs t = r := by simp [rowOf, find_at hc hr he]
theorem no_row {rs : List Row} {t k : Nat} (hc : Cut rs t k) (ha : Asc rs) (hm : hit rs t k = false) : ∀ r ∈ rs, r.at_ ≠ t := by
  intro r hr e
  obtain ⟨i, hi⟩ := List.getElem?_of_mem hr
  rcases Nat.lt_or_ge i k with h | h
  · have := hc.lo i r h hi
    omega
  · rcases Nat.lt_or_ge k i with h2 | h2
    · obtain ⟨s, hs⟩ := at_lt (show k < rs.length by have := (List.getElem?_eq_some_iff.1 hi).1; omega)
      have h3 := ha.lt hs hi h2
      have h4 := hc.hi k s (by omega) hs
      omega
    · have e2 : i = k := by omega
      subst e2
      rw [hit_some hi] at hm
      simp at hm
      exact hm e
theorem rowOf_miss {rs : List Row} {t k : Nat} (hc : Cut rs t k) (ha : Asc rs) (hm : hit rs t k = false) : rowOf rs t = ⟨t, 0, 0, 0, 0⟩ := by
  have : rs.find? (fun r => r.at_ == t) = none := by
    rw [List.find?_eq_none]
    intro r hr
    simpa using no_row hc ha hm r hr
  simp [rowOf, this]
theorem hit_true {rs : List Row} {t k : Nat} (h : hit rs t k = true) : ∃ r, rs[k]? = some r ∧ r.at_ = t := by
  unfold hit at h
  split at h
  · rename_i r hr
    exact ⟨r, hr, by simpa using h⟩
  · cases h
theorem five {w : World} {b : Nat} {x0 x1 x2 x3 x4 : Value} (h : w.heap[b]? = some (.cells #[x0, x1, x2, x3, x4] 135 (0, 0))) :
    (w.cell? ⟨b, 0, none⟩ = some x0 ∧ w.cell? ⟨b, 1, none⟩ = some x1 ∧ w.cell? ⟨b, 2, none⟩ = some x2 ∧ w.cell? ⟨b, 3, none⟩ = some x3 ∧ w.cell? ⟨b, 4, none⟩ = some x4) ∧
    (w.frozen? ⟨b, 0, none⟩ = false ∧ w.frozen? ⟨b, 1, none⟩ = false ∧ w.frozen? ⟨b, 2, none⟩ = false ∧ w.frozen? ⟨b, 3, none⟩ = false ∧ w.frozen? ⟨b, 4, none⟩ = false) :=
  ⟨⟨cell_of_row w b 0 _ 135 (0, 0) h, cell_of_row w b 1 _ 135 (0, 0) h, cell_of_row w b 2 _ 135 (0, 0) h, cell_of_row w b 3 _ 135 (0, 0) h, cell_of_row w b 4 _ 135 (0, 0) h⟩,
   ⟨frozen_of_row w b 0 _ 135 h, frozen_of_row w b 1 _ 135 h, frozen_of_row w b 2 _ 135 h, frozen_of_row w b 3 _ 135 h, frozen_of_row w b 4 _ 135 h⟩⟩
set_option maxHeartbeats 1000000 in
theorem rowAt_any (p v : Value) (rs : List Row) (t : Nat) (w : World) (h : SetV w p v rs) (ht : t < 100000) :
    Calls Tryd.prog 89 #[p, .int .i64 t] w fun e w' => e = .returned (rowOf rs t).val ∧ Turn [] w w' := by
  obtain ⟨A, c, rfl, hrow, hc⟩ := h.form
  have hok := h.ok
  have hlen := hok.len
  have H := Lib.hid h
  have HR := Lib.hid hrow
  have HO := Lib.hid hok
  clear h hrow hok
  go_enter Tryd.func89, Tryd.ntmps89
  go_wp2_with fail
  refine (find_any p _ rs t _ (H.out.turn' ((Turn.refl _ _).alloc _)) ht).mono ?_
  rintro e w1 ⟨k, hk, rfl, htt⟩
  have HK := Lib.hid hk
  have hT : Turn [] w w1 := ((Turn.refl [] w).alloc _).trans' htt
  obtain ⟨⟨d0, d1, d2, d3, d4⟩, ⟨f0, f1, f2, f3, f4⟩⟩ := five (htt.heap (heap_alloc_new w _) (by simp))
  have HT := Lib.hid hT
  have hlt : w.heap.size < w1.heap.size := by have := htt.size; simp at this; omega
  clear hk htt hT
  cases hh : hit rs t k
  · have HM := Lib.hid (rowOf_miss HK.out HO.out.asc hh)
    have HH := Lib.hid hh
    clear hh
    go_wp2
    refine bodyPost_ret (v := (rowOf rs t).val) ?_ rfl ⟨rfl, ?_⟩
    · rw [HM.out]
      simp [results, Tryd.results89, go_sem, Row.val, d0, d1, d2, d3, d4, f0, f1, f2, f3, f4]
    · repeat (first | exact HT.out | refine Turn.setCell ?_ (.inr (Nat.le_refl _)) _)
  · obtain ⟨r, hr, he⟩ := hit_true hh
    have HM := Lib.hid (rowOf_hit HK.out hr he)
    have hkn : k < rs.length := (List.getElem?_eq_some_iff.1 hr).1
    obtain ⟨g, rfl, hg, c0, c1, c2, c3, c4⟩ := (HR.out.turn' HT.out) k r hr
    have hs : ∃ b, p = .pointer (some ⟨b, 0, none⟩) ∧ w1.cell? ⟨b, 0, none⟩ = some (.slice (some ⟨g, 0, none⟩) rs.length c) := by
      rcases H.out.turn' HT.out with ⟨_, h1, _⟩ | ⟨b, rfl, h1⟩
      · cases h1
      · exact ⟨b, rfl, cell_of_row w1 b 0 _ 129 (0, 0) h1.blk⟩
    obtain ⟨b, rfl, hcb⟩ := hs
    have HH := Lib.hid hh
    have HE := Lib.hid he
    have HRk := Lib.hid hr
    clear hh he hr
    go_wp2
    refine bodyPost_ret (v := (rowOf rs t).val) ?_ rfl ⟨rfl, ?_⟩
    · rw [HM.out]
      simp [results, Tryd.results89, go_sem, Row.val, d0, d1, d2, d3, d4, f0, f1, f2, f3, f4]
    · repeat (first | exact HT.out | refine Turn.setCell ?_ (.inr (Nat.le_refl _)) _)
def hasRow (rs : List Row) (t : Nat) : Bool := rs.any (fun r => r.at_ == t)
theorem hit_eq {rs : List Row} {t k : Nat} (hc : Cut rs t k) (ha : Asc rs) : hit rs t k = hasRow rs t := by
  cases hh : hit rs t k
  · symm
    rw [hasRow, List.any_eq_false]
    intro r hr
    simpa using no_row hc ha hh r hr
  · obtain ⟨r, hr, he⟩ := hit_true hh
    symm
    rw [hasRow, List.any_eq_true]
    exact ⟨r, List.mem_of_getElem? hr, by simpa using he⟩
end Go.Proofs.YtbocejiclellfaaDoor

/- Stage 1's text Has: what stage 8 wants of it (printed by conv1.py). -/
set_option linter.unusedSimpArgs false
set_option linter.unusedVariables false
set_option maxRecDepth 100000
namespace Go.Proofs.YtbocejiclellfaaDoor
open Go.RowKit

theorem fld46 (a : Nat) (v0 v1 v2 v3 : Nat) (w : World) : (Instr.field 135 (.agg #[.int .i64 a, .int .u64 v0, .int .u64 v1, .int .u64 v2, .int .u64 v3]) 1).run Tryd.prog w = .ok (.agg #[.int .u64 v0, .int .u64 v1, .int .u64 v2, .int .u64 v3]) w := by kernel_rfl
attribute [local go_sem] idx44_0 idx44_1 idx44_2 idx44_3 fld46
def Row.word (r : Row) (i : Nat) : Nat := match i with
  | 0 => r.w0
  | 1 => r.w1
  | 2 => r.w2
  | _ => r.w3
/-- Is the row's bit j set? -/
def Row.bit (r : Row) (j : Nat) : Bool := (r.word (j / 64)).testBit (j % 64)
/-- Have the rows the number? -/
def hasN (rs : List Row) (n : Nat) : Bool := (rowOf rs (n / 256)).bit (n % 256)
theorem and_pow (x n : Nat) (hx : x < 18446744073709551616) : (bits BinOp.and IntKind.u64 (x : Int) ((2 ^ (n % 64) : Nat) : Int) != 0) = x.testBit (n % 64) := by
  rw [u64_and_nat x _ hx (pow_lt64 n)]
  cases hb : x.testBit (n % 64)
  · have h0 : x &&& 2 ^ (n % 64) = 0 := by
      apply Nat.eq_of_testBit_eq
      intro i
      rw [Nat.testBit_and, Nat.testBit_two_pow, Nat.zero_testBit]
      by_cases e : n % 64 = i
      · subst e; simp [hb]
      · simp [e]
    rw [h0]; rfl
  · have h1 : (x &&& 2 ^ (n % 64)).testBit (n % 64) = true := by rw [Nat.testBit_and, Nat.testBit_two_pow]; simp [hb]
    have h0 : x &&& 2 ^ (n % 64) ≠ 0 := by
      intro e
      rw [e, Nat.zero_testBit] at h1
      cases h1
    rw [bne_iff_ne]
    omega
theorem rowOf_fits {rs : List Row} (h : ∀ r ∈ rs, r.Fits) {t : Nat} (ht : t < 4096) : (rowOf rs t).Fits := by
  unfold rowOf
  split
  · rename_i r hr
    exact h r (List.mem_of_find?_eq_some hr)
  · exact ⟨ht, Nat.zero_lt_of_lt (by decide : 1 < 18446744073709551616), Nat.zero_lt_of_lt (by decide : 1 < 18446744073709551616), Nat.zero_lt_of_lt (by decide : 1 < 18446744073709551616), Nat.zero_lt_of_lt (by decide : 1 < 18446744073709551616)⟩
set_option maxHeartbeats 1000000 in
theorem has_in (p v : Value) (rs : List Row) (n : Nat) (w : World) (h : SetV w p v rs) (hn : n < 1048576) : Calls Tryd.prog 81 #[p, .int .i64 n] w fun e w' => e = .returned (.bool (hasN rs n)) ∧ Turn [] w w' := by
  have H := Lib.hid h
  have hok : okB n = true := by simp [okB]; omega
  have HOk := Lib.hid hok
  have hf := rowOf_fits h.ok.fits (show n / 256 < 4096 by omega)
  have hw : hasN rs n = ((rowOf rs (n / 256)).word (n % 256 / 64)).testBit (n % 64) := by
    unfold hasN Row.bit
    rw [show n % 256 % 64 = n % 64 by omega]
  have hr : ∀ W, SetV W p v rs → Calls Tryd.prog 89 #[p, .int .i64 ((n : Int) / 256)] W fun e w' => e = .returned (rowOf rs (n / 256)).val ∧ Turn [] W w' := fun W hW => by
    have := rowAt_any p v rs (n / 256) W hW (by omega)
    rwa [show (((n / 256 : Nat)) : Int) = (n : Int) / 256 by omega] at this
  have HR := Lib.hid hr
  generalize rowOf rs (n / 256) = r at *
  have HW := Lib.hid hw
  obtain ⟨a, w0, w1, w2, w3⟩ := r
  obtain ⟨_, b0, b1, b2, b3⟩ := hf
  simp only at b0 b1 b2 b3
  have HB := Lib.hid (bitOf_walk n)
  have a0 := and_pow w0 n b0
  have a1 := and_pow w1 n b1
  have a2 := and_pow w2 n b2
  have a3 := and_pow w3 n b3
  clear h hok hw hr
  generalize hbit : 2 ^ (n % 64) = bt at *
  have HBT := Lib.hid hbit
  clear hbit
  have hcase : n % 256 / 64 = 0 ∨ n % 256 / 64 = 1 ∨ n % 256 / 64 = 2 ∨ n % 256 / 64 = 3 := by omega
  rcases hcase with hcs | hcs | hcs | hcs
  all_goals
    rw [hcs] at HB HW
    have HCS := Lib.hid hcs
    clear hcs
    go_enter Tryd.func81, Tryd.ntmps81
    go_wp2_with (first
      | (go_at_call 80; refine (mayHold_any n _).mono ?_; rw [HOk.out]; rintro e w' ⟨rfl, rfl⟩)
      | (go_at_call 84; refine (HB.out _ (by omega)).mono ?_; rintro e w' ⟨rfl, q, rfl⟩)
      | (go_at_call 89; refine (HR.out _ (H.out.turn' ((Turn.refl _ _).drewN q))).mono ?_; rintro e w' ⟨rfl, ht⟩; simp only [Row.val]; have HT := Lib.hid ht; clear ht))
    go_ret
    refine ⟨ret_bool ?_, Turn.trans' ((Turn.refl _ _).drewN q) HT.out⟩
    rw [HW.out]
    rfl
end Go.Proofs.YtbocejiclellfaaDoor

/- Stage 1's text Bl: what stage 8 wants of it (printed by conv1.py). -/
set_option linter.unusedSimpArgs false
set_option linter.unusedVariables false
set_option maxRecDepth 100000
namespace Go.Proofs.YtbocejiclellfaaDoor
open Go.RowKit

/-- The places of the set bits of a word, rising. -/
def bitsL (x : Nat) : List Nat := (List.range' 0 64).filter (fun j => x.testBit j)
theorem bit_drop (k m j : Nat) : ((2 ^ k * (2 * m + 1)) &&& (2 ^ k * (2 * m + 1) - 1)).testBit j = ((2 ^ k * (2 * m + 1)).testBit j && decide (j ≠ k)) := by
  have hp : 0 < 2 ^ k := Nat.two_pow_pos k
  have e1 : 2 ^ k * (2 * m + 1) - 1 = 2 ^ k * (2 * m) + (2 ^ k - 1) := by
    rw [Nat.mul_add, Nat.mul_one]; omega
  have e0 : 2 ^ k * (2 * m + 1) = 2 ^ k * (2 * m + 1) + 0 := rfl
  rw [Nat.testBit_and, e1, Nat.testBit_two_pow_mul_add _ (by omega), e0, Nat.testBit_two_pow_mul_add _ hp]
  rcases Nat.lt_trichotomy j k with h | h | h
  · simp [h]
  · subst h; simp
  · obtain ⟨s, rfl⟩ : ∃ s, j = k + (s + 1) := ⟨j - k - 1, by omega⟩
    have hn : ¬ k + (s + 1) < k := by omega
    rw [if_neg hn, if_neg hn, show k + (s + 1) - k = s + 1 by omega, Nat.testBit_succ, Nat.testBit_succ, show (2 * m + 1) / 2 = m by omega, show (2 * m) / 2 = m by omega]
    cases m.testBit s <;> simp
theorem bit_low (k m j : Nat) : (j < k → (2 ^ k * (2 * m + 1)).testBit j = false) ∧ (2 ^ k * (2 * m + 1)).testBit k = true := by
  have hp : 0 < 2 ^ k := Nat.two_pow_pos k
  have e0 : 2 ^ k * (2 * m + 1) = 2 ^ k * (2 * m + 1) + 0 := rfl
  constructor
  · intro h
    rw [e0, Nat.testBit_two_pow_mul_add _ hp]
    simp [h]
  · rw [e0, Nat.testBit_two_pow_mul_add _ hp]
    simp
theorem filter_low (p q : Nat → Bool) (k : Nat) (hq : ∀ j, q j = (p j && decide (j ≠ k))) (hk : p k = true) (n s : Nat) (hs : s ≤ k) (hn : k < s + n) (hlo : ∀ j, j < k → p j = false) :
    (List.range' s n).filter p = k :: (List.range' s n).filter q := by
  induction n generalizing s with
  | zero => omega
  | succ n ih =>
    rw [List.range'_succ]
    by_cases e : s = k
    · subst e
      rw [List.filter_cons, if_pos hk, List.filter_cons, if_neg (by rw [hq]; simp)]
      congr 1
      apply List.filter_congr
      intro j hj
      rw [hq]
      have := List.mem_range'.1 hj
      have hne : j ≠ s := by obtain ⟨i, _, rfl⟩ := this; omega
      simp [hne]
    · have h1 : p s = false := hlo s (by omega)
      rw [List.filter_cons, if_neg (by simp [h1]), List.filter_cons, if_neg (by rw [hq, h1]; simp)]
      exact ih (s + 1) (by omega) (by omega)
/-- The lowest set bit, and the others. -/
theorem bitsL_step (x : Nat) (hx : x < 18446744073709551616) (h0 : x ≠ 0) : bitsL x = Lib.ctz 64 x :: bitsL (x &&& (x - 1)) ∧ x &&& (x - 1) < x ∧ Lib.ctz 64 x < 64 := by
  obtain ⟨m, hm, hk⟩ := Lib.ctzFrom_spec 64 x (by omega) (by simpa using hx)
  have hc : Lib.ctz 64 x = Lib.ctzFrom 64 x := by simp [Lib.ctz, h0]
  generalize Lib.ctzFrom 64 x = k at *
  rw [hc]
  refine ⟨?_, ?_, hk⟩
  · have hl := bit_low k m
    unfold bitsL
    rw [filter_low (fun j => x.testBit j) (fun j => (x &&& (x - 1)).testBit j) k (fun j => by rw [hm]; exact bit_drop k m j) (by rw [hm]; exact (hl 0).2) 64 0 (by omega) (by omega) (fun j hj => by rw [hm]; exact (hl j).1 hj)]
  · have h1 : x &&& (x - 1) ≤ x - 1 := Nat.and_le_right
    omega
theorem bitsL_zero : bitsL 0 = [] := by simp [bitsL]
theorem popN_filter (f s x : Nat) : popN f (x / 2 ^ s) = ((List.range' s f).filter (fun j => x.testBit j)).length := by
  induction f generalizing s with
  | zero => rfl
  | succ f ih =>
    rw [List.range'_succ, List.filter_cons]
    have h := ih (s + 1)
    rw [Nat.pow_succ, ← Nat.div_div_eq_div_mul] at h
    simp only [popN]
    rw [h]
    have ht := Nat.testBit_eq_decide_div_mod_eq (x := x) (i := s)
    rcases Nat.mod_two_eq_zero_or_one (x / 2 ^ s) with e | e
    · rw [e] at ht ⊢
      rw [ht]; simp
    · rw [e] at ht ⊢
      rw [ht]; simp; omega
theorem pop_bits (x : Nat) : popN 64 x = (bitsL x).length := by
  have := popN_filter 64 0 x
  simpa [bitsL] using this
theorem bitsL_length (x : Nat) : (bitsL x).length ≤ 64 := by
  have := List.length_filter_le (fun j => x.testBit j) (List.range' 0 64)
  simpa [bitsL] using this
theorem mem_bitsL (x j : Nat) : j ∈ bitsL x ↔ j < 64 ∧ x.testBit j = true := by
  unfold bitsL
  rw [List.mem_filter, List.mem_range']
  constructor
  · rintro ⟨⟨i, hi, rfl⟩, h⟩
    exact ⟨by omega, h⟩
  · rintro ⟨h, h2⟩
    exact ⟨⟨j, h, by omega⟩, h2⟩
theorem bitsL_sorted (x : Nat) : (bitsL x).Pairwise (· < ·) := by
  unfold bitsL
  exact List.Pairwise.filter _ (List.pairwise_lt_range' (s := 0) (n := 64) 1)
end Go.Proofs.YtbocejiclellfaaDoor

/- Stage 1's text App: what stage 8 wants of it (printed by conv1.py). -/
set_option linter.unusedSimpArgs false
set_option linter.unusedVariables false
set_option maxRecDepth 100000
namespace Go.Proofs.YtbocejiclellfaaDoor
open Go.RowKit

attribute [local go_sem] idx44_0 idx44_1 idx44_2 idx44_3
/-- math/bits' table lies in its variable. -/
def Tab (w : World) : Prop := TabAt 0 Lib.deBruijn64tab w
theorem Tab.turn {F : List Nat} {w w' : World} (h : Tab w) (t : Turn F w w') (h0 : 0 ∉ F) : Tab w' := fun j hj => by
  have hc := h j hj
  have hl : 0 < w.heap.size := World.block_lt_of_cell? w ⟨0, j, none⟩ hc
  exact (t.cell (p := ⟨0, j, none⟩) hl h0).trans hc
theorem Tab.turn' {w w' : World} (h : Tab w) (t : Turn [] w w') : Tab w' := h.turn t (by simp)
def wordNums (base : Int) (x : Nat) : List Int := (bitsL x).map (fun j : Nat => base + (j : Int))
/-- The row's numbers, rising. -/
def Row.nums (r : Row) : List Int := wordNums (r.at_ * 256) r.w0 ++ wordNums (r.at_ * 256 + 64) r.w1 ++ wordNums (r.at_ * 256 + 128) r.w2 ++ wordNums (r.at_ * 256 + 192) r.w3
theorem wordNums_length (b : Int) (x : Nat) : (wordNums b x).length ≤ 64 := by
  have := bitsL_length x
  simpa [wordNums] using this
theorem wordNums_step {b : Int} {x c : Nat} (h : bitsL x = c :: bitsL (x &&& (x - 1))) : wordNums b x = (b + (c : Int)) :: wordNums b (x &&& (x - 1)) := by simp [wordNums, h]
theorem wordNums_zero (b : Int) : wordNums b 0 = [] := by simp [wordNums, bitsL_zero]
/-- Half way through a word: o is the list so far, y what is left of the word. -/
def Mid (w : World) (box : Array Value) (B : Nat) (v : Value) (base : Int) (tgt : List Int) (o x : Value) (wr : World) : Prop :=
  wr.heap[w.heap.size]? = some (.cells box 135 (0, 0)) ∧ ∃ (y : Nat) (l : List Int), x = .int .u64 y ∧ y < 18446744073709551616 ∧ OwnI wr B o l ∧ l ++ wordNums base y = tgt ∧ Turn v.ownBlock.toList w wr ∧ (∀ g, o.ownBlock = some g → g ∈ v.ownBlock.toList ∨ w.heap.size ≤ g)
theorem OwnI.ne_box {w : World} {B b : Nat} {v : Value} {l : List Int} {cs : Array Value} {f : Nat × Nat} {t : TypeId} (h : OwnI w B v l) (hb : w.heap[b]? = some (.cells cs t f)) (ht : t ≠ 3) : v.ownBlock ≠ some b := by
  intro e
  rcases h.2 with ⟨rfl, _⟩ | ⟨g, cap, cur, rfl, _, hg, _⟩
  · simp [Value.ownBlock] at e
  · simp [Value.ownBlock] at e
    subst e
    rw [hb] at hg
    injection hg with hg
    injection hg with _ e _
    exact ht e
theorem and_pred_u64 (y : Nat) (hy : y < 18446744073709551616) (h0 : y ≠ 0) : bits BinOp.and IntKind.u64 (y : Int) ((y : Int) - 1) = ((y &&& (y - 1) : Nat) : Int) := by
  rw [show (y : Int) - 1 = ((y - 1 : Nat) : Int) by omega, u64_and_nat _ _ hy (by omega)]
theorem tz_known (y c : Nat) (hy : y < 18446744073709551616) (h0 : y ≠ 0) (hc : Lib.ctz 64 y = c) (W : World) (hT : Tab W) : Calls Tryd.prog 94 #[.int .u64 y] W fun e w' => e = .returned (.int .i64 c) ∧ W = w' := by
  subst hc
  exact tz64_any y hy h0 W hT
set_option maxHeartbeats 2000000 in
theorem appendTo_walk (a w0 w1 w2 w3 B : Nat) (v : Value) (l : List Int) (w : World) (ha : a < 4096) (b0 : w0 < 18446744073709551616) (b1 : w1 < 18446744073709551616) (b2 : w2 < 18446744073709551616) (b3 : w3 < 18446744073709551616)
    (hv : OwnI w B v l) (hB : B ≤ w.heap.size) (hB0 : 0 < B) (hl : l.length ≤ 1100000) (hT : Tab w) :
    Calls Tryd.prog 88 #[.agg #[.int .i64 a, .int .u64 w0, .int .u64 w1, .int .u64 w2, .int .u64 w3], v] w fun e w' => ∃ v', e = .returned v' ∧ OwnI w' B v' (l ++ (Row.mk a w0 w1 w2 w3).nums) ∧ Turn v.ownBlock.toList w w' ∧ (∀ g, v'.ownBlock = some g → g ∈ v.ownBlock.toList ∨ w.heap.size ≤ g) := by
  have HV := Lib.hid hv
  have HTab := Lib.hid hT
  have h0F : 0 ∉ v.ownBlock.toList := by
    intro h
    have := (hv.lt 0 (by simpa using h)).1
    omega
  have H0F := Lib.hid h0F
  clear hv hT h0F
  go_enter Tryd.func88, Tryd.ntmps88
  go_wp2_with fail
  refine wp_loop_rounds 5 ?_
  rw [rounds_succ]
  go_wp2_with fail
  go_loopw [1, 6] (fun o x wr => Mid w #[.int .i64 a, .int .u64 w0, .int .u64 w1, .int .u64 w2, .int .u64 w3] B v ((a : Int) * 256) (l ++ wordNums ((a : Int) * 256) w0) o x wr) (fun _ x _ => (intOf x).toNat)
  case atStart => exact ⟨heap_alloc_new w _, w0, l, rfl, b0, HV.out.turn' ((Turn.refl _ _).alloc _), rfl, (Turn.refl _ _).alloc _, fun g hg => .inl (by simpa using hg)⟩
  case round =>
    obtain ⟨hbox, y, l1, rfl, hy, ho, he, ht, hfoot⟩ := hrel
    have hcb : wr.cell? ⟨w.heap.size, 0, none⟩ = some (.int .i64 a) := cell_of_row wr w.heap.size 0 _ 135 (0, 0) hbox
    have HBx := Lib.hid hbox
    clear hbox
    have HO := Lib.hid ho
    have HE := Lib.hid he
    have HT := Lib.hid ht
    have HFo := Lib.hid hfoot
    clear ho he ht hfoot
    by_cases hy0 : y = 0
    · subst hy0
      have hfin : OwnI wr B u1 (l ++ wordNums ((a : Int) * 256) w0) := by
        rw [← HE.out, wordNums_zero, List.append_nil]
        exact HO.out
      have HFin0 := Lib.hid hfin
      have HT0 := HT
      have HBx0 := HBx
      have HF0 := HFo
      clear HO HE HT HFo HBx hfin hy
      go_wp2
      rw [rounds_succ]
      go_wp2_with fail
      go_loopw [1, 6] (fun o x wr => Mid w #[.int .i64 a, .int .u64 w0, .int .u64 w1, .int .u64 w2, .int .u64 w3] B v ((a : Int) * 256 + 64) (l ++ wordNums ((a : Int) * 256) w0 ++ wordNums ((a : Int) * 256 + 64) w1) o x wr) (fun _ x _ => (intOf x).toNat)
      case atStart => exact ⟨HBx0.out, w1, l ++ wordNums ((a : Int) * 256) w0, rfl, b1, HFin0.out, rfl, HT0.out, HF0.out⟩
      case round =>
        obtain ⟨hbox, y, l1, rfl, hy, ho, he, ht, hfoot⟩ := hrel
        have hcb : wr.cell? ⟨w.heap.size, 0, none⟩ = some (.int .i64 a) := cell_of_row wr w.heap.size 0 _ 135 (0, 0) hbox
        have HBx := Lib.hid hbox
        clear hbox
        have HO := Lib.hid ho
        have HE := Lib.hid he
        have HT := Lib.hid ht
        have HFo := Lib.hid hfoot
        clear ho he ht hfoot
        by_cases hy0 : y = 0
        · subst hy0
          have hfin : OwnI wr B u1 (l ++ wordNums ((a : Int) * 256) w0 ++ wordNums ((a : Int) * 256 + 64) w1) := by
            rw [← HE.out, wordNums_zero, List.append_nil]
            exact HO.out
          have HFin1 := Lib.hid hfin
          have HT1 := HT
          have HBx1 := HBx
          have HF1 := HFo
          clear HO HE HT HFo HBx hfin hy
          go_wp2
          rw [rounds_succ]
          go_wp2_with fail
          go_loopw [1, 6] (fun o x wr => Mid w #[.int .i64 a, .int .u64 w0, .int .u64 w1, .int .u64 w2, .int .u64 w3] B v ((a : Int) * 256 + 128) (l ++ wordNums ((a : Int) * 256) w0 ++ wordNums ((a : Int) * 256 + 64) w1 ++ wordNums ((a : Int) * 256 + 128) w2) o x wr) (fun _ x _ => (intOf x).toNat)
          case atStart => exact ⟨HBx1.out, w2, l ++ wordNums ((a : Int) * 256) w0 ++ wordNums ((a : Int) * 256 + 64) w1, rfl, b2, HFin1.out, rfl, HT1.out, HF1.out⟩
          case round =>
            obtain ⟨hbox, y, l1, rfl, hy, ho, he, ht, hfoot⟩ := hrel
            have hcb : wr.cell? ⟨w.heap.size, 0, none⟩ = some (.int .i64 a) := cell_of_row wr w.heap.size 0 _ 135 (0, 0) hbox
            have HBx := Lib.hid hbox
            clear hbox
            have HO := Lib.hid ho
            have HE := Lib.hid he
            have HT := Lib.hid ht
            have HFo := Lib.hid hfoot
            clear ho he ht hfoot
            by_cases hy0 : y = 0
            · subst hy0
              have hfin : OwnI wr B u1 (l ++ wordNums ((a : Int) * 256) w0 ++ wordNums ((a : Int) * 256 + 64) w1 ++ wordNums ((a : Int) * 256 + 128) w2) := by
                rw [← HE.out, wordNums_zero, List.append_nil]
                exact HO.out
              have HFin2 := Lib.hid hfin
              have HT2 := HT
              have HBx2 := HBx
              have HF2 := HFo
              clear HO HE HT HFo HBx hfin hy
              go_wp2
              rw [rounds_succ]
              go_wp2_with fail
              go_loopw [1, 6] (fun o x wr => Mid w #[.int .i64 a, .int .u64 w0, .int .u64 w1, .int .u64 w2, .int .u64 w3] B v ((a : Int) * 256 + 192) (l ++ wordNums ((a : Int) * 256) w0 ++ wordNums ((a : Int) * 256 + 64) w1 ++ wordNums ((a : Int) * 256 + 128) w2 ++ wordNums ((a : Int) * 256 + 192) w3) o x wr) (fun _ x _ => (intOf x).toNat)
              case atStart => exact ⟨HBx2.out, w3, l ++ wordNums ((a : Int) * 256) w0 ++ wordNums ((a : Int) * 256 + 64) w1 ++ wordNums ((a : Int) * 256 + 128) w2, rfl, b3, HFin2.out, rfl, HT2.out, HF2.out⟩
              case round =>
                obtain ⟨hbox, y, l1, rfl, hy, ho, he, ht, hfoot⟩ := hrel
                have hcb : wr.cell? ⟨w.heap.size, 0, none⟩ = some (.int .i64 a) := cell_of_row wr w.heap.size 0 _ 135 (0, 0) hbox
                have HBx := Lib.hid hbox
                clear hbox
                have HO := Lib.hid ho
                have HE := Lib.hid he
                have HT := Lib.hid ht
                have HFo := Lib.hid hfoot
                clear ho he ht hfoot
                by_cases hy0 : y = 0
                · subst hy0
                  have hfin : OwnI wr B u1 (l ++ wordNums ((a : Int) * 256) w0 ++ wordNums ((a : Int) * 256 + 64) w1 ++ wordNums ((a : Int) * 256 + 128) w2 ++ wordNums ((a : Int) * 256 + 192) w3) := by
                    rw [← HE.out, wordNums_zero, List.append_nil]
                    exact HO.out
                  have HFin3 := Lib.hid hfin
                  have HT3 := HT
                  have HBx3 := HBx
                  have HF3 := HFo
                  clear HO HE HT HFo HBx hfin hy
                  go_wp2
                  rw [rounds_succ]
                  go_wp2
                  go_ret
                  refine ⟨_, rfl, ?_, HT3.out, HF3.out⟩
                  have := HFin3.out
                  simpa [Row.nums, List.append_assoc] using this
                · have hne : ((y : Int) != 0) = true := by simp; omega
                  obtain ⟨hstep, hless, hc⟩ := bitsL_step y hy hy0
                  have hand := and_pred_u64 y hy hy0
                  generalize hcz : Lib.ctz 64 y = c at *
                  generalize hnx : y &&& (y - 1) = z at *
                  have hst : wordNums ((a : Int) * 256 + 192) y = (((a : Int) * 256 + 192) + (c : Int)) :: wordNums ((a : Int) * 256 + 192) z := by
                    have := hstep
                    rw [← hnx] at this ⊢
                    exact wordNums_step this
                  have hlen : l1.length ≤ 1000000 * 2 := by
                    have h1 := congrArg List.length HE.out
                    simp only [List.length_append] at h1
                    have h2 := wordNums_length (a * 256) w0
                    have h3 := wordNums_length (a * 256 + 64) w1
                    have h4 := wordNums_length (a * 256 + 128) w2
                    have h5 := wordNums_length (a * 256 + 192) w3
                    omega
                  have HS := Lib.hid hst
                  have HTz := Lib.hid (tz_known y c hy hy0 hcz)
                  have HZ := Lib.hid hnx
                  have H1 := Lib.hid hstep
                  have H2 := Lib.hid hcz
                  have hsub : IntKind.u64.wrap ((y : Int) - 1) = (y : Int) - 1 := by rw [IntKind.wrap_u64]; omega
                  clear hst hstep hcz hnx
                  go_wp2_with (first
                    | (go_at_call 94; refine (HTz.out _ (HTab.out.turn HT.out H0F.out)).mono ?_; rintro e w' ⟨rfl, rfl⟩)
                    | (at_builtin; refine wpList_app1' rfl (.tmp 26) (.tmp 31) rfl wr B u1 l1 _ _ rfl HO.out rfl (by omega) (Nat.le_trans hB HT.out.size) ?_; intro v1 w1' hv1 ht1 hat1))
                  go_roundw
                  case rel =>
                    refine ⟨(ht1.heap HBx.out (fun hg => HO.out.ne_box HBx.out (by decide) (by simpa using hg))), z, l1 ++ [((a : Int) * 256 + 192) + (c : Int)], rfl, by omega, by exact hv1, ?_, HT.out.trans ht1 (fun g hg => HFo.out g (by simpa using hg)), ?_⟩
                    · rw [← HE.out, HS.out]; simp
                    · intro g hg
                      rcases hat1 with e1 | ⟨g', e1, hge⟩
                      · exact HFo.out g (e1 ▸ hg)
                      · rw [e1] at hg
                        injection hg with hg
                        subst hg
                        exact .inr (Nat.le_trans HT.out.size hge)
                  case measure => simp [intOf]; omega
            · have hne : ((y : Int) != 0) = true := by simp; omega
              obtain ⟨hstep, hless, hc⟩ := bitsL_step y hy hy0
              have hand := and_pred_u64 y hy hy0
              generalize hcz : Lib.ctz 64 y = c at *
              generalize hnx : y &&& (y - 1) = z at *
              have hst : wordNums ((a : Int) * 256 + 128) y = (((a : Int) * 256 + 128) + (c : Int)) :: wordNums ((a : Int) * 256 + 128) z := by
                have := hstep
                rw [← hnx] at this ⊢
                exact wordNums_step this
              have hlen : l1.length ≤ 1000000 * 2 := by
                have h1 := congrArg List.length HE.out
                simp only [List.length_append] at h1
                have h2 := wordNums_length (a * 256) w0
                have h3 := wordNums_length (a * 256 + 64) w1
                have h4 := wordNums_length (a * 256 + 128) w2
                have h5 := wordNums_length (a * 256 + 192) w3
                omega
              have HS := Lib.hid hst
              have HTz := Lib.hid (tz_known y c hy hy0 hcz)
              have HZ := Lib.hid hnx
              have H1 := Lib.hid hstep
              have H2 := Lib.hid hcz
              have hsub : IntKind.u64.wrap ((y : Int) - 1) = (y : Int) - 1 := by rw [IntKind.wrap_u64]; omega
              clear hst hstep hcz hnx
              go_wp2_with (first
                | (go_at_call 94; refine (HTz.out _ (HTab.out.turn HT.out H0F.out)).mono ?_; rintro e w' ⟨rfl, rfl⟩)
                | (at_builtin; refine wpList_app1' rfl (.tmp 26) (.tmp 31) rfl wr B u1 l1 _ _ rfl HO.out rfl (by omega) (Nat.le_trans hB HT.out.size) ?_; intro v1 w1' hv1 ht1 hat1))
              go_roundw
              case rel =>
                refine ⟨(ht1.heap HBx.out (fun hg => HO.out.ne_box HBx.out (by decide) (by simpa using hg))), z, l1 ++ [((a : Int) * 256 + 128) + (c : Int)], rfl, by omega, by exact hv1, ?_, HT.out.trans ht1 (fun g hg => HFo.out g (by simpa using hg)), ?_⟩
                · rw [← HE.out, HS.out]; simp
                · intro g hg
                  rcases hat1 with e1 | ⟨g', e1, hge⟩
                  · exact HFo.out g (e1 ▸ hg)
                  · rw [e1] at hg
                    injection hg with hg
                    subst hg
                    exact .inr (Nat.le_trans HT.out.size hge)
              case measure => simp [intOf]; omega
        · have hne : ((y : Int) != 0) = true := by simp; omega
          obtain ⟨hstep, hless, hc⟩ := bitsL_step y hy hy0
          have hand := and_pred_u64 y hy hy0
          generalize hcz : Lib.ctz 64 y = c at *
          generalize hnx : y &&& (y - 1) = z at *
          have hst : wordNums ((a : Int) * 256 + 64) y = (((a : Int) * 256 + 64) + (c : Int)) :: wordNums ((a : Int) * 256 + 64) z := by
            have := hstep
            rw [← hnx] at this ⊢
            exact wordNums_step this
          have hlen : l1.length ≤ 1000000 * 2 := by
            have h1 := congrArg List.length HE.out
            simp only [List.length_append] at h1
            have h2 := wordNums_length (a * 256) w0
            have h3 := wordNums_length (a * 256 + 64) w1
            have h4 := wordNums_length (a * 256 + 128) w2
            have h5 := wordNums_length (a * 256 + 192) w3
            omega
          have HS := Lib.hid hst
          have HTz := Lib.hid (tz_known y c hy hy0 hcz)
          have HZ := Lib.hid hnx
          have H1 := Lib.hid hstep
          have H2 := Lib.hid hcz
          have hsub : IntKind.u64.wrap ((y : Int) - 1) = (y : Int) - 1 := by rw [IntKind.wrap_u64]; omega
          clear hst hstep hcz hnx
          go_wp2_with (first
            | (go_at_call 94; refine (HTz.out _ (HTab.out.turn HT.out H0F.out)).mono ?_; rintro e w' ⟨rfl, rfl⟩)
            | (at_builtin; refine wpList_app1' rfl (.tmp 26) (.tmp 31) rfl wr B u1 l1 _ _ rfl HO.out rfl (by omega) (Nat.le_trans hB HT.out.size) ?_; intro v1 w1' hv1 ht1 hat1))
          go_roundw
          case rel =>
            refine ⟨(ht1.heap HBx.out (fun hg => HO.out.ne_box HBx.out (by decide) (by simpa using hg))), z, l1 ++ [((a : Int) * 256 + 64) + (c : Int)], rfl, by omega, by exact hv1, ?_, HT.out.trans ht1 (fun g hg => HFo.out g (by simpa using hg)), ?_⟩
            · rw [← HE.out, HS.out]; simp
            · intro g hg
              rcases hat1 with e1 | ⟨g', e1, hge⟩
              · exact HFo.out g (e1 ▸ hg)
              · rw [e1] at hg
                injection hg with hg
                subst hg
                exact .inr (Nat.le_trans HT.out.size hge)
          case measure => simp [intOf]; omega
    · have hne : ((y : Int) != 0) = true := by simp; omega
      obtain ⟨hstep, hless, hc⟩ := bitsL_step y hy hy0
      have hand := and_pred_u64 y hy hy0
      generalize hcz : Lib.ctz 64 y = c at *
      generalize hnx : y &&& (y - 1) = z at *
      have hst : wordNums ((a : Int) * 256) y = (((a : Int) * 256) + (c : Int)) :: wordNums ((a : Int) * 256) z := by
        have := hstep
        rw [← hnx] at this ⊢
        exact wordNums_step this
      have hlen : l1.length ≤ 1000000 * 2 := by
        have h1 := congrArg List.length HE.out
        simp only [List.length_append] at h1
        have h2 := wordNums_length (a * 256) w0
        have h3 := wordNums_length (a * 256 + 64) w1
        have h4 := wordNums_length (a * 256 + 128) w2
        have h5 := wordNums_length (a * 256 + 192) w3
        omega
      have HS := Lib.hid hst
      have HTz := Lib.hid (tz_known y c hy hy0 hcz)
      have HZ := Lib.hid hnx
      have H1 := Lib.hid hstep
      have H2 := Lib.hid hcz
      have hsub : IntKind.u64.wrap ((y : Int) - 1) = (y : Int) - 1 := by rw [IntKind.wrap_u64]; omega
      clear hst hstep hcz hnx
      go_wp2_with (first
        | (go_at_call 94; refine (HTz.out _ (HTab.out.turn HT.out H0F.out)).mono ?_; rintro e w' ⟨rfl, rfl⟩)
        | (at_builtin; refine wpList_app1' rfl (.tmp 26) (.tmp 31) rfl wr B u1 l1 _ _ rfl HO.out rfl (by omega) (Nat.le_trans hB HT.out.size) ?_; intro v1 w1' hv1 ht1 hat1))
      go_roundw
      case rel =>
        refine ⟨(ht1.heap HBx.out (fun hg => HO.out.ne_box HBx.out (by decide) (by simpa using hg))), z, l1 ++ [((a : Int) * 256) + (c : Int)], rfl, by omega, by exact hv1, ?_, HT.out.trans ht1 (fun g hg => HFo.out g (by simpa using hg)), ?_⟩
        · rw [← HE.out, HS.out]; simp
        · intro g hg
          rcases hat1 with e1 | ⟨g', e1, hge⟩
          · exact HFo.out g (e1 ▸ hg)
          · rw [e1] at hg
            injection hg with hg
            subst hg
            exact .inr (Nat.le_trans HT.out.size hge)
      case measure => simp [intOf]; omega
end Go.Proofs.YtbocejiclellfaaDoor

/- Stage 1's text List: what stage 8 wants of it (printed by conv1.py). -/
set_option linter.unusedSimpArgs false
set_option linter.unusedVariables false
set_option maxRecDepth 100000
namespace Go.Proofs.YtbocejiclellfaaDoor
open Go.RowKit

/-- All numbers of the rows, rising. -/
def nums (rs : List Row) : List Int := rs.flatMap Row.nums
theorem Row.nums_length (r : Row) : r.nums.length = r.count := by
  simp only [Row.nums, Row.count, wordNums, List.length_append, List.length_map, pop_bits]
theorem nums_length (rs : List Row) : (nums rs).length = total rs := by
  induction rs with
  | nil => rfl
  | cons r t ih =>
    simp only [nums, total, List.flatMap_cons, List.length_append, List.map_cons, List.sum_cons, Row.nums_length] at *
    omega
theorem nums_snoc {rs : List Row} {k : Nat} {r : Row} (h : rs[k]? = some r) : nums (rs.take (k + 1)) = nums (rs.take k) ++ r.nums := by
  rw [take_snoc h]; simp [nums]
theorem appendTo_any (r : Row) (B : Nat) (v : Value) (l : List Int) (w : World) (hr : r.Fits) (hv : OwnI w B v l) (hB : B ≤ w.heap.size) (hB0 : 0 < B) (hl : l.length ≤ 1100000) (hT : Tab w) :
    Calls Tryd.prog 88 #[r.val, v] w fun e w' => ∃ v', e = .returned v' ∧ OwnI w' B v' (l ++ r.nums) ∧ Turn v.ownBlock.toList w w' ∧ (∀ g, v'.ownBlock = some g → g ∈ v.ownBlock.toList ∨ w.heap.size ≤ g) :=
  appendTo_walk r.at_ r.w0 r.w1 r.w2 r.w3 B v l w hr.a hr.b0 hr.b1 hr.b2 hr.b3 hv hB hB0 hl hT
theorem total_take_le (rs : List Row) (k : Nat) : total (rs.take k) ≤ k * 256 := by
  have h1 := total_le (rs.take k)
  exact Nat.le_trans h1 (Nat.mul_le_mul_right _ (List.length_take_le _ _))
theorem Tab.pos {w : World} (h : Tab w) : 0 < w.heap.size := World.block_lt_of_cell? w ⟨0, 0, none⟩ (h 0 (by decide))
set_option maxHeartbeats 2000000 in
theorem list_any (p v : Value) (rs : List Row) (w : World) (h : SetV w p v rs) (hT : Tab w) : Calls Tryd.prog 78 #[p] w (OwnedPost w w.heap.size (nums rs)) := by
  obtain ⟨A, c, rfl, hrow, hc⟩ := h.form
  have hok := h.ok
  have hlen := hok.len
  have htot := hok.total
  have H := Lib.hid h
  have HR := Lib.hid hrow
  have HO := Lib.hid hok
  have HTab := Lib.hid hT
  have hpos := hT.pos
  clear h hrow hok hT
  generalize hm : total rs = m at *
  have HM := Lib.hid hm
  clear hm
  generalize hn : rs.length = n at *
  have HN := Lib.hid hn
  clear hn
  obtain ⟨i0, hi0, hz0, hz1, hz2⟩ := info_parts int_info
  go_enter Tryd.func78, Tryd.ntmps78
  go_wp2_with (first
    | (go_at_call 86; refine (len_any p _ rs _ H.out).mono ?_; rw [HM.out]; rintro e w' ⟨rfl, rfl⟩)
    | (at_make; (refine wpList_make_own w rfl (.const (.int .i64 0)) (.tmp 7) 59 rfl w.heap.size 3 i0 _ 1 Tryd.underlying59 hi0 hz0 hz1 .i64 .i64 _ m rfl rfl rfl (by rw [hz2]; omega) (by simp only [maxLen]; omega) (Nat.le_refl _) ?_); intro w1 hw1 hg1; have HW1 := Lib.hid hw1; have HG1 := Lib.hid ((Turn.refl [] w).grown hg1 (by simp)); clear hw1 hg1)
    | (go_at_call 87; refine (all_any p _ rs _ (H.out.turn' HG1.out)).mono ?_; rintro e w' ⟨rfl, rfl⟩))
  go_loopw [3, 12] (fun o i wr => ∃ k : Nat, k ≤ n ∧ i = .int .i64 k ∧ OwnI wr w.heap.size o (nums (rs.take k)) ∧ Turn [] w wr) (fun _ i _ => n - (intOf i).toNat)
  case atStart => exact ⟨0, Nat.zero_le _, rfl, HW1.out, HG1.out⟩
  case round =>
    obtain ⟨k, hk, rfl, ho, ht⟩ := hrel
    have HOw := Lib.hid ho
    have HT := Lib.hid ht
    clear ho ht
    by_cases hlt : k < n
    · obtain ⟨r, hr⟩ := at_lt (show k < rs.length by have := HN.out; omega)
      obtain ⟨g, rfl, hg, c0, c1, c2, c3, c4⟩ := (HR.out.turn' HT.out) k r hr
      have hfit := HO.out.fits r (List.mem_of_getElem? hr)
      have hs := nums_snoc hr
      have hle : (nums (rs.take k)).length ≤ 1100000 := by
        have h1 := nums_length (rs.take k)
        have h2 := total_take_le rs k
        omega
      have HS := Lib.hid hs
      have HRk := Lib.hid hr
      have HF := Lib.hid hfit
      clear hr hs hfit
      go_wp2_with (go_at_call 88; (refine (appendTo_any r w.heap.size u3 (nums (rs.take k)) _ HF.out (HOw.out.turn' (Turn.below (by go_grown))) (Nat.le_trans HT.out.size (by simp)) hpos hle (HTab.out.turn' (HT.out.trans' (Turn.below (by go_grown))))).mono ?_); rintro e w' ⟨v', rfl, ho1, ht1, hf1⟩)
      go_roundw
      case rel =>
        refine ⟨k + 1, by omega, by go_num, by rw [HS.out]; exact ho1, ?_⟩
        exact (HT.out.trans' (Turn.below (by go_grown))).trans ht1 (fun g hg => .inr (HOw.out.lt g (by simpa using hg)).1)
      case measure => simp [intOf]; omega
    · go_wp2
      go_ret
      refine ⟨u3, rfl, ?_, HT.out⟩
      have := HOw.out
      rw [List.take_of_length_le (by have := HN.out; omega)] at this
      exact this
end Go.Proofs.YtbocejiclellfaaDoor
