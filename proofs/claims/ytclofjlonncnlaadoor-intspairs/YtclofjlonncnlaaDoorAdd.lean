/- Sets: Add. -/
import Derived.Test.YtclofjlonncnlaaDoorIns3
set_option linter.unusedSimpArgs false
set_option linter.unusedVariables false
namespace Go.Proofs.YtclofjlonncnlaaDoor
open Go.RowKit

def Row.setWord (r : Row) (i x : Nat) : Row := match i with
  | 0 => { r with w0 := x }
  | 1 => { r with w1 := x }
  | 2 => { r with w2 := x }
  | _ => { r with w3 := x }
theorem flat_set1 {rs : List Row} {k : Nat} {r : Row} (h : rs[k]? = some r) (i x : Nat) (hi : i < 4) : (rs.flatMap Row.cells).set (k * 5 + 1 + i) (.int .u64 x) = (rs.set k (r.setWord i x)).flatMap Row.cells := by
  induction rs generalizing k with
  | nil => simp at h
  | cons s t ih =>
    cases k with
    | zero =>
      simp at h
      subst h
      rw [List.set_cons_zero, flat_cons, flat_cons]
      match i, hi with
      | 0, _ => rfl
      | 1, _ => rfl
      | 2, _ => rfl
      | 3, _ => rfl
    | succ k =>
      rw [List.set_cons_succ, flat_cons, flat_cons, ← ih (by simpa using h), show (k + 1) * 5 + 1 + i = (k * 5 + 1 + i) + 5 by omega]
      simp only [List.set_cons_succ]
theorem OwnR.word {w : World} {B g n cap : Nat} {rs : List Row} (h : OwnR w B (.slice (some ⟨g, 0, none⟩) n cap) rs) (hn : n = rs.length) {k : Nat} {r : Row} (hr : rs[k]? = some r) (i : Nat) (hi : i < 4) : w.cell? ⟨g, k * 5 + 1 + i, none⟩ = some (.int .u64 (r.word i)) := by
  obtain ⟨c0, c1, c2, c3, c4⟩ := h.cells hn hr
  match i, hi with
  | 0, _ => exact c1
  | 1, _ => exact c2
  | 2, _ => exact c3
  | 3, _ => exact c4

set_option maxHeartbeats 400000 in
theorem add_nil (n : Int) (w : World) : Calls Tryd.prog 11 #[.pointer none, .int .i64 n] w fun e w' => e = .returned (.bool false) ∧ w = w' := by
  go_enter Tryd.func11, Tryd.ntmps11
  go_wp2
  go_ret
  exact ⟨rfl, rfl⟩
set_option maxHeartbeats 400000 in
theorem add_out (b : Nat) (n : Int) (w : World) (h : okB n = false) : Calls Tryd.prog 11 #[.pointer (some ⟨b, 0, none⟩), .int .i64 n] w fun e w' => e = .returned (.bool false) ∧ w = w' := by
  have H := Lib.hid h
  clear h
  go_enter Tryd.func11, Tryd.ntmps11
  go_wp2_with (go_at_call 24; refine (mayHold_any n _).mono ?_; rw [H.out]; rintro e w' ⟨rfl, rfl⟩)
  go_ret
  exact ⟨rfl, rfl⟩
set_option maxHeartbeats 400000 in
theorem add_has (b : Nat) (v : Value) (rs : List Row) (n : Nat) (w : World) (h : SetAt w b v rs) (hn : n < 1048576) (hh : hasN rs n = true) : Calls Tryd.prog 11 #[.pointer (some ⟨b, 0, none⟩), .int .i64 n] w fun e w' => e = .returned (.bool false) ∧ Turn [] w w' := by
  have hok : okB n = true := by simp [okB]; omega
  have HOk := Lib.hid hok
  have H := Lib.hid h
  have HH := Lib.hid hh
  clear h hok hh
  go_enter Tryd.func11, Tryd.ntmps11
  go_wp2_with (first
    | (go_at_call 24; refine (mayHold_any n _).mono ?_; rw [HOk.out]; rintro e w' ⟨rfl, rfl⟩)
    | (go_at_call 13; refine (has_in _ v rs n _ (.inr ⟨b, rfl, H.out⟩) hn).mono ?_; rw [HH.out]; rintro e w' ⟨rfl, ht⟩))
  go_ret
  exact ⟨rfl, ht⟩
/-- What has turned when a bit was laid into the row of its place, which was there, and counted. -/
def AddPost (b : Nat) (v : Value) (rs : List Row) (t i x : Nat) (w : World) (e : Ending) (w' : World) : Prop :=
  e = .returned (.bool true) ∧ ∃ k r v', Cut rs t k ∧ rs[k]? = some r ∧ r.at_ = t ∧ w'.heap[b]? = some (.cells #[v', .int .i64 ((total rs : Int) + 1)] 39 (0, 0)) ∧
    OwnR w' 0 v' (rs.set k (r.setWord i (r.word i ||| x))) ∧ Turn (b :: v.ownBlock.toList) w w' ∧ v' = v
theorem find_div (p v : Value) (rs : List Row) (n : Nat) (hn : n < 1048576) (W : World) (h : SetV W p v rs) : Calls Tryd.prog 25 #[p, .int .i64 ((n : Int) / 256)] W (FoundPost rs (n / 256) W) := by
  have := find_any p v rs (n / 256) W h (by omega)
  rwa [show (((n / 256 : Nat)) : Int) = (n : Int) / 256 by omega] at this
theorem word_lt {r : Row} (h : r.Fits) (i : Nat) : r.word i < 18446744073709551616 := by
  unfold Row.word
  split
  · exact h.b0
  · exact h.b1
  · exact h.b2
  · exact h.b3
/-- A bit laid into row k, and counted: what lies there then. -/
theorem add_tail (b g m c k i y : Nat) (tt : Int) (rs : List Row) (r : Row) (W : World) (hblk : W.heap[b]? = some (.cells #[.slice (some ⟨g, 0, none⟩) m c, .int .i64 tt] 39 (0, 0))) (hrow : OwnR W 0 (.slice (some ⟨g, 0, none⟩) m c) rs) (hm : m = rs.length) (hr : rs[k]? = some r) (hi : i < 4) (hgb : g ≠ b) :
    (((W.setCell ⟨g, k * 5 + 1 + i, none⟩ (.int .u64 y)).setCell ⟨b, 1, none⟩ (.int .i64 (tt + 1))).heap[b]? = some (.cells #[.slice (some ⟨g, 0, none⟩) m c, .int .i64 (tt + 1)] 39 (0, 0))) ∧
    OwnR ((W.setCell ⟨g, k * 5 + 1 + i, none⟩ (.int .u64 y)).setCell ⟨b, 1, none⟩ (.int .i64 (tt + 1))) 0 (.slice (some ⟨g, 0, none⟩) m c) (rs.set k (r.setWord i y)) ∧
    Turn [b, g] W ((W.setCell ⟨g, k * 5 + 1 + i, none⟩ (.int .u64 y)).setCell ⟨b, 1, none⟩ (.int .i64 (tt + 1))) := by
  subst hm
  obtain ⟨s1, t1⟩ := World.ownsRow.stored (cap := c) hrow (k * 5 + 1 + i) (.int .u64 (y : Int))
  rw [flat_set1 hr i y hi] at s1
  have hb1 : (W.setCell ⟨g, k * 5 + 1 + i, none⟩ (.int .u64 y)).heap[b]? = some (.cells #[.slice (some ⟨g, 0, none⟩) rs.length c, .int .i64 tt] 39 (0, 0)) :=
    (Below.heap_setCell W ⟨g, k * 5 + 1 + i, none⟩ _ b (fun e => hgb e.symm)).trans hblk
  refine ⟨heap_setCell_same _ b 1 _ 39 _ hb1, ?_, ?_⟩
  · have : OwnR (W.setCell ⟨g, k * 5 + 1 + i, none⟩ (.int .u64 y)) 0 (.slice (some ⟨g, 0, none⟩) rs.length c) (rs.set k (r.setWord i y)) := by
      unfold OwnR
      rw [List.length_set]
      exact s1
    exact this.turn ((Turn.refl [b] _).setCell (.inl (by simp)) _) (fun g' hg' => by
      simp [Value.ownBlock] at hg'
      subst hg'
      simpa using hgb)
  · exact ((Turn.refl [b, g] W).setCell (.inl (by simp)) _).setCell (.inl (by simp)) _
def BitAt (n i x : Nat) : Prop := ∀ W : World, Calls Tryd.prog 27 #[.int .i64 n] W fun e w' => e = .returned (.tuple #[.int .i64 i, .int .u64 x]) ∧ ∃ q, w' = W.drewN q
set_option maxHeartbeats 2000000 in
theorem add_found (b g m c : Nat) (rs : List Row) (n i x : Nat) (w : World) (h : SetAt w b (.slice (some ⟨g, 0, none⟩) m c) rs) (hn : n < 1048576) (hh : hasN rs n = false) (hm : m = rs.length)
    (hr : hasRow rs (n / 256) = true) (hi : i < 4) (hx : x < 18446744073709551616) (hbit : BitAt n i x) :
    Calls Tryd.prog 11 #[.pointer (some ⟨b, 0, none⟩), .int .i64 n] w (AddPost b (.slice (some ⟨g, 0, none⟩) m c) rs (n / 256) i x w) := by
  have hok : okB n = true := by simp [okB]; omega
  have HOk := Lib.hid hok
  have H := Lib.hid h
  have HH := Lib.hid hh
  have HM := Lib.hid hm
  have HR := Lib.hid hr
  have hml : m ≤ 4096 := by have := h.ok.len; omega
  clear h hok hh hm hr
  go_enter Tryd.func11, Tryd.ntmps11
  go_wp2_with (first
    | (go_at_call 24; refine (mayHold_any n _).mono ?_; rw [HOk.out]; rintro e w' ⟨rfl, rfl⟩)
    | (go_at_call 13; refine (has_in _ _ rs n _ (.inr ⟨b, rfl, H.out⟩) hn).mono ?_; rw [HH.out]; rintro e w1 ⟨rfl, ht1⟩; have HT1 := Lib.hid ht1; clear ht1)
    | fail)
  go_wp2_with fail
  refine (find_div _ _ rs n hn _ (.inr ⟨b, rfl, H.out.turn' HT1.out⟩)).mono ?_
  rintro e w2 ⟨k, hk, rfl, ht2⟩
  have HT2 := Lib.hid (HT1.out.trans' ht2)
  have hhit : hit rs (n / 256) k = true := (hit_eq hk H.out.ok.asc).trans HR.out
  obtain ⟨r, hrk, hra⟩ := hit_true hhit
  have hrow : OwnR w2 0 (.slice (some ⟨g, 0, none⟩) m c) rs := H.out.rows.turn' HT2.out
  have hword := hrow.word HM.out hrk i hi
  have hfro := hrow.frozen HM.out (k * 5 + 1 + i)
  have hset := H.out.turn' HT2.out
  have hc0 : w2.cell? ⟨b, 0, none⟩ = some (.slice (some ⟨g, 0, none⟩) m c) := cell_of_row w2 b 0 _ 39 (0, 0) hset.blk
  have hc1 : w2.cell? ⟨b, 1, none⟩ = some (.int .i64 (total rs)) := cell_of_row w2 b 1 _ 39 (0, 0) hset.blk
  have hf1 : w2.frozen? ⟨b, 1, none⟩ = false := frozen_of_row w2 b 1 _ 39 hset.blk
  have hgb : g ≠ b := fun e => hset.ne (by rw [e]; rfl)
  have hkm : k < m := by have := (List.getElem?_eq_some_iff.1 hrk).1; have := HM.out; omega
  have htot := H.out.ok.total
  have hor : bits BinOp.or IntKind.u64 ((r.word i : Nat) : Int) (x : Int) = ((r.word i ||| x : Nat) : Int) := u64_or_nat _ _ (word_lt (H.out.ok.fits r (List.mem_of_getElem? hrk)) i) hx
  generalize hwv : r.word i = wv at *
  generalize hy : wv ||| x = y at *
  have HK := Lib.hid hk
  have HRk := Lib.hid hrk
  have HRa := Lib.hid hra
  have HRow := Lib.hid hrow
  have HSet := Lib.hid hset
  have HHit := Lib.hid hhit
  have HWv := Lib.hid hwv
  have HY := Lib.hid hy
  generalize htt : total rs = tt at *
  have HTt := Lib.hid htt
  have hbit' := hbit
  have HBit := Lib.hid hbit
  rw [hhit]
  clear hk hrk hra hrow hset hhit hwv hy ht2 htt hbit hbit'
  go_wp2_with (go_at_call 27; refine (HBit.out _).mono ?_; rintro e w' ⟨rfl, q, rfl⟩)
  have hki : (k : Int) < (m : Int) := by omega
  have hii : (i : Int) < 4 := by omega
  go_region
  go_wp2
  go_ret
  obtain ⟨e1, e2, e3⟩ := add_tail b g m c k i y tt rs r (w2.drewN (q + 1)) (by have := HSet.out.blk; rw [HTt.out] at this; exact this) HRow.out HM.out HRk.out hi hgb
  refine ⟨rfl, k, r, _, HK.out, HRk.out, HRa.out, by rw [HTt.out]; exact e1, by rw [HWv.out, HY.out]; exact e2, ?_, rfl⟩
  exact ((HT2.out.drewN _).more (G := [b, g]) (by simp)).trans e3 (by simp)
end Go.Proofs.YtclofjlonncnlaaDoor
