/- Sets: rowAt, lacks, Has. -/
import Derived.Test.YtclofjlonncnlaaDoorSet
import Derived.Test.YtclofjlonncnlaaDoorRef2
set_option linter.unusedSimpArgs false
set_option linter.unusedVariables false
namespace Go.Proofs.YtclofjlonncnlaaDoor
open Go.RowKit
attribute [local go_sem] idx44_0 idx44_1 idx44_2 idx44_3

/-- The row of place t; an empty one, if there is none. -/
def rowOf (rs : List Row) (t : Nat) : Row := match rs.find? (fun r => r.at_ == t) with
  | some r => r
  | none => ⟨t, 0, 0, 0, 0⟩
theorem find_at {rs : List Row} {t k : Nat} {r : Row} (hc : Cut rs t k) (hr : rs[k]? = some r) (he : r.at_ = t) : rs.find? (fun r => r.at_ == t) = some r := by
  induction rs generalizing k with
  | nil => simp at hr
  | cons s l ih =>
    cases k with
    | zero =>
      simp at hr
      subst hr
      simp [List.find?_cons, he]
    | succ k =>
      have hs := hc.lo 0 s (by omega) rfl
      rw [List.find?_cons]
      simp only [show (s.at_ == t) = false by simp; omega]
      exact ih (k := k) ⟨by have := hc.le; simp at this; omega, fun i q hi hq => hc.lo (i + 1) q (by omega) (by simpa using hq), fun i q hi hq => hc.hi (i + 1) q (by omega) (by simpa using hq)⟩ (by simpa using hr)
theorem rowOf_hit {rs : List Row} {t k : Nat} {r : Row} (hc : Cut rs t k) (hr : rs[k]? = some r) (he : r.at_ = t) : rowOf rs t = r := by simp [rowOf, find_at hc hr he]
theorem no_row {rs : List Row} {t k : Nat} (hc : Cut rs t k) (ha : Asc rs) (hm : hit rs t k = false) : ∀ r ∈ rs, r.at_ ≠ t := by
  intro r hr e
  obtain ⟨i, hi⟩ := List.getElem?_of_mem hr
  rcases Nat.lt_or_ge i k with h | h
  · have := hc.lo i r h hi
    omega
  · rcases Nat.lt_or_ge k i with h2 | h2
    · obtain ⟨s, hs⟩ := at_lt (show k < rs.length by have := (List.getElem?_eq_some_iff.1 hi).1; omega)
      have h3 := ha.lt hs hi h2
      have h4 := hc.hi k s (by omega) hs
      omega
    · have e2 : i = k := by omega
      subst e2
      rw [hit_some hi] at hm
      simp at hm
      exact hm e
theorem rowOf_miss {rs : List Row} {t k : Nat} (hc : Cut rs t k) (ha : Asc rs) (hm : hit rs t k = false) : rowOf rs t = ⟨t, 0, 0, 0, 0⟩ := by
  have : rs.find? (fun r => r.at_ == t) = none := by
    rw [List.find?_eq_none]
    intro r hr
    simpa using no_row hc ha hm r hr
  simp [rowOf, this]
theorem hit_true {rs : List Row} {t k : Nat} (h : hit rs t k = true) : ∃ r, rs[k]? = some r ∧ r.at_ = t := by
  unfold hit at h
  split at h
  · rename_i r hr
    exact ⟨r, hr, by simpa using h⟩
  · cases h

theorem five {w : World} {b : Nat} {x0 x1 x2 x3 x4 : Value} (h : w.heap[b]? = some (.cells #[x0, x1, x2, x3, x4] 46 (0, 0))) :
    (w.cell? ⟨b, 0, none⟩ = some x0 ∧ w.cell? ⟨b, 1, none⟩ = some x1 ∧ w.cell? ⟨b, 2, none⟩ = some x2 ∧ w.cell? ⟨b, 3, none⟩ = some x3 ∧ w.cell? ⟨b, 4, none⟩ = some x4) ∧
    (w.frozen? ⟨b, 0, none⟩ = false ∧ w.frozen? ⟨b, 1, none⟩ = false ∧ w.frozen? ⟨b, 2, none⟩ = false ∧ w.frozen? ⟨b, 3, none⟩ = false ∧ w.frozen? ⟨b, 4, none⟩ = false) :=
  ⟨⟨cell_of_row w b 0 _ 46 (0, 0) h, cell_of_row w b 1 _ 46 (0, 0) h, cell_of_row w b 2 _ 46 (0, 0) h, cell_of_row w b 3 _ 46 (0, 0) h, cell_of_row w b 4 _ 46 (0, 0) h⟩,
   ⟨frozen_of_row w b 0 _ 46 h, frozen_of_row w b 1 _ 46 h, frozen_of_row w b 2 _ 46 h, frozen_of_row w b 3 _ 46 h, frozen_of_row w b 4 _ 46 h⟩⟩
set_option maxHeartbeats 1000000 in
theorem rowAt_any (p v : Value) (rs : List Row) (t : Nat) (w : World) (h : SetV w p v rs) (ht : t < 100000) :
    Calls Tryd.prog 28 #[p, .int .i64 t] w fun e w' => e = .returned (rowOf rs t).val ∧ Turn [] w w' := by
  obtain ⟨A, c, rfl, hrow, hc⟩ := h.form
  have hok := h.ok
  have hlen := hok.len
  have H := Lib.hid h
  have HR := Lib.hid hrow
  have HO := Lib.hid hok
  clear h hrow hok
  go_enter Tryd.func28, Tryd.ntmps28
  go_wp2_with fail
  refine (find_any p _ rs t _ (H.out.turn' ((Turn.refl _ _).alloc _)) ht).mono ?_
  rintro e w1 ⟨k, hk, rfl, htt⟩
  have HK := Lib.hid hk
  have hT : Turn [] w w1 := ((Turn.refl [] w).alloc _).trans' htt
  obtain ⟨⟨d0, d1, d2, d3, d4⟩, ⟨f0, f1, f2, f3, f4⟩⟩ := five (htt.heap (heap_alloc_new w _) (by simp))
  have HT := Lib.hid hT
  have hlt : w.heap.size < w1.heap.size := by have := htt.size; simp at this; omega
  clear hk htt hT
  cases hh : hit rs t k
  · have HM := Lib.hid (rowOf_miss HK.out HO.out.asc hh)
    have HH := Lib.hid hh
    clear hh
    go_wp2
    refine bodyPost_ret (v := (rowOf rs t).val) ?_ rfl ⟨rfl, ?_⟩
    · rw [HM.out]
      simp [results, Tryd.results28, go_sem, Row.val, d0, d1, d2, d3, d4, f0, f1, f2, f3, f4]
    · repeat (first | exact HT.out | refine Turn.setCell ?_ (.inr (Nat.le_refl _)) _)
  · obtain ⟨r, hr, he⟩ := hit_true hh
    have HM := Lib.hid (rowOf_hit HK.out hr he)
    have hkn : k < rs.length := (List.getElem?_eq_some_iff.1 hr).1
    obtain ⟨g, rfl, hg, c0, c1, c2, c3, c4⟩ := (HR.out.turn' HT.out) k r hr
    have hs : ∃ b, p = .pointer (some ⟨b, 0, none⟩) ∧ w1.cell? ⟨b, 0, none⟩ = some (.slice (some ⟨g, 0, none⟩) rs.length c) := by
      rcases H.out.turn' HT.out with ⟨_, h1, _⟩ | ⟨b, rfl, h1⟩
      · cases h1
      · exact ⟨b, rfl, cell_of_row w1 b 0 _ 39 (0, 0) h1.blk⟩
    obtain ⟨b, rfl, hcb⟩ := hs
    have HH := Lib.hid hh
    have HE := Lib.hid he
    have HRk := Lib.hid hr
    clear hh he hr
    go_wp2
    refine bodyPost_ret (v := (rowOf rs t).val) ?_ rfl ⟨rfl, ?_⟩
    · rw [HM.out]
      simp [results, Tryd.results28, go_sem, Row.val, d0, d1, d2, d3, d4, f0, f1, f2, f3, f4]
    · repeat (first | exact HT.out | refine Turn.setCell ?_ (.inr (Nat.le_refl _)) _)

def hasRow (rs : List Row) (t : Nat) : Bool := rs.any (fun r => r.at_ == t)
theorem hit_eq {rs : List Row} {t k : Nat} (hc : Cut rs t k) (ha : Asc rs) : hit rs t k = hasRow rs t := by
  cases hh : hit rs t k
  · symm
    rw [hasRow, List.any_eq_false]
    intro r hr
    simpa using no_row hc ha hh r hr
  · obtain ⟨r, hr, he⟩ := hit_true hh
    symm
    rw [hasRow, List.any_eq_true]
    exact ⟨r, List.mem_of_getElem? hr, by simpa using he⟩
def lackN (rs ms : List Row) : Nat := (ms.filter (fun r => !hasRow rs r.at_)).length
theorem lackN_snoc {rs ms : List Row} {k : Nat} {r : Row} (h : ms[k]? = some r) : lackN rs (ms.take (k + 1)) = lackN rs (ms.take k) + if hasRow rs r.at_ then 0 else 1 := by
  rw [take_snoc h]
  cases hb : hasRow rs r.at_ <;> simp [lackN, List.filter_append, hb]
theorem lackN_le (rs ms : List Row) : lackN rs ms ≤ ms.length := List.length_filter_le _ _
set_option maxHeartbeats 1000000 in
theorem lacks_any (p v : Value) (rs ms : List Row) (A : Option Addr) (m c : Nat) (w : World) (h : SetV w p v rs) (hm : RowsAt w A ms) (hn : m = ms.length) (hl : m ≤ 100000) (hf : ∀ r ∈ ms, r.Fits) :
    Calls Tryd.prog 44 #[p, .slice A m c] w fun e w' => e = .returned (.int .i64 (lackN rs ms)) ∧ Turn [] w w' := by
  have HN := Lib.hid hn
  have H := Lib.hid h
  have HR := Lib.hid hm
  have HF := Lib.hid hf
  have HO := Lib.hid h.ok
  clear hn h hm hf
  go_enter Tryd.func44, Tryd.ntmps44
  go_wp2
  go_loopw [5, 12] (fun o i wr => ∃ k : Nat, k ≤ m ∧ i = .int .i64 k ∧ o = .int .i64 (lackN rs (ms.take k)) ∧ Turn [] w wr) (fun _ i _ => m - (intOf i).toNat)
  case atStart => exact ⟨0, Nat.zero_le _, rfl, rfl, Turn.refl _ _⟩
  case round =>
    obtain ⟨k, hk, rfl, rfl, ht⟩ := hrel
    have HT := Lib.hid ht
    clear ht
    by_cases hlt : k < m
    · obtain ⟨r, hr⟩ := at_lt (show k < ms.length by have := HN.out; omega)
      obtain ⟨g, rfl, hg, c0, c1, c2, c3, c4⟩ := (HR.out.turn' HT.out) k r hr
      have hfit := HF.out r (List.mem_of_getElem? hr)
      have hra := hfit.a
      have hs := lackN_snoc (rs := rs) hr
      have hle := lackN_le rs (ms.take k)
      have hle2 : (ms.take k).length ≤ k := List.length_take_le _ _
      generalize hx : lackN rs (ms.take k) = x at *
      have HS := Lib.hid hs
      have HX := Lib.hid hx
      have HRk := Lib.hid hr
      clear hr hs hfit hx
      go_wp2_with fail
      refine (find_any p v rs r.at_ _ (H.out.turn' (HT.out.trans' (Turn.below (by go_grown)))) (by omega)).mono ?_
      rintro e w1 ⟨j, hj, rfl, htt⟩
      have hT : Turn [] w w1 := HT.out.trans' (Turn.trans' (Turn.below (by go_grown)) htt)
      have HT1 := Lib.hid hT
      have he := hit_eq hj HO.out.asc
      have HJ := Lib.hid hj
      clear hj htt hT
      cases hh : hit rs r.at_ j
      · have HE := Lib.hid (he.symm.trans hh)
        clear hh he
        go_wp2
        go_roundw
        case rel => exact ⟨k + 1, by omega, by go_num, by rw [HS.out, HE.out]; simp, HT1.out⟩
        case measure => simp [intOf]; omega
      · have HE := Lib.hid (he.symm.trans hh)
        clear hh he
        go_wp2
        go_roundw
        case rel => exact ⟨k + 1, by omega, by go_num, by rw [HS.out, HE.out]; simp, HT1.out⟩
        case measure => simp [intOf]; omega
    · go_wp2
      go_ret
      refine ⟨ret_int ?_, HT.out⟩
      rw [List.take_of_length_le (by have := HN.out; omega)]
end Go.Proofs.YtclofjlonncnlaaDoor
