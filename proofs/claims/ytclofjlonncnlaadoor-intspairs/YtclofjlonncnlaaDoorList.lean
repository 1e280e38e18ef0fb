/- Sets: List. -/
import Derived.Test.YtclofjlonncnlaaDoorApp
set_option linter.unusedSimpArgs false
set_option linter.unusedVariables false
namespace Go.Proofs.YtclofjlonncnlaaDoor
open Go.RowKit

/-- All numbers of the rows, rising. -/
def nums (rs : List Row) : List Int := rs.flatMap Row.nums
theorem Row.nums_length (r : Row) : r.nums.length = r.count := by
  simp only [Row.nums, Row.count, wordNums, List.length_append, List.length_map, pop_bits]
theorem nums_length (rs : List Row) : (nums rs).length = total rs := by
  induction rs with
  | nil => rfl
  | cons r t ih =>
    simp only [nums, total, List.flatMap_cons, List.length_append, List.map_cons, List.sum_cons, Row.nums_length] at *
    omega
theorem nums_snoc {rs : List Row} {k : Nat} {r : Row} (h : rs[k]? = some r) : nums (rs.take (k + 1)) = nums (rs.take k) ++ r.nums := by
  rw [take_snoc h]; simp [nums]
theorem appendTo_any (r : Row) (B : Nat) (v : Value) (l : List Int) (w : World) (hr : r.Fits) (hv : OwnI w B v l) (hB : B ≤ w.heap.size) (hB0 : 0 < B) (hl : l.length ≤ 1100000) (hT : Tab w) :
    Calls Tryd.prog 30 #[r.val, v] w fun e w' => ∃ v', e = .returned v' ∧ OwnI w' B v' (l ++ r.nums) ∧ Turn v.ownBlock.toList w w' ∧ (∀ g, v'.ownBlock = some g → g ∈ v.ownBlock.toList ∨ w.heap.size ≤ g) :=
  appendTo_walk r.at_ r.w0 r.w1 r.w2 r.w3 B v l w hr.a hr.b0 hr.b1 hr.b2 hr.b3 hv hB hB0 hl hT
theorem total_take_le (rs : List Row) (k : Nat) : total (rs.take k) ≤ k * 256 := by
  have h1 := total_le (rs.take k)
  exact Nat.le_trans h1 (Nat.mul_le_mul_right _ (List.length_take_le _ _))
theorem Tab.pos {w : World} (h : Tab w) : 0 < w.heap.size := World.block_lt_of_cell? w ⟨0, 0, none⟩ (h 0 (by decide))
set_option maxHeartbeats 2000000 in
theorem list_any (p v : Value) (rs : List Row) (w : World) (h : SetV w p v rs) (hT : Tab w) : Calls Tryd.prog 16 #[p] w (OwnedPost w w.heap.size (nums rs)) := by
  obtain ⟨A, c, rfl, hrow, hc⟩ := h.form
  have hok := h.ok
  have hlen := hok.len
  have htot := hok.total
  have H := Lib.hid h
  have HR := Lib.hid hrow
  have HO := Lib.hid hok
  have HTab := Lib.hid hT
  have hpos := hT.pos
  clear h hrow hok hT
  generalize hm : total rs = m at *
  have HM := Lib.hid hm
  clear hm
  generalize hn : rs.length = n at *
  have HN := Lib.hid hn
  clear hn
  obtain ⟨i0, hi0, hz0, hz1, hz2⟩ := info_parts int_info
  go_enter Tryd.func16, Tryd.ntmps16
  go_wp2_with (first
    | (go_at_call 12; refine (len_any p _ rs _ H.out).mono ?_; rw [HM.out]; rintro e w' ⟨rfl, rfl⟩)
    | (at_make; (refine wpList_make_own w rfl (.const (.int .i64 0)) (.tmp 7) 22 rfl w.heap.size 3 i0 _ 1 Tryd.underlying22 hi0 hz0 hz1 .i64 .i64 _ m rfl rfl rfl (by rw [hz2]; omega) (by simp only [maxLen]; omega) (Nat.le_refl _) ?_); intro w1 hw1 hg1; have HW1 := Lib.hid hw1; have HG1 := Lib.hid ((Turn.refl [] w).grown hg1 (by simp)); clear hw1 hg1)
    | (go_at_call 29; refine (all_any p _ rs _ (H.out.turn' HG1.out)).mono ?_; rintro e w' ⟨rfl, rfl⟩))
  go_loopw [3, 12] (fun o i wr => ∃ k : Nat, k ≤ n ∧ i = .int .i64 k ∧ OwnI wr w.heap.size o (nums (rs.take k)) ∧ Turn [] w wr) (fun _ i _ => n - (intOf i).toNat)
  case atStart => exact ⟨0, Nat.zero_le _, rfl, HW1.out, HG1.out⟩
  case round =>
    obtain ⟨k, hk, rfl, ho, ht⟩ := hrel
    have HOw := Lib.hid ho
    have HT := Lib.hid ht
    clear ho ht
    by_cases hlt : k < n
    · obtain ⟨r, hr⟩ := at_lt (show k < rs.length by have := HN.out; omega)
      obtain ⟨g, rfl, hg, c0, c1, c2, c3, c4⟩ := (HR.out.turn' HT.out) k r hr
      have hfit := HO.out.fits r (List.mem_of_getElem? hr)
      have hs := nums_snoc hr
      have hle : (nums (rs.take k)).length ≤ 1100000 := by
        have h1 := nums_length (rs.take k)
        have h2 := total_take_le rs k
        omega
      have HS := Lib.hid hs
      have HRk := Lib.hid hr
      have HF := Lib.hid hfit
      clear hr hs hfit
      go_wp2_with (go_at_call 30; (refine (appendTo_any r w.heap.size u3 (nums (rs.take k)) _ HF.out (HOw.out.turn' (Turn.below (by go_grown))) (Nat.le_trans HT.out.size (by simp)) hpos hle (HTab.out.turn' (HT.out.trans' (Turn.below (by go_grown))))).mono ?_); rintro e w' ⟨v', rfl, ho1, ht1, hf1⟩)
      go_roundw
      case rel =>
        refine ⟨k + 1, by omega, by go_num, by rw [HS.out]; exact ho1, ?_⟩
        exact (HT.out.trans' (Turn.below (by go_grown))).trans ht1 (fun g hg => .inr (HOw.out.lt g (by simpa using hg)).1)
      case measure => simp [intOf]; omega
    · go_wp2
      go_ret
      refine ⟨u3, rfl, ?_, HT.out⟩
      have := HOw.out
      rw [List.take_of_length_le (by have := HN.out; omega)] at this
      exact this
end Go.Proofs.YtclofjlonncnlaaDoor
