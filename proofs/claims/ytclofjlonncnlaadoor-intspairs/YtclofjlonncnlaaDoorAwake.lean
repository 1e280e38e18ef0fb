/- The document's examples hold. -/
import Derived.Test.YtclofjlonncnlaaDoorTake
set_option linter.unusedSimpArgs false
set_option linter.unusedVariables false
namespace Go.Proofs.YtclofjlonncnlaaDoor
open Go.RowKit

theorem Ints.lit (w : World) (l : List Int) : Ints (w.alloc (.cells (l.map (Value.int .i64)).toArray 3)) (some ⟨w.heap.size, 0, none⟩) l := fun k y hy => by
  refine ⟨w.heap.size, 0, rfl, by simp, ?_⟩
  rw [Nat.zero_add, cell_of_row _ w.heap.size k _ 3 (0, 0) (heap_alloc_new w _)]
  simp [hy]
set_option maxHeartbeats 1000000 in
theorem awake_any (w : World) (hT : Tab w) : Calls Tryd.prog 8 #[] w fun e w' => e = .returned (.bool true) ∧ Turn [] w w' := by
  have HTab := Lib.hid hT
  have hpos := hT.pos
  clear hT
  go_enter Tryd.func8, Tryd.ntmps8
  go_wp2_with fail
  refine (of_any (some ⟨w.heap.size, 0, none⟩) 3 3 [5, 1, 5] _ (Ints.lit w [5, 1, 5]) rfl (by omega)).mono ?_
  rintro e w1 ⟨b1, v1, rs1, rfl, hs1, hn1, hb1, hv1, ht1⟩
  have hT1 : Turn [] w w1 := ((Turn.refl [] w).alloc _).trans' ht1
  have HS1 := Lib.hid hs1
  have HN1 := Lib.hid hn1
  have HT1 := Lib.hid hT1
  clear hs1 hn1 hb1 hv1 ht1 hT1
  go_wp2_with fail
  refine (of_any (some ⟨w1.heap.size, 0, none⟩) 2 2 [1, 2] _ (Ints.lit w1 [1, 2]) rfl (by omega)).mono ?_
  rintro e w2 ⟨b2, v2, rs2, rfl, hs2, hn2, hb2, hv2, ht2⟩
  have hT2 : Turn [] w1 w2 := ((Turn.refl [] w1).alloc _).trans' ht2
  have hb2' : w.heap.size ≤ b2 := by
    have h1 := HT1.out.size
    simp at hb2
    omega
  have hv2' : ∀ g, v2.ownBlock = some g → w.heap.size ≤ g := fun g hg => by
    have h1 := hv2 g hg
    have h2 := HT1.out.size
    simp at h1
    omega
  have HS2 := Lib.hid hs2
  have HN2 := Lib.hid hn2
  have HT2 := Lib.hid hT2
  have HV2 := Lib.hid hv2'
  clear hs2 hn2 hb2 hv2 ht2 hT2 hv2'
  go_wp2_with fail
  refine (list_any _ v1 rs1 _ (.inr ⟨b1, rfl, HS1.out.turn' HT2.out⟩) (HTab.out.turn' (HT1.out.trans' HT2.out))).mono ?_
  rintro e w3 ⟨vl, rfl, hol, ht3⟩
  rw [HN1.out] at hol
  obtain ⟨Al, cl, hvl, hil, _⟩ := hol.form
  subst hvl
  have HIl := Lib.hid hil
  have HT3 := Lib.hid ht3
  clear hol hil ht3
  go_wp2_with fail
  refine (refSame_any Al _ _ 2 cl 2 (ofL [5, 1, 5]) [1, 5] _ (HIl.out.below ((Turn.refl [] w3).alloc _)) (Ints.lit w3 [1, 5]) rfl rfl (by decide) (by omega)).mono ?_
  rintro e w4 ⟨rfl, q4, hw4⟩
  have hT4 : Turn [] w3 w4 := by rw [hw4]; exact ((Turn.refl [] w3).alloc _).drewN _
  have HT4 := Lib.hid hT4
  have hsm : sameB (ofL [5, 1, 5]) [1, 5] = true := by decide
  rw [hsm]
  clear hT4 hw4 hsm
  go_wp2_with fail
  refine (of_any (some ⟨w4.heap.size, 0, none⟩) 2 2 [2, 3] _ (Ints.lit w4 [2, 3]) rfl (by omega)).mono ?_
  rintro e w5 ⟨b5, v5, rs5, rfl, hs5, hn5, hb5, hv5, ht5⟩
  have hT5 : Turn [] w2 w5 := (HT3.out.trans' HT4.out).trans' (((Turn.refl [] w4).alloc _).trans' ht5)
  have HS5 := Lib.hid hs5
  have HN5 := Lib.hid hn5
  have HT5 := Lib.hid hT5
  clear hs5 hn5 hb5 hv5 ht5 hT5
  go_wp2_with fail
  refine (merge_any b2 v2 rs2 _ v5 rs5 _ (HS2.out.turn' HT5.out) (.inr ⟨b5, rfl, HS5.out⟩) (HTab.out.turn' ((HT1.out.trans' HT2.out).trans' HT5.out)) (by omega) (fun g hg => by have := HV2.out g hg; omega)).mono ?_
  rintro e w6 ⟨vm, v6, rs6, rfl, hom, hs6, hn6, ht6, hm6⟩
  rw [HN5.out, HN2.out] at hom
  obtain ⟨Am, cm, hvm, him, _⟩ := hom.form
  subst hvm
  have HIm := Lib.hid him
  have HT6 := Lib.hid ht6
  clear hom him ht6 hs6 hn6 hm6
  go_wp2_with fail
  refine (refSame_any Am _ _ 1 cm 1 (minusL (ofL [2, 3]) (ofL [1, 2])) [3] _ (HIm.out.below ((Turn.refl [] w6).alloc _)) (Ints.lit w6 [3]) rfl rfl (by decide) (by omega)).mono ?_
  rintro e w7 ⟨rfl, q7, hw7⟩
  have hT7 : Turn [] w6 w7 := by rw [hw7]; exact ((Turn.refl [] w6).alloc _).drewN _
  have HT7 := Lib.hid hT7
  have hsm : sameB (minusL (ofL [2, 3]) (ofL [1, 2])) [3] = true := by decide
  rw [hsm]
  clear hT7 hw7 hsm
  go_wp2_with fail
  go_ret
  refine ⟨rfl, Turn.trans' ?_ HT7.out⟩
  exact ((HT1.out.trans' HT2.out).trans' HT5.out).trans HT6.out (fun g hg => by
    rcases List.mem_cons.1 hg with e | e
    · exact .inr (by omega)
    · exact .inr (HV2.out g (by simpa using e)))
end Go.Proofs.YtclofjlonncnlaaDoor
