/- awake: the document's example comes out. -/
import Derived.Test.YtjgabnphafkgoaaSame
set_option linter.unusedSimpArgs false
set_option linter.unusedVariables false
namespace Go.Proofs.Ytjgabnphafkgoaa
open Go.RowKit Go.Maps

/-- Two ints in a new block. -/
theorem Ints.two (w : World) (x y : Int) : Ints (w.alloc (.cells #[.int .i64 x, .int .i64 y] 3)) (some ⟨w.heap.size, 0, none⟩) [x, y] := fun k z hz => by
  match k, hz with
  | 0, hz =>
    simp at hz
    subst hz
    exact ⟨_, _, rfl, by simp, by simp⟩
  | 1, hz =>
    simp at hz
    subst hz
    exact ⟨_, _, rfl, by simp, by simp⟩

theorem aw1 : joinI 4 (fun i => i) [3, 1] 3 = 1 := by decide
theorem aw2 : hc 4 (joinI 4 (fun i => i) [3, 1]) = 3 := by decide
theorem aw3 : hc 4 (fun i => i) = 4 := by decide
theorem aw4 : inB 4 3 = true := by decide

set_option maxHeartbeats 1000000 in
theorem awake_any (w : World) : Calls Try.prog 7 #[] w fun e w' => e = .returned (.bool true) ∧ Turn [] w w' := by
  go_enter Try.func7, Try.ntmps7
  go_wp2_with fail
  refine (new_ok 4 _ (by omega)).mono ?_
  rintro e w1 ⟨b, m, rfl, hu1, hb, hm, ht1⟩
  have HU1 := Lib.hid hu1
  have HT1 := Lib.hid ht1
  clear hu1 ht1
  go_wp2_with fail
  refine (join_any b m 4 (fun i => i) _ _ [3, 1] _ (HU1.out.turn' ((Turn.refl [] w1).alloc _)) (Ints.two w1 3 1) (by simp)).mono ?_
  rw [aw2, aw3]
  rintro e w2 ⟨rfl, hu2, ht2⟩
  have HU2 := Lib.hid hu2
  have HT2 := Lib.hid ((HT1.out.alloc _).trans ht2 (fun g hg => .inr (by simp at hg; omega)))
  clear hu2 ht2 HU1 HT1
  go_wp2_with fail
  refine (head_any b m 4 _ 3 _ HU2.out).mono ?_
  rw [if_pos aw4, show (3 : Int).toNat = 3 from rfl, aw1]
  rintro e w3 ⟨rfl, hu3, ht3⟩
  have HU3 := Lib.hid hu3
  have HT3 := Lib.hid (HT2.out.trans ht3 (fun g hg => .inr (by simp at hg; omega)))
  clear hu3 ht3 HU2 HT2
  go_wp2_with fail
  refine (count_any b m 4 _ _ HU3.out).mono ?_
  rw [aw2]
  rintro e w4 ⟨rfl, ht4⟩
  have HT4 := Lib.hid (HT3.out.trans' ht4)
  clear ht4
  go_wp2_with fail
  go_ret
  exact ⟨rfl, HT4.out⟩
end Go.Proofs.Ytjgabnphafkgoaa
