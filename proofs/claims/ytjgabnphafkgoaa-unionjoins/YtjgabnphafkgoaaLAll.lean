/- The walk of UnionAll. -/
import Derived.Test.YtjgabnphafkgoaaCls
import Derived.Test.YtjgabnphafkgoaaLTwo
set_option linter.unusedSimpArgs false
set_option linter.unusedVariables false
namespace Go.Proofs.Ytjgabnphafkgoaa
open Go.RowKit Go.Maps

/-- From i on, all below k are one. -/
def rowH (k i : Nat) : Nat → Nat := fun x => if i ≤ x ∧ x < k then i else x
theorem rowH_start (k : Nat) : rowH k (k - 1) = fun x => x := by
  funext x
  unfold rowH
  split
  · omega
  · rfl
theorem rowH_step {k i : Nat} (hi : 0 < i) (hk : i < k) : mg (rowH k i) i (i - 1) = rowH k (i - 1) := by
  have e1 : rowH k i i = i := by unfold rowH; rw [if_pos ⟨Nat.le_refl _, hk⟩]
  have e2 : rowH k i (i - 1) = i - 1 := by unfold rowH; rw [if_neg (by omega)]
  funext x
  unfold mg
  rw [e1, e2, show max i (i - 1) = i by omega, show min i (i - 1) = i - 1 by omega]
  unfold rowH
  by_cases h1 : i ≤ x ∧ x < k
  · rw [if_pos h1, if_pos rfl, if_pos (by omega)]
  · rw [if_neg h1]
    by_cases h2 : x = i - 1
    · rw [if_neg (by omega), if_pos (by omega)]; exact h2
    · rw [if_neg (by omega), if_neg (by omega)]
theorem rowH_ne {k i : Nat} (hi : 0 < i) (hk : i < k) : rowH k i i ≠ rowH k i (i - 1) := by
  unfold rowH
  rw [if_pos ⟨Nat.le_refl _, hk⟩, if_neg (by omega)]
  omega
theorem rowH_zero {k x : Nat} (h : x < k) : rowH k 0 x = 0 := by
  unfold rowH
  rw [if_pos ⟨Nat.zero_le _, h⟩]
theorem hc_start (n : Nat) : hc n (fun i => i) = n := by have := hc_nc n (fun i => i); rw [nc_start] at this; omega

set_option maxRecDepth 100000 in
set_option maxHeartbeats 4000000 in
theorem all_law (n : Nat) (w : World) (hn : n ≤ 255) :
    Calls Try.prog 5 #[.int .u8 (n : Int)] w fun e w' => e = .returned (.bool true) ∧ Turn [] w w' := by
  obtain ⟨K, hK, hK0, hK256⟩ : ∃ K : Nat, (1 : Int) + (n : Int) = (K : Int) ∧ 0 < K ∧ K ≤ 256 := ⟨1 + n, by omega, by omega, by omega⟩
  go_enter Try.func5, Try.ntmps5
  go_wp2_with fail
  refine (awake_any _).mono ?_
  rintro e w1 ⟨rfl, ht1⟩
  have HT1 := Lib.hid ht1
  clear ht1
  go_wp2_with fail
  (with_reducible refine (new_ok K _ (by omega)).mono ?_)
  rintro e w2 ⟨b, m, rfl, hu2, hb2, hm2, ht2⟩
  have hbw : w.heap.size ≤ b := Nat.le_trans HT1.out.size hb2
  have hmw : w.heap.size ≤ m := Nat.le_trans HT1.out.size hm2
  have HU2 := Lib.hid hu2
  have HT2 := Lib.hid (HT1.out.trans' ht2)
  clear hu2 ht2 HT1 hb2 hm2
  go_wp2_with fail
  have HKK := Lib.hid hK
  clear hK
  go_loopw [6] (fun t wr => ∃ (i : Nat), i < K ∧ t = .int .i64 (i : Int) ∧ Hid (hc K (rowH K i) = i + 1) ∧ Hid (Un wr b m K (rowH K i)) ∧ Hid (Turn [] w wr)) (fun t _ => (intOf t).toNat)
  case atStart => exact ⟨K - 1, by omega, by rw [show ((K : Int) - 1) = ((K - 1 : Nat) : Int) by omega], Lib.hid (by rw [rowH_start, hc_start]; omega), Lib.hid (by rw [rowH_start]; exact HU2.out), HT2⟩
  case round =>
    obtain ⟨i, hi, rfl, HC, HU, HT⟩ := hrel
    by_cases hi0 : 0 < i
    · have d0 : decide ((0 : Int) < (i : Int)) = true := by simp; omega
      have hj : i - 1 < K := by omega
      have HJ : Hid (joinI K (rowH K i) [(i : Int), (i : Int) - 1] = rowH K (i - 1)) := Lib.hid (by
        rw [show ((i : Int) - 1) = ((i - 1 : Nat) : Int) by omega, joinI_two hi hj, rowH_step hi0 hi])
      have HC2 : Hid (hc K (rowH K (i - 1)) = i) := Lib.hid (by
        have := hc_mg HU.out.heads hi hj (rowH_ne hi0 hi)
        rw [rowH_step hi0 hi, HC.out] at this
        omega)
      go_wp2_with fail
      refine (join_any b m K (rowH K i) _ _ [(i : Int), (i : Int) - 1] _ (HU.out.turn' ((Turn.refl [] wr).alloc _)) (Ints.two wr _ _) (by simp)).mono ?_
      rw [HJ.out, HC.out, HC2.out, decide_eq_true (Nat.lt_succ_self _)]
      rintro e w3 ⟨rfl, hu3, ht3⟩
      have HU3 := Lib.hid hu3
      have HT3 := Lib.hid ((HT.out.alloc _).trans ht3 (fun g hg => .inr (by simp at hg; omega)))
      clear hu3 ht3
      go_wp2_with fail
      refine (count_any b m K _ _ HU3.out).mono ?_
      rw [HC2.out]
      rintro e w4 ⟨rfl, ht4⟩
      have HU4 := Lib.hid (HU3.out.turn' ht4)
      have HT4 := Lib.hid (HT3.out.trans' ht4)
      clear ht4
      go_wp2_with fail
      go_round
      case rel => exact ⟨i - 1, by omega, by rw [show ((i : Int) - 1) = ((i - 1 : Nat) : Int) by omega], Lib.hid (by rw [HC2.out]; omega), HU4, HT4⟩
      case measure => simp [intOf]; omega
    · obtain rfl : i = 0 := by omega
      rw [show ((0 : Nat) : Int) = 0 from rfl]
      have HC1 : Hid (hc K (rowH K 0) = 1) := Lib.hid (by rw [HC.out])
      go_wp2_with fail
      go_loopw [7] (fun t wr => ∃ (i : Nat), i ≤ K ∧ t = .int .i64 (i : Int) ∧ Hid (Un wr b m K (rowH K 0)) ∧ Hid (Turn [] w wr)) (fun t _ => K - (intOf t).toNat)
      case atStart => exact ⟨0, by omega, rfl, HU, HT⟩
      case round =>
        obtain ⟨i, hi, rfl, HU5, HT5⟩ := hrel
        by_cases hlt : i < K
        · have HJ : Hid (joinI K (rowH K 0) [(i : Int), (K : Int) - 1] = rowH K 0) := Lib.hid (by
            rw [show ((K : Int) - 1) = ((K - 1 : Nat) : Int) by omega, joinI_two hlt (by omega), mg_same]
            rw [rowH_zero hlt, rowH_zero (by omega)])
          have HI := Lib.hid (inB_of hlt)
          have HZ := Lib.hid (rowH_zero hlt)
          go_wp2_with fail
          refine (head_any b m K _ _ _ HU5.out).mono ?_
          rw [if_pos HI.out, Int.toNat_natCast, HZ.out]
          rintro e w6 ⟨rfl, hu6, ht6⟩
          have HU6 := Lib.hid hu6
          have HT6 := Lib.hid (HT5.out.trans ht6 (fun g hg => .inr (by simp at hg; omega)))
          clear hu6 ht6
          go_wp2_with fail
          refine (join_any b m K (rowH K 0) _ _ [(i : Int), (K : Int) - 1] _ (HU6.out.turn' ((Turn.refl [] w6).alloc _)) (Ints.two w6 _ _) (by simp)).mono ?_
          rw [HJ.out, decide_eq_false (Nat.lt_irrefl _)]
          rintro e w7 ⟨rfl, hu7, ht7⟩
          have HU7 := Lib.hid hu7
          have HT7 := Lib.hid ((HT6.out.alloc _).trans ht7 (fun g hg => .inr (by simp at hg; omega)))
          clear hu7 ht7
          go_wp2_with fail
          go_round
          case rel => exact ⟨i + 1, by omega, by go_num, HU7, HT7⟩
          case measure => simp [intOf]; omega
        · go_wp2_with fail
          refine (count_any b m K _ _ HU5.out).mono ?_
          rw [HC1.out]
          rintro e w6 ⟨rfl, ht6⟩
          have HU6 := Lib.hid (HU5.out.turn' ht6)
          have HT6 := Lib.hid (HT5.out.trans' ht6)
          clear ht6
          go_wp2_with fail
          refine (classes_any b m K _ _ HU6.out).mono ?_
          rintro e w7 ⟨v, xs, rfl, ho7, hu7, ht7⟩
          obtain ⟨A, c, hv, _⟩ := ho7.form
          rw [clsI_length, HC1.out] at hv
          subst hv
          have HT7 := Lib.hid (HT6.out.trans ht7 (fun g hg => .inr (by simp at hg; omega)))
          clear ho7 hu7 ht7
          go_wp2_with fail
          go_ret
          exact ⟨rfl, HT7.out⟩
end Go.Proofs.Ytjgabnphafkgoaa
