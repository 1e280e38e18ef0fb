import Derived.Test.YtnmhcgkccchacaaGreatDoorQ09Whp
import Derived.Test.YtnmhcgkccchacaaGreatDoorQ12Pmx

/- ParseMany, kind 0. Printed by mkpml.py. -/
set_option linter.unusedSimpArgs false
set_option linter.unusedVariables false
set_option maxRecDepth 100000
namespace Go.Proofs.YtnmhcgkccchacaaGreatDoor
open Go.RowKit

set_option maxHeartbeats 12800000 in
theorem many0_law (n m : Nat) (hn : n ≤ 255) (hj : m % 5 = 0) (hpm : ∀ k, k < 90 → pmOk 0 k = true) (w : World) (hS : Sg w) (hK : Kw w) (h8 : 7 < w.heap.size) :
    Calls Tryz.prog 6 #[.int .u8 (n : Int), .int .u8 (m : Int)] w fun e w' => e = .returned (.bool true) ∧ Turn [] w w' := by
  have HA := Lib.hid (awake_any w hS hK h8)
  have HP : Hid (∀ W (s : ByteArray), Turn [] w W → Calls Tryz.prog 10 #[.string s] W fun e w' => Turn [] W w' ∧ PRes s.data.toList (fun g => W.heap.size ≤ g) w' e) :=
    Lib.hid fun W s t => parse_plain s W (hS.turn t (by simp)) (hK.turn t (by simp)) (Nat.lt_of_lt_of_le h8 t.size)
  obtain ⟨k, hk⟩ : ∃ k, n % 90 = k := ⟨_, rfl⟩
  have hk90 : k < 90 := by omega
  have HOK := Lib.hid (hpm k hk90)
  have hkI : (n : Int) % 90 = (k : Int) := by omega
  have hkT : Int.tmod (n : Int) 90 = (k : Int) := by rw [Int.tmod_eq_emod_of_nonneg (by omega)]; exact hkI
  have hkW : wrap64 (n : Int) = (n : Int) := by unfold wrap64; omega
  have hjI : (m : Int) % 5 = 0 := by omega
  have hjT : Int.tmod (m : Int) 5 = 0 := by rw [Int.tmod_eq_emod_of_nonneg (by omega)]; exact hjI
  clear hS hK h8 hpm hk
  go_enter Tryz.func6, Tryz.ntmps6
  go_wp2_with fail
  refine HA.out.mono ?_
  rintro e1 w1 ⟨rfl, t1⟩
  have HT1 := Lib.hid t1
  clear t1 HA
  go_wp2_with fail
  go_loopw [10, 11] (fun s i wr => ∃ (q : Nat) (S : ByteArray), q ≤ k ∧ i = .int .i64 (q : Int) ∧ s = .string S ∧ Hid (S = mk (pmH 0 ++ repT q (pmO 0))) ∧ w1 = wr) (fun _ i _ => k - (intOf i).toNat)
  case atStart => exact ⟨0, ⟨#[109, 97, 105, 110, 32, 123, 10]⟩, by omega, by first | rfl | trivial, by first | rfl | trivial, Lib.hid rfl, by first | rfl | trivial⟩
  case round =>
    obtain ⟨q, S, hq, rfl, rfl, HS, rfl⟩ := hrel
    have hsz : S.size ≤ 10000 := by
      rw [HS.out]
      exact pm_size 0 q (by omega)
    by_cases hlt : q < k
    · have c1 : (q : Int) < (k : Int) := by omega
      have c2 : decide ((q : Int) < (k : Int)) = true := by simp; omega
      have c3 : S.size + 7 ≤ 9223372036854775807 := by omega
      go_wp2_with fail
      go_roundw
      case rel => exact ⟨q + 1, _, by omega, by go_num, rfl, Lib.hid (by rw [HS.out]; exact pm_next 0 q), by first | rfl | trivial⟩
      case measure => simp [intOf]; omega
    · obtain rfl : q = k := by omega
      have c2 : decide ((q : Int) < (q : Int)) = false := by simp
      have c3 : S.size + 1 ≤ 9223372036854775807 := by omega
      have hST : S ++ ⟨#[125]⟩ = mk (pmText 0 q) := by rw [HS.out]; exact pm_tail 0 q
      have hcall := HP.out w1 (S ++ ⟨#[125]⟩) HT1.out
      rw [show (S ++ ⟨#[125]⟩ : ByteArray).data.toList = pmText 0 q by rw [hST]; simp [mk]] at hcall
      have HC := Lib.hid hcall
      have hok := HOK.out
      unfold pmOk at hok
      clear hcall hST HP
      go_wp2_with fail
      refine HC.out.mono ?_
      rintro e2 w2 ⟨t2, h2⟩
      have HT2 := Lib.hid (HT1.out.trans' t2)
      clear t2 HC
      by_cases hm : q ≤ 40
      · rw [if_pos (show q ≤ pmMost 0 from hm), decide_eq_true_eq] at hok
        rcases h2 with ⟨hne, _⟩ | ⟨_, xcs, mr, mn, mst, mb, mps, mls, mbd, mln, mcl, P0, P1, P2, P3, q0, q1, q2, q3, hn, rfl⟩
        · exact absurd hok hne
        have m1 : (q : Int) ≤ 40 := by omega
        have m2 : decide ((q : Int) ≤ 40) = true := by simp; omega
        clear hok hn
        go_wp2_with fail
        go_ret
        exact ⟨rfl, ((HT2.out).alloc _).alloc _⟩
      · rw [if_neg (show ¬ q ≤ pmMost 0 from hm), Bool.and_eq_true, Bool.and_eq_true, decide_eq_true_eq, decide_eq_true_eq, decide_eq_true_eq] at hok
        obtain ⟨⟨k1, k2'⟩, k3⟩ := hok
        have k2 : (pfR (pmText 0 q)).2.1 = 42 := k2'
        clear k2'
        rcases h2 with ⟨_, rfl⟩ | ⟨hz, _⟩
        · rw [k1, k2, k3]
          have m1 : ¬ (q : Int) ≤ 40 := by omega
          have m2 : decide ((q : Int) ≤ 40) = false := by simp; omega
          clear k1 k2 k3
          unfold progZ
          go_wp2_with fail
          go_ret
          exact ⟨rfl, ((HT2.out).alloc _).alloc _⟩
        · rw [k1] at hz
          cases hz
end Go.Proofs.YtnmhcgkccchacaaGreatDoor

/- ParseMany, kind 1. Printed by mkpml.py. -/
set_option linter.unusedSimpArgs false
set_option linter.unusedVariables false
set_option maxRecDepth 100000
namespace Go.Proofs.YtnmhcgkccchacaaGreatDoor
open Go.RowKit

set_option maxHeartbeats 12800000 in
theorem many1_law (n m : Nat) (hn : n ≤ 255) (hj : m % 5 = 1) (hpm : ∀ k, k < 90 → pmOk 1 k = true) (w : World) (hS : Sg w) (hK : Kw w) (h8 : 7 < w.heap.size) :
    Calls Tryz.prog 6 #[.int .u8 (n : Int), .int .u8 (m : Int)] w fun e w' => e = .returned (.bool true) ∧ Turn [] w w' := by
  have HA := Lib.hid (awake_any w hS hK h8)
  have HP : Hid (∀ W (s : ByteArray), Turn [] w W → Calls Tryz.prog 10 #[.string s] W fun e w' => Turn [] W w' ∧ PRes s.data.toList (fun g => W.heap.size ≤ g) w' e) :=
    Lib.hid fun W s t => parse_plain s W (hS.turn t (by simp)) (hK.turn t (by simp)) (Nat.lt_of_lt_of_le h8 t.size)
  obtain ⟨k, hk⟩ : ∃ k, n % 90 = k := ⟨_, rfl⟩
  have hk90 : k < 90 := by omega
  have HOK := Lib.hid (hpm k hk90)
  have hkI : (n : Int) % 90 = (k : Int) := by omega
  have hkT : Int.tmod (n : Int) 90 = (k : Int) := by rw [Int.tmod_eq_emod_of_nonneg (by omega)]; exact hkI
  have hkW : wrap64 (n : Int) = (n : Int) := by unfold wrap64; omega
  have hjI : (m : Int) % 5 = 1 := by omega
  have hjT : Int.tmod (m : Int) 5 = 1 := by rw [Int.tmod_eq_emod_of_nonneg (by omega)]; exact hjI
  clear hS hK h8 hpm hk
  go_enter Tryz.func6, Tryz.ntmps6
  go_wp2_with fail
  refine HA.out.mono ?_
  rintro e1 w1 ⟨rfl, t1⟩
  have HT1 := Lib.hid t1
  clear t1 HA
  go_wp2_with fail
  go_loopw [10, 11] (fun s i wr => ∃ (q : Nat) (S : ByteArray), q ≤ k ∧ i = .int .i64 (q : Int) ∧ s = .string S ∧ Hid (S = mk (pmH 1 ++ repT q (pmO 1))) ∧ w1 = wr) (fun _ i _ => k - (intOf i).toNat)
  case atStart => exact ⟨0, ⟨#[109, 97, 105, 110, 32, 123, 10]⟩, by omega, by first | rfl | trivial, by first | rfl | trivial, Lib.hid rfl, by first | rfl | trivial⟩
  case round =>
    obtain ⟨q, S, hq, rfl, rfl, HS, rfl⟩ := hrel
    have hsz : S.size ≤ 10000 := by
      rw [HS.out]
      exact pm_size 1 q (by omega)
    by_cases hlt : q < k
    · have c1 : (q : Int) < (k : Int) := by omega
      have c2 : decide ((q : Int) < (k : Int)) = true := by simp; omega
      have c3 : S.size + 9 ≤ 9223372036854775807 := by omega
      go_wp2_with fail
      go_roundw
      case rel => exact ⟨q + 1, _, by omega, by go_num, rfl, Lib.hid (by rw [HS.out]; exact pm_next 1 q), by first | rfl | trivial⟩
      case measure => simp [intOf]; omega
    · obtain rfl : q = k := by omega
      have c2 : decide ((q : Int) < (q : Int)) = false := by simp
      have c3 : S.size + 1 ≤ 9223372036854775807 := by omega
      have hST : S ++ ⟨#[125]⟩ = mk (pmText 1 q) := by rw [HS.out]; exact pm_tail 1 q
      have hcall := HP.out w1 (S ++ ⟨#[125]⟩) HT1.out
      rw [show (S ++ ⟨#[125]⟩ : ByteArray).data.toList = pmText 1 q by rw [hST]; simp [mk]] at hcall
      have HC := Lib.hid hcall
      have hok := HOK.out
      unfold pmOk at hok
      clear hcall hST HP
      go_wp2_with fail
      refine HC.out.mono ?_
      rintro e2 w2 ⟨t2, h2⟩
      have HT2 := Lib.hid (HT1.out.trans' t2)
      clear t2 HC
      by_cases hm : q ≤ 40
      · rw [if_pos (show q ≤ pmMost 1 from hm), decide_eq_true_eq] at hok
        rcases h2 with ⟨hne, _⟩ | ⟨_, xcs, mr, mn, mst, mb, mps, mls, mbd, mln, mcl, P0, P1, P2, P3, q0, q1, q2, q3, hn, rfl⟩
        · exact absurd hok hne
        have m1 : (q : Int) ≤ 40 := by omega
        have m2 : decide ((q : Int) ≤ 40) = true := by simp; omega
        clear hok hn
        go_wp2_with fail
        go_ret
        exact ⟨rfl, ((HT2.out).alloc _).alloc _⟩
      · rw [if_neg (show ¬ q ≤ pmMost 1 from hm), Bool.and_eq_true, Bool.and_eq_true, decide_eq_true_eq, decide_eq_true_eq, decide_eq_true_eq] at hok
        obtain ⟨⟨k1, k2'⟩, k3⟩ := hok
        have k2 : (pfR (pmText 1 q)).2.1 = 42 := k2'
        clear k2'
        rcases h2 with ⟨_, rfl⟩ | ⟨hz, _⟩
        · rw [k1, k2, k3]
          have m1 : ¬ (q : Int) ≤ 40 := by omega
          have m2 : decide ((q : Int) ≤ 40) = false := by simp; omega
          clear k1 k2 k3
          unfold progZ
          go_wp2_with fail
          go_ret
          exact ⟨rfl, ((HT2.out).alloc _).alloc _⟩
        · rw [k1] at hz
          cases hz
end Go.Proofs.YtnmhcgkccchacaaGreatDoor

/- ParseMany, kind 2. Printed by mkpml.py. -/
set_option linter.unusedSimpArgs false
set_option linter.unusedVariables false
set_option maxRecDepth 100000
namespace Go.Proofs.YtnmhcgkccchacaaGreatDoor
open Go.RowKit

set_option maxHeartbeats 12800000 in
theorem many2_law (n m : Nat) (hn : n ≤ 255) (hj : m % 5 = 2) (hpm : ∀ k, k < 90 → pmOk 2 k = true) (w : World) (hS : Sg w) (hK : Kw w) (h8 : 7 < w.heap.size) :
    Calls Tryz.prog 6 #[.int .u8 (n : Int), .int .u8 (m : Int)] w fun e w' => e = .returned (.bool true) ∧ Turn [] w w' := by
  have HA := Lib.hid (awake_any w hS hK h8)
  have HP : Hid (∀ W (s : ByteArray), Turn [] w W → Calls Tryz.prog 10 #[.string s] W fun e w' => Turn [] W w' ∧ PRes s.data.toList (fun g => W.heap.size ≤ g) w' e) :=
    Lib.hid fun W s t => parse_plain s W (hS.turn t (by simp)) (hK.turn t (by simp)) (Nat.lt_of_lt_of_le h8 t.size)
  obtain ⟨k, hk⟩ : ∃ k, n % 90 = k := ⟨_, rfl⟩
  have hk90 : k < 90 := by omega
  have HOK := Lib.hid (hpm k hk90)
  have hkI : (n : Int) % 90 = (k : Int) := by omega
  have hkT : Int.tmod (n : Int) 90 = (k : Int) := by rw [Int.tmod_eq_emod_of_nonneg (by omega)]; exact hkI
  have hkW : wrap64 (n : Int) = (n : Int) := by unfold wrap64; omega
  have hjI : (m : Int) % 5 = 2 := by omega
  have hjT : Int.tmod (m : Int) 5 = 2 := by rw [Int.tmod_eq_emod_of_nonneg (by omega)]; exact hjI
  clear hS hK h8 hpm hk
  go_enter Tryz.func6, Tryz.ntmps6
  go_wp2_with fail
  refine HA.out.mono ?_
  rintro e1 w1 ⟨rfl, t1⟩
  have HT1 := Lib.hid t1
  clear t1 HA
  go_wp2_with fail
  go_loopw [10, 11] (fun s i wr => ∃ (q : Nat) (S : ByteArray), q ≤ k ∧ i = .int .i64 (q : Int) ∧ s = .string S ∧ Hid (S = mk (pmH 2 ++ repT q (pmO 2))) ∧ w1 = wr) (fun _ i _ => k - (intOf i).toNat)
  case atStart => exact ⟨0, ⟨#[]⟩, by omega, by first | rfl | trivial, by first | rfl | trivial, Lib.hid rfl, by first | rfl | trivial⟩
  case round =>
    obtain ⟨q, S, hq, rfl, rfl, HS, rfl⟩ := hrel
    have hsz : S.size ≤ 10000 := by
      rw [HS.out]
      exact pm_size 2 q (by omega)
    by_cases hlt : q < k
    · have c1 : (q : Int) < (k : Int) := by omega
      have c2 : decide ((q : Int) < (k : Int)) = true := by simp; omega
      have c3 : S.size + 12 ≤ 9223372036854775807 := by omega
      go_wp2_with fail
      go_roundw
      case rel => exact ⟨q + 1, _, by omega, by go_num, rfl, Lib.hid (by rw [HS.out]; exact pm_next 2 q), by first | rfl | trivial⟩
      case measure => simp [intOf]; omega
    · obtain rfl : q = k := by omega
      have c2 : decide ((q : Int) < (q : Int)) = false := by simp
      have c3 : S.size + 8 ≤ 9223372036854775807 := by omega
      have hST : S ++ ⟨#[109, 97, 105, 110, 32, 123, 32, 125]⟩ = mk (pmText 2 q) := by rw [HS.out]; exact pm_tail 2 q
      have hcall := HP.out w1 (S ++ ⟨#[109, 97, 105, 110, 32, 123, 32, 125]⟩) HT1.out
      rw [show (S ++ ⟨#[109, 97, 105, 110, 32, 123, 32, 125]⟩ : ByteArray).data.toList = pmText 2 q by rw [hST]; simp [mk]] at hcall
      have HC := Lib.hid hcall
      have hok := HOK.out
      unfold pmOk at hok
      clear hcall hST HP
      go_wp2_with fail
      refine HC.out.mono ?_
      rintro e2 w2 ⟨t2, h2⟩
      have HT2 := Lib.hid (HT1.out.trans' t2)
      clear t2 HC
      by_cases hm : q ≤ 60
      · rw [if_pos (show q ≤ pmMost 2 from hm), decide_eq_true_eq] at hok
        rcases h2 with ⟨hne, _⟩ | ⟨_, xcs, mr, mn, mst, mb, mps, mls, mbd, mln, mcl, P0, P1, P2, P3, q0, q1, q2, q3, hn, rfl⟩
        · exact absurd hok hne
        have m1 : (q : Int) ≤ 60 := by omega
        have m2 : decide ((q : Int) ≤ 60) = true := by simp; omega
        clear hok hn
        go_wp2_with fail
        go_ret
        exact ⟨rfl, ((HT2.out).alloc _).alloc _⟩
      · rw [if_neg (show ¬ q ≤ pmMost 2 from hm), Bool.and_eq_true, Bool.and_eq_true, decide_eq_true_eq, decide_eq_true_eq, decide_eq_true_eq] at hok
        obtain ⟨⟨k1, k2'⟩, k3⟩ := hok
        have k2 : (pfR (pmText 2 q)).2.1 = 61 := k2'
        clear k2'
        rcases h2 with ⟨_, rfl⟩ | ⟨hz, _⟩
        · rw [k1, k2, k3]
          have m1 : ¬ (q : Int) ≤ 60 := by omega
          have m2 : decide ((q : Int) ≤ 60) = false := by simp; omega
          clear k1 k2 k3
          unfold progZ
          go_wp2_with fail
          go_ret
          exact ⟨rfl, ((HT2.out).alloc _).alloc _⟩
        · rw [k1] at hz
          cases hz
end Go.Proofs.YtnmhcgkccchacaaGreatDoor

/- ParseMany, kind 3. Printed by mkpml.py. -/
set_option linter.unusedSimpArgs false
set_option linter.unusedVariables false
set_option maxRecDepth 100000
namespace Go.Proofs.YtnmhcgkccchacaaGreatDoor
open Go.RowKit

set_option maxHeartbeats 12800000 in
theorem many3_law (n m : Nat) (hn : n ≤ 255) (hj : m % 5 = 3) (hpm : ∀ k, k < 90 → pmOk 3 k = true) (w : World) (hS : Sg w) (hK : Kw w) (h8 : 7 < w.heap.size) :
    Calls Tryz.prog 6 #[.int .u8 (n : Int), .int .u8 (m : Int)] w fun e w' => e = .returned (.bool true) ∧ Turn [] w w' := by
  have HA := Lib.hid (awake_any w hS hK h8)
  have HP : Hid (∀ W (s : ByteArray), Turn [] w W → Calls Tryz.prog 10 #[.string s] W fun e w' => Turn [] W w' ∧ PRes s.data.toList (fun g => W.heap.size ≤ g) w' e) :=
    Lib.hid fun W s t => parse_plain s W (hS.turn t (by simp)) (hK.turn t (by simp)) (Nat.lt_of_lt_of_le h8 t.size)
  obtain ⟨k, hk⟩ : ∃ k, n % 90 = k := ⟨_, rfl⟩
  have hk90 : k < 90 := by omega
  have HOK := Lib.hid (hpm k hk90)
  have hkI : (n : Int) % 90 = (k : Int) := by omega
  have hkT : Int.tmod (n : Int) 90 = (k : Int) := by rw [Int.tmod_eq_emod_of_nonneg (by omega)]; exact hkI
  have hkW : wrap64 (n : Int) = (n : Int) := by unfold wrap64; omega
  have hjI : (m : Int) % 5 = 3 := by omega
  have hjT : Int.tmod (m : Int) 5 = 3 := by rw [Int.tmod_eq_emod_of_nonneg (by omega)]; exact hjI
  clear hS hK h8 hpm hk
  go_enter Tryz.func6, Tryz.ntmps6
  go_wp2_with fail
  refine HA.out.mono ?_
  rintro e1 w1 ⟨rfl, t1⟩
  have HT1 := Lib.hid t1
  clear t1 HA
  go_wp2_with fail
  go_loopw [10, 11] (fun s i wr => ∃ (q : Nat) (S : ByteArray), q ≤ k ∧ i = .int .i64 (q : Int) ∧ s = .string S ∧ Hid (S = mk (pmH 3 ++ repT q (pmO 3))) ∧ w1 = wr) (fun _ i _ => k - (intOf i).toNat)
  case atStart => exact ⟨0, ⟨#[99, 108, 97, 115, 115, 32, 65, 32, 123, 10]⟩, by omega, by first | rfl | trivial, by first | rfl | trivial, Lib.hid rfl, by first | rfl | trivial⟩
  case round =>
    obtain ⟨q, S, hq, rfl, rfl, HS, rfl⟩ := hrel
    have hsz : S.size ≤ 10000 := by
      rw [HS.out]
      exact pm_size 3 q (by omega)
    by_cases hlt : q < k
    · have c1 : (q : Int) < (k : Int) := by omega
      have c2 : decide ((q : Int) < (k : Int)) = true := by simp; omega
      have c3 : S.size + 26 ≤ 9223372036854775807 := by omega
      go_wp2_with fail
      go_roundw
      case rel => exact ⟨q + 1, _, by omega, by go_num, rfl, Lib.hid (by rw [HS.out]; exact pm_next 3 q), by first | rfl | trivial⟩
      case measure => simp [intOf]; omega
    · obtain rfl : q = k := by omega
      have c2 : decide ((q : Int) < (q : Int)) = false := by simp
      have c3 : S.size + 10 ≤ 9223372036854775807 := by omega
      have hST : S ++ ⟨#[125, 32, 109, 97, 105, 110, 32, 123, 32, 125]⟩ = mk (pmText 3 q) := by rw [HS.out]; exact pm_tail 3 q
      have hcall := HP.out w1 (S ++ ⟨#[125, 32, 109, 97, 105, 110, 32, 123, 32, 125]⟩) HT1.out
      rw [show (S ++ ⟨#[125, 32, 109, 97, 105, 110, 32, 123, 32, 125]⟩ : ByteArray).data.toList = pmText 3 q by rw [hST]; simp [mk]] at hcall
      have HC := Lib.hid hcall
      have hok := HOK.out
      unfold pmOk at hok
      clear hcall hST HP
      go_wp2_with fail
      refine HC.out.mono ?_
      rintro e2 w2 ⟨t2, h2⟩
      have HT2 := Lib.hid (HT1.out.trans' t2)
      clear t2 HC
      by_cases hm : q ≤ 40
      · rw [if_pos (show q ≤ pmMost 3 from hm), decide_eq_true_eq] at hok
        rcases h2 with ⟨hne, _⟩ | ⟨_, xcs, mr, mn, mst, mb, mps, mls, mbd, mln, mcl, P0, P1, P2, P3, q0, q1, q2, q3, hn, rfl⟩
        · exact absurd hok hne
        have m1 : (q : Int) ≤ 40 := by omega
        have m2 : decide ((q : Int) ≤ 40) = true := by simp; omega
        clear hok hn
        go_wp2_with fail
        go_ret
        exact ⟨rfl, ((HT2.out).alloc _).alloc _⟩
      · rw [if_neg (show ¬ q ≤ pmMost 3 from hm), Bool.and_eq_true, Bool.and_eq_true, decide_eq_true_eq, decide_eq_true_eq, decide_eq_true_eq] at hok
        obtain ⟨⟨k1, k2'⟩, k3⟩ := hok
        have k2 : (pfR (pmText 3 q)).2.1 = 42 := k2'
        clear k2'
        rcases h2 with ⟨_, rfl⟩ | ⟨hz, _⟩
        · rw [k1, k2, k3]
          have m1 : ¬ (q : Int) ≤ 40 := by omega
          have m2 : decide ((q : Int) ≤ 40) = false := by simp; omega
          clear k1 k2 k3
          unfold progZ
          go_wp2_with fail
          go_ret
          exact ⟨rfl, ((HT2.out).alloc _).alloc _⟩
        · rw [k1] at hz
          cases hz
end Go.Proofs.YtnmhcgkccchacaaGreatDoor

/- ParseMany, kind 4. Printed by mkpml.py. -/
set_option linter.unusedSimpArgs false
set_option linter.unusedVariables false
set_option maxRecDepth 100000
namespace Go.Proofs.YtnmhcgkccchacaaGreatDoor
open Go.RowKit

set_option maxHeartbeats 12800000 in
theorem many4_law (n m : Nat) (hn : n ≤ 255) (hj : m % 5 = 4) (hpm : ∀ k, k < 90 → pmOk 4 k = true) (w : World) (hS : Sg w) (hK : Kw w) (h8 : 7 < w.heap.size) :
    Calls Tryz.prog 6 #[.int .u8 (n : Int), .int .u8 (m : Int)] w fun e w' => e = .returned (.bool true) ∧ Turn [] w w' := by
  have HA := Lib.hid (awake_any w hS hK h8)
  have HP : Hid (∀ W (s : ByteArray), Turn [] w W → Calls Tryz.prog 10 #[.string s] W fun e w' => Turn [] W w' ∧ PRes s.data.toList (fun g => W.heap.size ≤ g) w' e) :=
    Lib.hid fun W s t => parse_plain s W (hS.turn t (by simp)) (hK.turn t (by simp)) (Nat.lt_of_lt_of_le h8 t.size)
  obtain ⟨k, hk⟩ : ∃ k, n % 90 = k := ⟨_, rfl⟩
  have hk90 : k < 90 := by omega
  have HOK := Lib.hid (hpm k hk90)
  have hkI : (n : Int) % 90 = (k : Int) := by omega
  have hkT : Int.tmod (n : Int) 90 = (k : Int) := by rw [Int.tmod_eq_emod_of_nonneg (by omega)]; exact hkI
  have hkW : wrap64 (n : Int) = (n : Int) := by unfold wrap64; omega
  have hjI : (m : Int) % 5 = 4 := by omega
  have hjT : Int.tmod (m : Int) 5 = 4 := by rw [Int.tmod_eq_emod_of_nonneg (by omega)]; exact hjI
  clear hS hK h8 hpm hk
  go_enter Tryz.func6, Tryz.ntmps6
  go_wp2_with fail
  refine HA.out.mono ?_
  rintro e1 w1 ⟨rfl, t1⟩
  have HT1 := Lib.hid t1
  clear t1 HA
  go_wp2_with fail
  go_loopw [10, 11] (fun s i wr => ∃ (q : Nat) (S : ByteArray), q ≤ k ∧ i = .int .i64 (q : Int) ∧ s = .string S ∧ Hid (S = mk (pmH 4 ++ repT q (pmO 4))) ∧ w1 = wr) (fun _ i _ => k - (intOf i).toNat)
  case atStart => exact ⟨0, ⟨#[99, 108, 97, 115, 115, 32, 65, 32, 123, 10]⟩, by omega, by first | rfl | trivial, by first | rfl | trivial, Lib.hid rfl, by first | rfl | trivial⟩
  case round =>
    obtain ⟨q, S, hq, rfl, rfl, HS, rfl⟩ := hrel
    have hsz : S.size ≤ 10000 := by
      rw [HS.out]
      exact pm_size 4 q (by omega)
    by_cases hlt : q < k
    · have c1 : (q : Int) < (k : Int) := by omega
      have c2 : decide ((q : Int) < (k : Int)) = true := by simp; omega
      have c3 : S.size + 14 ≤ 9223372036854775807 := by omega
      go_wp2_with fail
      go_roundw
      case rel => exact ⟨q + 1, _, by omega, by go_num, rfl, Lib.hid (by rw [HS.out]; exact pm_next 4 q), by first | rfl | trivial⟩
      case measure => simp [intOf]; omega
    · obtain rfl : q = k := by omega
      have c2 : decide ((q : Int) < (q : Int)) = false := by simp
      have c3 : S.size + 10 ≤ 9223372036854775807 := by omega
      have hST : S ++ ⟨#[125, 32, 109, 97, 105, 110, 32, 123, 32, 125]⟩ = mk (pmText 4 q) := by rw [HS.out]; exact pm_tail 4 q
      have hcall := HP.out w1 (S ++ ⟨#[125, 32, 109, 97, 105, 110, 32, 123, 32, 125]⟩) HT1.out
      rw [show (S ++ ⟨#[125, 32, 109, 97, 105, 110, 32, 123, 32, 125]⟩ : ByteArray).data.toList = pmText 4 q by rw [hST]; simp [mk]] at hcall
      have HC := Lib.hid hcall
      have hok := HOK.out
      unfold pmOk at hok
      clear hcall hST HP
      go_wp2_with fail
      refine HC.out.mono ?_
      rintro e2 w2 ⟨t2, h2⟩
      have HT2 := Lib.hid (HT1.out.trans' t2)
      clear t2 HC
      by_cases hm : q ≤ 40
      · rw [if_pos (show q ≤ pmMost 4 from hm), decide_eq_true_eq] at hok
        rcases h2 with ⟨hne, _⟩ | ⟨_, xcs, mr, mn, mst, mb, mps, mls, mbd, mln, mcl, P0, P1, P2, P3, q0, q1, q2, q3, hn, rfl⟩
        · exact absurd hok hne
        have m1 : (q : Int) ≤ 40 := by omega
        have m2 : decide ((q : Int) ≤ 40) = true := by simp; omega
        clear hok hn
        go_wp2_with fail
        go_ret
        exact ⟨rfl, ((HT2.out).alloc _).alloc _⟩
      · rw [if_neg (show ¬ q ≤ pmMost 4 from hm), Bool.and_eq_true, Bool.and_eq_true, decide_eq_true_eq, decide_eq_true_eq, decide_eq_true_eq] at hok
        obtain ⟨⟨k1, k2'⟩, k3⟩ := hok
        have k2 : (pfR (pmText 4 q)).2.1 = 42 := k2'
        clear k2'
        rcases h2 with ⟨_, rfl⟩ | ⟨hz, _⟩
        · rw [k1, k2, k3]
          have m1 : ¬ (q : Int) ≤ 40 := by omega
          have m2 : decide ((q : Int) ≤ 40) = false := by simp; omega
          clear k1 k2 k3
          unfold progZ
          go_wp2_with fail
          go_ret
          exact ⟨rfl, ((HT2.out).alloc _).alloc _⟩
        · rw [k1] at hz
          cases hz
end Go.Proofs.YtnmhcgkccchacaaGreatDoor
