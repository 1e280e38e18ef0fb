/- The walk of UnionTwo. -/
import Derived.Test.YtjgabnphafkgoaaAwake
set_option linter.unusedSimpArgs false
set_option linter.unusedVariables false
namespace Go.Proofs.Ytjgabnphafkgoaa
open Go.RowKit Go.Maps

/-- The slice at A reads as the list of pairs of bytes. -/
def Prs (w : World) (A : Option Addr) (l : List (Nat × Nat)) : Prop :=
  ∀ k q, l[k]? = some q → ∃ b off, A = some ⟨b, off, none⟩ ∧ b < w.heap.size ∧ w.cell? ⟨b, off + k * 2, none⟩ = some (.int .u8 (q.1 : Int)) ∧ w.cell? ⟨b, off + k * 2 + 1, none⟩ = some (.int .u8 (q.2 : Int))
theorem Prs.turn {w w' : World} {A : Option Addr} {l : List (Nat × Nat)} (h : Prs w A l) (t : Turn [] w w') : Prs w' A l := fun k q hq => by
  obtain ⟨b, off, e, hlt, h1, h2⟩ := h k q hq
  exact ⟨b, off, e, Nat.lt_of_lt_of_le hlt t.size, (t.cell (p := ⟨b, off + k * 2, none⟩) hlt (by simp)).trans h1, (t.cell (p := ⟨b, off + k * 2 + 1, none⟩) hlt (by simp)).trans h2⟩

theorem two_all {K a b : Nat} (ha : a < K) (hb : b < K) : ([(a : Int), (b : Int)]).all (inB K) = true := by
  simp [inB_of ha, inB_of hb]
theorem joinI_two {K a b : Nat} {G : Nat → Nat} (ha : a < K) (hb : b < K) : joinI K G [(a : Int), (b : Int)] = mg G a b := by
  unfold joinI
  rw [if_pos (two_all ha hb)]
  show joinL G [a, b] = _
  rw [joinL_cons]
  rfl
theorem sameI_two {K a b : Nat} {G : Nat → Nat} (ha : a < K) (hb : b < K) : sameI K G [(a : Int), (b : Int)] = decide (G b = G a) := by
  unfold sameI
  rw [two_all ha hb]
  simp
theorem mg_le {n : Nat} {G : Nat → Nat} (h : Heads n G) {a b : Nat} (ha : a < n) (hb : b < n) : mg G a b a ≤ a ∧ mg G a b a ≤ b := by
  have h1 := (h.mg ha hb).le a
  have h2 := (h.mg ha hb).le b
  rw [← mg_join] at h2
  exact ⟨h1, h2⟩

set_option maxRecDepth 100000 in
set_option maxHeartbeats 4000000 in
theorem two_law (n : Nat) (A : Option Addr) (c : Nat) (l : List (Nat × Nat)) (w : World) (hn : n ≤ 255) (hl : l.length ≤ 9223372036854775807) (hA : Prs w A l) (hb : ∀ q ∈ l, q.1 ≤ 255 ∧ q.2 ≤ 255) :
    Calls Try.prog 6 #[.int .u8 (n : Int), .slice A l.length c] w fun e w' => e = .returned (.bool true) ∧ Turn [] w w' := by
  have HA := Lib.hid hA
  have HB := Lib.hid hb
  clear hA hb
  by_cases h60 : 60 < l.length
  · have hd : decide ((60 : Int) < (l.length : Int)) = true := by simp; omega
    go_enter Try.func6, Try.ntmps6
    go_wp2_with fail
    refine (awake_any _).mono ?_
    rintro e w1 ⟨rfl, ht1⟩
    have HT1 := Lib.hid ht1
    clear ht1
    go_wp2_with fail
    refine (awake_any _).mono ?_
    rintro e w2 ⟨rfl, ht2⟩
    have HT2 := Lib.hid (HT1.out.trans' ht2)
    clear ht2
    go_wp2_with fail
    go_ret
    exact ⟨rfl, HT2.out⟩
  · have hd : decide ((60 : Int) < (l.length : Int)) = false := by simp; omega
    obtain ⟨K, hK, hK0, hK60⟩ : ∃ K : Nat, (1 : Int) + (n : Int) % 60 = (K : Int) ∧ 0 < K ∧ K ≤ 60 := ⟨1 + n % 60, by omega, by omega, by omega⟩
    go_enter Try.func6, Try.ntmps6
    go_wp2_with fail
    refine (awake_any _).mono ?_
    rintro e w1 ⟨rfl, ht1⟩
    have HT1 := Lib.hid ht1
    clear ht1
    go_wp2_with fail
    (with_reducible refine (new_ok K _ (by omega)).mono ?_)
    rintro e w2 ⟨b, m, rfl, hu2, hb2, hm2, ht2⟩
    have hbw : w.heap.size ≤ b := Nat.le_trans HT1.out.size hb2
    have hmw : w.heap.size ≤ m := Nat.le_trans HT1.out.size hm2
    have HU2 := Lib.hid hu2
    have HT2 := Lib.hid (HT1.out.trans' ht2)
    clear hu2 ht2 HT1 hb2 hm2
    go_wp2_with fail
    have HKK := Lib.hid hK
    clear hK
    go_loopw [8] (fun t wr => ∃ (i : Nat) (G : Nat → Nat), i ≤ l.length ∧ t = .int .i64 (i : Int) ∧ Hid (Un wr b m K G) ∧ Hid (Turn [] w wr)) (fun t _ => l.length - (intOf t).toNat)
    case atStart => exact ⟨0, _, Nat.zero_le _, rfl, HU2, HT2⟩
    case round =>
      obtain ⟨i, G, hi, rfl, HU, HT⟩ := hrel
      by_cases hlt : i < l.length
      · obtain ⟨q, hq⟩ := at_lt hlt
        obtain ⟨g, off, rfl, hg, c1, c2⟩ := (HA.out.turn HT.out) i q hq
        obtain ⟨hq1, hq2⟩ := HB.out q (List.mem_of_getElem? hq)
        obtain ⟨x, y⟩ := q
        simp only at c1 c2 hq1 hq2
        clear hq
        obtain ⟨u, hu, hu1⟩ : ∃ u : Nat, x % K = u ∧ u < K := ⟨_, rfl, Nat.mod_lt _ hK0⟩
        obtain ⟨v, hv, hv1⟩ : ∃ v : Nat, y % K = v ∧ v < K := ⟨_, rfl, Nat.mod_lt _ hK0⟩
        have ex : (x : Int) % (K : Int) = (u : Int) := by rw [← hu]; rfl
        have ey : (y : Int) % (K : Int) = (v : Int) := by rw [← hv]; rfl
        have ex' : (x : Int).tmod (K : Int) = (u : Int) := by rw [← hu]; rfl
        have ey' : (y : Int).tmod (K : Int) = (v : Int) := by rw [← hv]; rfl
        have wx : IntKind.i64.wrap (x : Int) = (x : Int) := IntWalk.i64_in _ (by omega)
        have wy : IntKind.i64.wrap (y : Int) = (y : Int) := IntWalk.i64_in _ (by omega)
        have kz : ((K : Int) == 0) = false := by simp; omega
        have kz' : ¬ (K : Int) = 0 := by omega
        clear hu hv
        go_wp2_with fail
        go_quiet (fail)
        clear ex ey ex' ey' wx wy
        have HHd := HU.out.heads
        have HI1 := Lib.hid (inB_of hu1)
        have HI2 := Lib.hid (inB_of hv1)
        by_cases hs : G u = G v
        · have HS1 : Hid (sameI K G [(u : Int), (v : Int)] = true) := Lib.hid (by rw [sameI_two hu1 hv1]; simp [hs])
          have HS2 : Hid (sameI K G [(v : Int), (u : Int)] = true) := Lib.hid (by rw [sameI_two hv1 hu1]; simp [hs])
          have HJ : Hid (joinI K G [(u : Int), (v : Int)] = G) := Lib.hid ((joinI_two hu1 hv1).trans (mg_same hs))
          obtain ⟨r, hr⟩ : ∃ r, G u = r := ⟨_, rfl⟩
          obtain ⟨s, hsc⟩ : ∃ s, hc K G = s := ⟨_, rfl⟩
          have hsK : s ≤ 60 := by have := hc_le K G; omega
          have hru : r ≤ u := by have := HHd.le u; omega
          have hrv : r ≤ v := by have := HHd.le v; omega
          have HC1 := Lib.hid hsc
          have HC2 := Lib.hid hsc
          have HM1 := Lib.hid hr
          have HM2 := Lib.hid (hs.symm.trans hr)
          clear hr hsc hs HHd
          go_wp2_with fail
          refine (same_any b m K G _ _ [(u : Int), (v : Int)] _ ((HU.out.turn' ((Turn.refl [] wr).drewN nq)).turn' ((Turn.refl [] _).alloc _)) (Ints.two _ _ _) (by simp)).mono ?_
          rw [HS1.out]
          rintro e w3 ⟨rfl, hu3, ht3⟩
          have HU3 := Lib.hid hu3
          have HT3 := Lib.hid (((HT.out.drewN nq).alloc _).trans ht3 (fun g hg => .inr (by simp at hg; omega)))
          clear hu3 ht3
          go_wp2_with fail
          refine (count_any b m K G _ HU3.out).mono ?_
          rw [HC1.out]
          rintro e w4 ⟨rfl, ht4⟩
          have HU4 := Lib.hid (HU3.out.turn' ht4)
          have HT4 := Lib.hid (HT3.out.trans' ht4)
          clear ht4 HU3 HT3
          go_wp2_with fail
          refine (join_any b m K G _ _ [(u : Int), (v : Int)] _ (HU4.out.turn' ((Turn.refl [] w4).alloc _)) (Ints.two w4 _ _) (by simp)).mono ?_
          rw [HJ.out, HC1.out, decide_eq_false (Nat.lt_irrefl _)]
          rintro e w5 ⟨rfl, hu5, ht5⟩
          have HU5 := Lib.hid hu5
          have HT5 := Lib.hid ((HT4.out.alloc _).trans ht5 (fun g hg => .inr (by simp at hg; omega)))
          clear hu5 ht5 HU4 HT4
          go_wp2_with fail
          refine (same_any b m K _ _ _ [(v : Int), (u : Int)] _ (HU5.out.turn' ((Turn.refl [] w5).alloc _)) (Ints.two w5 _ _) (by simp)).mono ?_
          rw [HS2.out]
          rintro e w6 ⟨rfl, hu6, ht6⟩
          have HU6 := Lib.hid hu6
          have HT6 := Lib.hid ((HT5.out.alloc _).trans ht6 (fun g hg => .inr (by simp at hg; omega)))
          clear hu6 ht6 HU5 HT5
          go_wp2_with fail
          refine (head_any b m K _ _ _ HU6.out).mono ?_
          rw [if_pos HI1.out, Int.toNat_natCast, HM1.out]
          rintro e w7 ⟨rfl, hu7, ht7⟩
          have HU7 := Lib.hid hu7
          have HT7 := Lib.hid (HT6.out.trans ht7 (fun g hg => .inr (by simp at hg; omega)))
          clear hu7 ht7 HU6 HT6
          go_wp2_with fail
          refine (head_any b m K _ _ _ HU7.out).mono ?_
          rw [if_pos HI2.out, Int.toNat_natCast, HM2.out]
          rintro e w8 ⟨rfl, hu8, ht8⟩
          have HU8 := Lib.hid hu8
          have HT8 := Lib.hid (HT7.out.trans ht8 (fun g hg => .inr (by simp at hg; omega)))
          clear hu8 ht8 HU7 HT7
          go_wp2_with fail
          refine (head_any b m K _ _ _ HU8.out).mono ?_
          rw [if_pos HI1.out, Int.toNat_natCast, HM1.out]
          rintro e w9 ⟨rfl, hu9, ht9⟩
          have HU9 := Lib.hid hu9
          have HT9 := Lib.hid (HT8.out.trans ht9 (fun g hg => .inr (by simp at hg; omega)))
          clear hu9 ht9 HU8 HT8
          have d1 : decide ((u : Int) < (r : Int)) = false := by simp; omega
          have d2 : decide ((v : Int) < (r : Int)) = false := by simp; omega
          have d3 : decide (u < r) = false := by simp; omega
          have d4 : decide (v < r) = false := by simp; omega
          have d5 : ¬ u < r := by omega
          have d6 : ¬ v < r := by omega
          go_wp2_with fail
          all_goals
            refine (count_any b m K _ _ HU9.out).mono ?_
            rw [HC2.out]
            rintro e w10 ⟨rfl, ht10⟩
            have HU10 := Lib.hid (HU9.out.turn' ht10)
            have HT10 := Lib.hid (HT9.out.trans' ht10)
            clear ht10 HU9 HT9
            go_wp2_with fail
            go_round
            case rel => exact ⟨i + 1, _, by omega, by go_num, HU10, HT10⟩
            case measure => simp [intOf]; omega
        · have HS1 : Hid (sameI K G [(u : Int), (v : Int)] = false) := Lib.hid (by rw [sameI_two hu1 hv1]; simp; exact fun e => hs e.symm)
          have HS2 : Hid (sameI K (mg G u v) [(v : Int), (u : Int)] = true) := Lib.hid (by rw [sameI_two hv1 hu1]; simpa using mg_join G u v)
          have HJ : Hid (joinI K G [(u : Int), (v : Int)] = mg G u v) := Lib.hid (joinI_two hu1 hv1)
          obtain ⟨r, hr⟩ : ∃ r, mg G u v u = r := ⟨_, rfl⟩
          obtain ⟨s, hsc⟩ : ∃ s, hc K (mg G u v) = s := ⟨_, rfl⟩
          have hsK : s ≤ 60 := by have := hc_le K (mg G u v); omega
          have hle := mg_le HHd hu1 hv1
          have hru : r ≤ u := by omega
          have hrv : r ≤ v := by omega
          have HC1 : Hid (hc K G = s + 1) := Lib.hid (by have := hc_mg HHd hu1 hv1 hs; omega)
          have HC2 := Lib.hid hsc
          have HM1 := Lib.hid hr
          have HM2 := Lib.hid ((mg_join G u v).symm.trans hr)
          clear hr hsc hs HHd hle
          go_wp2_with fail
          refine (same_any b m K G _ _ [(u : Int), (v : Int)] _ ((HU.out.turn' ((Turn.refl [] wr).drewN nq)).turn' ((Turn.refl [] _).alloc _)) (Ints.two _ _ _) (by simp)).mono ?_
          rw [HS1.out]
          rintro e w3 ⟨rfl, hu3, ht3⟩
          have HU3 := Lib.hid hu3
          have HT3 := Lib.hid (((HT.out.drewN nq).alloc _).trans ht3 (fun g hg => .inr (by simp at hg; omega)))
          clear hu3 ht3
          go_wp2_with fail
          refine (count_any b m K G _ HU3.out).mono ?_
          rw [HC1.out]
          rintro e w4 ⟨rfl, ht4⟩
          have HU4 := Lib.hid (HU3.out.turn' ht4)
          have HT4 := Lib.hid (HT3.out.trans' ht4)
          clear ht4 HU3 HT3
          go_wp2_with fail
          refine (join_any b m K G _ _ [(u : Int), (v : Int)] _ (HU4.out.turn' ((Turn.refl [] w4).alloc _)) (Ints.two w4 _ _) (by simp)).mono ?_
          rw [HJ.out, HC1.out, HC2.out, decide_eq_true (Nat.lt_succ_self _)]
          rintro e w5 ⟨rfl, hu5, ht5⟩
          have HU5 := Lib.hid hu5
          have HT5 := Lib.hid ((HT4.out.alloc _).trans ht5 (fun g hg => .inr (by simp at hg; omega)))
          clear hu5 ht5 HU4 HT4
          go_wp2_with fail
          refine (same_any b m K _ _ _ [(v : Int), (u : Int)] _ (HU5.out.turn' ((Turn.refl [] w5).alloc _)) (Ints.two w5 _ _) (by simp)).mono ?_
          rw [HS2.out]
          rintro e w6 ⟨rfl, hu6, ht6⟩
          have HU6 := Lib.hid hu6
          have HT6 := Lib.hid ((HT5.out.alloc _).trans ht6 (fun g hg => .inr (by simp at hg; omega)))
          clear hu6 ht6 HU5 HT5
          go_wp2_with fail
          refine (head_any b m K _ _ _ HU6.out).mono ?_
          rw [if_pos HI1.out, Int.toNat_natCast, HM1.out]
          rintro e w7 ⟨rfl, hu7, ht7⟩
          have HU7 := Lib.hid hu7
          have HT7 := Lib.hid (HT6.out.trans ht7 (fun g hg => .inr (by simp at hg; omega)))
          clear hu7 ht7 HU6 HT6
          go_wp2_with fail
          refine (head_any b m K _ _ _ HU7.out).mono ?_
          rw [if_pos HI2.out, Int.toNat_natCast, HM2.out]
          rintro e w8 ⟨rfl, hu8, ht8⟩
          have HU8 := Lib.hid hu8
          have HT8 := Lib.hid (HT7.out.trans ht8 (fun g hg => .inr (by simp at hg; omega)))
          clear hu8 ht8 HU7 HT7
          go_wp2_with fail
          refine (head_any b m K _ _ _ HU8.out).mono ?_
          rw [if_pos HI1.out, Int.toNat_natCast, HM1.out]
          rintro e w9 ⟨rfl, hu9, ht9⟩
          have HU9 := Lib.hid hu9
          have HT9 := Lib.hid (HT8.out.trans ht9 (fun g hg => .inr (by simp at hg; omega)))
          clear hu9 ht9 HU8 HT8
          have d1 : decide ((u : Int) < (r : Int)) = false := by simp; omega
          have d2 : decide ((v : Int) < (r : Int)) = false := by simp; omega
          have d3 : decide (u < r) = false := by simp; omega
          have d4 : decide (v < r) = false := by simp; omega
          have d5 : ¬ u < r := by omega
          have d6 : ¬ v < r := by omega
          go_wp2_with fail
          all_goals
            refine (count_any b m K _ _ HU9.out).mono ?_
            rw [HC2.out]
            rintro e w10 ⟨rfl, ht10⟩
            have HU10 := Lib.hid (HU9.out.turn' ht10)
            have HT10 := Lib.hid (HT9.out.trans' ht10)
            clear ht10 HU9 HT9
            go_wp2_with fail
            go_round
            case rel => exact ⟨i + 1, _, by omega, by go_num, HU10, HT10⟩
            case measure => simp [intOf]; omega
      · go_wp2_with fail
        go_ret
        exact ⟨rfl, HT.out⟩
end Go.Proofs.Ytjgabnphafkgoaa
