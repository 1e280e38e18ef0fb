/- QueueOrder: numbers come in the order in which they were put, each once, however many are taken between. -/
import Derived.Test.YtchccoolnelohaaLRound
set_option linter.unusedSimpArgs false
set_option linter.unusedVariables false
namespace Go.Proofs.Ytchccoolnelohaa
open Go.RowKit Go.Maps

/-- The slice at A reads as the list of bools. -/
def Bls (w : World) (A : Option Addr) (l : List Bool) : Prop :=
  ∀ k y, l[k]? = some y → ∃ b off, A = some ⟨b, off, none⟩ ∧ b < w.heap.size ∧ w.cell? ⟨b, off + k, none⟩ = some (.bool y)
theorem Bls.turn {w w' : World} {A : Option Addr} {l : List Bool} (h : Bls w A l) (t : Turn [] w w') : Bls w' A l := fun k y hy => by
  obtain ⟨b, off, e, hlt, hc⟩ := h k y hy
  exact ⟨b, off, e, Nat.lt_of_lt_of_le hlt t.size, (t.cell (p := ⟨b, off + k, none⟩) hlt (by simp)).trans hc⟩

/-- The queue's line holds the numbers from a to p - 1. -/
def Ord (w0 : Nat) (w : World) (b a p : Nat) : Prop := ∃ F, Qu w b F (seg idF a (p - a)) ∧ Foot w0 [] F

set_option maxRecDepth 100000 in
set_option maxHeartbeats 4000000 in
theorem order_law (n : Nat) (A : Option Addr) (c : Nat) (l : List Bool) (w : World) (hn : n ≤ 255) (hl : l.length ≤ 9223372036854775807) (hA : Bls w A l) :
    Calls Try.prog 4 #[.int .u8 (n : Int), .slice A l.length c] w fun e w' => e = .returned (.bool true) ∧ Turn [] w w' := by
  have HA := Lib.hid hA
  clear hA
  by_cases h300 : 300 < l.length
  · have d : decide ((300 : Int) < (l.length : Int)) = true := by simp; omega
    have d' : decide (300 < l.length) = true := by simp; omega
    go_enter Try.func4, Try.ntmps4
    go_wp2_with fail
    refine (awake_any _).mono ?_
    rintro e w1 ⟨rfl, ht1⟩
    have HT1 := Lib.hid ht1
    clear ht1
    go_wp2_with fail
    refine (awake_any _).mono ?_
    rintro e w2 ⟨rfl, ht2⟩
    have HT2 := Lib.hid (HT1.out.trans' ht2)
    clear ht2
    go_wp2_with fail
    go_ret
    exact ⟨rfl, HT2.out⟩
  · have d : decide ((300 : Int) < (l.length : Int)) = false := by simp; omega
    have d' : decide (300 < l.length) = false := by simp; omega
    obtain ⟨K, hK, hK5⟩ : ∃ K : Nat, n % 5 = K ∧ K ≤ 4 := ⟨n % 5, rfl, by omega⟩
    have hKi : (n : Int) % 5 = (K : Int) := by omega
    have hKi2 : (n : Int).tmod 5 = (K : Int) := by rw [← hKi, Int.tmod_eq_emod_of_nonneg (by omega)]
    have HK1 := Lib.hid hKi
    have HK2 := Lib.hid hKi2
    clear hK hKi hKi2
    go_enter Try.func4, Try.ntmps4
    go_wp2_with fail
    refine (awake_any _).mono ?_
    rintro e w1 ⟨rfl, ht1⟩
    have HT1 := Lib.hid ht1
    clear ht1
    go_wp2_with fail
    (with_reducible refine (new_any _).mono ?_)
    rintro e w2 ⟨b, rfl, hq2, hb2, ht2⟩
    have HQ2 : Hid (Ord w.heap.size w2 b 0 0) := Lib.hid ⟨[b], hq2, fun g hg => .inr (by have := HT1.out.size; simp at hg; omega)⟩
    have HT2 := Lib.hid (HT1.out.trans' ht2)
    clear hq2 ht2 HT1 hb2
    go_wp2_with fail
    go_loopw [6, 7, 8] (fun tp tn ti wr => ∃ p a i : Nat, i ≤ l.length ∧ a ≤ p ∧ p ≤ 5 * i ∧ tp = .int .i64 (p : Int) ∧ tn = .int .i64 (a : Int) ∧ ti = .int .i64 (i : Int) ∧ Hid (Ord w.heap.size wr b a p) ∧ Hid (Turn [] w wr)) (fun _ _ ti _ => l.length - (intOf ti).toNat)
    case atStart => exact ⟨0, 0, 0, Nat.zero_le _, Nat.le_refl _, Nat.zero_le _, rfl, rfl, rfl, HQ2, HT2⟩
    case round =>
      obtain ⟨p, a, i, hi, hap, hpi, rfl, rfl, rfl, HQ, HT⟩ := hrel
      by_cases hlt : i < l.length
      · obtain ⟨y, hy⟩ := at_lt hlt
        obtain ⟨g, off, rfl, hg, hcell⟩ := (HA.out.turn HT.out) i y hy
        clear hy
        cases y
        · -- put
          rename_i wq
          obtain ⟨W0, hW0⟩ : ∃ W0, W0 = wq := ⟨_, rfl⟩
          subst hW0
          have wn : IntKind.i64.wrap (n : Int) = (n : Int) := IntWalk.i64_in _ (by omega)
          have f1 := HK1.out
          have f2 := HK2.out
          go_wp2_with fail
          go_loopw [6, 9] (fun tp tk wr => ∃ k : Nat, k ≤ K + 1 ∧ tp = .int .i64 ((p + k : Nat) : Int) ∧ tk = .int .i64 (k : Int) ∧ Hid (Ord w.heap.size wr b a (p + k)) ∧ Hid (Turn [] w wr)) (fun _ tk _ => K + 1 - (intOf tk).toNat)
          case atStart => exact ⟨0, Nat.zero_le _, rfl, rfl, HQ, HT⟩
          case round =>
            obtain ⟨k, hk, rfl, rfl, HQk, HTk⟩ := hrel
            by_cases hlt2 : k ≤ K
            · have e1 : decide ((k : Int) ≤ (K : Int)) = true := by simp; omega
              have e2 : decide (k ≤ K) = true := by simp; omega
              obtain ⟨F, hq, hf⟩ := HQk.out
              obtain ⟨P, hP⟩ : ∃ P : Nat, p + k = P := ⟨_, rfl⟩
              obtain ⟨D, hD⟩ : ∃ D : Nat, P - a = D := ⟨_, rfl⟩
              rw [hP, hD] at hq
              have HPD : Hid ((P : Int) = ((a + D : Nat) : Int)) := Lib.hid (by omega)
              have HC : Hid (cnt (seg idF a D) [(P : Int)] = 1) := Lib.hid (by rw [HPD.out]; exact cnt_id (by omega))
              have HP : Hid (putL (seg idF a D) [(P : Int)] = seg idF a (D + 1)) := Lib.hid (by rw [HPD.out]; exact put_id (by omega))
              have HD1 : Hid (P + 1 - a = D + 1) := Lib.hid (by omega)
              have HPP := Lib.hid hP
              have hDs : D ≤ 2000 := by omega
              have hPs : P ≤ 2000 := by omega
              have HQ3 := Lib.hid hq
              have HF3 := Lib.hid hf
              rw [hP]
              clear hq hf hP hD
              go_wp2_with fail
              refine (put_one b F _ (P : Int) _ HQ3.out (by rw [seg_length]; omega)).mono ?_
              rw [HC.out, HP.out]
              rintro e w4 ⟨rfl, F4, hq4, hf4, ht4⟩
              have HQ4 : Hid (Ord w.heap.size w4 b a (p + (k + 1))) := Lib.hid ⟨F4, by rw [show p + (k + 1) - a = D + 1 by have := HPP.out; have := HD1.out; omega]; exact hq4, HF3.out.trans hf4 HTk.out.size⟩
              have HT4 := Lib.hid (HTk.out.trans ht4 HF3.out)
              clear hq4 hf4 ht4 HQ3 HC HP HPD
              go_wp2_with fail
              go_roundw
              case rel => exact ⟨k + 1, by omega, by have := HPP.out; go_num, by go_num, HQ4, HT4⟩
              case measure => simp [intOf]; omega
            · have hkK : k = K + 1 := by omega
              have e1 : decide ((k : Int) ≤ (K : Int)) = false := by simp; omega
              have e2 : decide (k ≤ K) = false := by simp; omega
              have hlo : K < k := by omega
              have HKK := Lib.hid hkK
              have hb5 : p + k ≤ 5 * (i + 1) := by omega
              clear hkK hlt2
              go_wp2_with fail
              go_roundw
              case rel => exact ⟨p + k, a, i + 1, by omega, by omega, by omega, rfl, rfl, by go_num, HQk, HTk⟩
              case measure => simp [intOf]; omega
        · -- take
          by_cases hlt2 : a < p
          · have e1 : decide ((a : Int) < (p : Int)) = true := by simp; omega
            have e2 : decide (a < p) = true := by simp; omega
            have e3 : ((a : Int) != (a : Int)) = false := by simp
            obtain ⟨F, hq, hf⟩ := HQ.out
            rw [show p - a = (p - (a + 1)) + 1 by omega, seg_cons] at hq
            have HQ3 := Lib.hid hq
            have HF3 := Lib.hid hf
            clear hq hf
            go_wp2_with fail
            refine (next_some b F (a : Int) _ _ HQ3.out (by rw [seg_length]; omega)).mono ?_
            rintro e w4 ⟨rfl, hq4, ht4⟩
            have HQ4 : Hid (Ord w.heap.size w4 b (a + 1) p) := Lib.hid ⟨F, hq4, HF3.out⟩
            have HT4 := Lib.hid (HT.out.trans ht4 HF3.out)
            clear hq4 ht4 HQ3 HF3
            go_wp2_with fail
            go_roundw
            case rel => exact ⟨p, a + 1, i + 1, by omega, by omega, by omega, rfl, by go_num, by go_num, HQ4, HT4⟩
            case measure => simp [intOf]; omega
          · have hae : a = p := by omega
            subst hae
            have e1 : decide ((a : Int) < (a : Int)) = false := by simp
            have e2 : decide (a < a) = false := by simp
            obtain ⟨F, hq, hf⟩ := HQ.out
            rw [Nat.sub_self, seg_zero] at hq
            have HQ3 := Lib.hid hq
            clear hq hf
            go_wp2_with fail
            refine (next_none b F _ HQ3.out).mono ?_
            rintro e w4 ⟨rfl, rfl⟩
            go_wp2_with fail
            go_roundw
            case rel => exact ⟨a, a, i + 1, by omega, by omega, by omega, rfl, rfl, by go_num, HQ, HT⟩
            case measure => simp [intOf]; omega
      · obtain ⟨F, hq, hf⟩ := HQ.out
        have HQ3 := Lib.hid hq
        obtain ⟨D, hD⟩ : ∃ D : Nat, p - a = D := ⟨_, rfl⟩
        have hD1 : (p : Int) - (a : Int) = (D : Int) := by omega
        have e3 : ((D : Int) == (D : Int)) = true := by simp
        have HD := Lib.hid hD
        clear hq hf hD
        go_wp2_with fail
        refine (len_any b F _ _ HQ3.out).mono ?_
        rw [seg_length, HD.out]
        rintro e w4 ⟨rfl, rfl⟩
        go_wp2_with fail
        go_ret
        exact ⟨rfl, HT.out⟩
end Go.Proofs.Ytchccoolnelohaa
