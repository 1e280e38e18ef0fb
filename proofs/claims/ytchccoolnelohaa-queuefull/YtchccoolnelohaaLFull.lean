/- QueueFull: all numbers of a row stand in it at once, each once, and come in order. -/
import Derived.Test.YtchccoolnelohaaTh
set_option linter.unusedSimpArgs false
set_option linter.unusedVariables false
namespace Go.Proofs.Ytchccoolnelohaa
open Go.RowKit Go.Maps

def f7 (j : Nat) : Int := ((j * 7 : Nat) : Int)
theorem ok_7 {n : Nat} (h : n ≤ 1000) : okQ (seg f7 0 n) ((n * 7 : Nat) : Int) = true := by
  refine okQ_of (by omega) (by omega) ?_
  intro hm
  obtain ⟨j, h1, h2, h3⟩ := mem_seg.1 hm
  unfold f7 at h3
  omega
theorem put_7 {n : Nat} (h : n ≤ 1000) : putL (seg f7 0 n) [((n * 7 : Nat) : Int), ((n * 7 : Nat) : Int)] = seg f7 0 (n + 1) := by
  rw [putL_two (ok_7 h), seg_snoc, Nat.zero_add]
  rfl
theorem cnt_7 {n : Nat} (h : n ≤ 1000) : cnt (seg f7 0 n) [((n * 7 : Nat) : Int), ((n * 7 : Nat) : Int)] = 1 := cnt_two (ok_7 h)

/-- What stands behind the row at the round i: the number put again. -/
def tl (q i : Nat) : List Int := if i ≤ q + 1 then [] else [f7 q]
def ln7 (m q i : Nat) : List Int := seg f7 i (m - i) ++ tl q i
theorem ln7_cons {m q i : Nat} (h : i < m) : ln7 m q i = f7 i :: (seg f7 (i + 1) (m - (i + 1)) ++ tl q i) := by
  unfold ln7
  rw [show m - i = (m - (i + 1)) + 1 by omega, seg_cons, List.cons_append]
theorem ln7_in {m q i : Nat} (h : i < m) (hq : q < m) (hn : i ≠ q + 1) : okQ (ln7 m q i) ((q * 7 : Nat) : Int) = false ∧ seg f7 (i + 1) (m - (i + 1)) ++ tl q i = ln7 m q (i + 1) := by
  unfold ln7 tl
  by_cases h1 : i ≤ q + 1
  · rw [if_pos h1, if_pos (show i + 1 ≤ q + 1 by omega)]
    refine ⟨okQ_in ?_, rfl⟩
    rw [List.append_nil]
    exact mem_seg.2 ⟨q, by omega, by omega, rfl⟩
  · rw [if_neg h1, if_neg (show ¬ i + 1 ≤ q + 1 by omega)]
    refine ⟨okQ_in ?_, rfl⟩
    exact List.mem_append_right _ (by simp [f7])
theorem ln7_new {m q i : Nat} (h : i < m) (hm : m ≤ 1000) (hn : i = q + 1) : okQ (ln7 m q i) ((q * 7 : Nat) : Int) = true ∧ ln7 m q i ++ [((q * 7 : Nat) : Int)] = f7 i :: ln7 m q (i + 1) := by
  have e : ln7 m q i = seg f7 i (m - i) := by
    unfold ln7 tl
    rw [if_pos (by omega), List.append_nil]
  refine ⟨?_, ?_⟩
  · rw [e]
    refine okQ_of (by omega) (by omega) ?_
    intro hm
    obtain ⟨j, h1, h2, h3⟩ := mem_seg.1 hm
    unfold f7 at h3
    omega
  · rw [e]
    unfold ln7 tl
    rw [if_neg (by omega), show m - i = (m - (i + 1)) + 1 by omega, seg_cons, List.cons_append]
    rfl
theorem ln7_length (m q i : Nat) : (ln7 m q i).length ≤ m + 1 := by
  unfold ln7 tl
  rw [List.length_append, seg_length]
  split <;> simp <;> omega

set_option maxRecDepth 100000 in
set_option maxHeartbeats 2000000 in
theorem full_law (n k : Nat) (w : World) (hn : n ≤ 255) (hk : k ≤ 255) : Calls Try.prog 6 #[.int .u8 (n : Int), .int .u8 (k : Int)] w fun e w' => e = .returned (.bool true) ∧ Turn [] w w' := by
  obtain ⟨N, hN⟩ : ∃ N : Nat, N = n + 1 := ⟨_, rfl⟩
  have hKi : (1 : Int) + (n : Int) = (N : Int) := by omega
  have hN1 : N ≤ 256 := by omega
  have hN0 : 0 < N := by omega
  clear hN
  go_enter Try.func6, Try.ntmps6
  go_wp2_with fail
  refine (awake_any _).mono ?_
  rintro e w1 ⟨rfl, ht1⟩
  have HT1 := Lib.hid ht1
  clear ht1
  go_wp2_with fail
  (with_reducible refine (new_any _).mono ?_)
  rintro e w2 ⟨b, rfl, hq2, hb2, ht2⟩
  have hbw : w.heap.size ≤ b := Nat.le_trans HT1.out.size hb2
  have HQ2 := Lib.hid hq2
  have HF2 : Hid (Foot w.heap.size [] [b]) := Lib.hid (fun g hg => .inr (by simp at hg; omega))
  have HT2 := Lib.hid (HT1.out.trans' ht2)
  clear hq2 ht2 HT1 hb2
  go_wp2_with fail
  have HKK := Lib.hid hKi
  clear hKi
  go_loopw [7] (fun t wr => ∃ i : Nat, i ≤ N ∧ t = .int .i64 (i : Int) ∧ Hid (∃ F, Qu wr b F (seg f7 0 i) ∧ Foot w.heap.size [] F) ∧ Hid (Turn [] w wr)) (fun t _ => N - (intOf t).toNat)
  case atStart => exact ⟨0, Nat.zero_le _, rfl, Lib.hid ⟨[b], by rw [seg_zero]; exact HQ2.out, HF2.out⟩, HT2⟩
  case round =>
    obtain ⟨i, hi, rfl, HE, HT⟩ := hrel
    by_cases hlt : i < N
    · obtain ⟨F, hq, hf⟩ := HE.out
      have HQ := Lib.hid hq
      have HF := Lib.hid hf
      obtain ⟨x, hx⟩ : ∃ x : Nat, i * 7 = x := ⟨_, rfl⟩
      have hx1 : (i : Int) * 7 = (x : Int) := by omega
      have wx : IntKind.i64.wrap (x : Int) = (x : Int) := IntWalk.i64_in _ (by omega)
      have HC : Hid (cnt (seg f7 0 i) [(x : Int), (x : Int)] = 1) := Lib.hid (by rw [← hx]; exact cnt_7 (by omega))
      have HP : Hid (putL (seg f7 0 i) [(x : Int), (x : Int)] = seg f7 0 (i + 1)) := Lib.hid (by rw [← hx]; exact put_7 (by omega))
      obtain ⟨J, hJ⟩ : ∃ J : Nat, J = i + 1 := ⟨_, rfl⟩
      have hJ1 : (i : Int) + 1 = (J : Int) := by omega
      have jj : ((J : Int) != (J : Int)) = false := by simp
      have HJ := Lib.hid hJ
      clear hq hf hx hJ
      go_wp2_with fail
      refine (put_two b F (seg f7 0 i) (x : Int) (x : Int) _ HQ.out (by rw [seg_length]; omega)).mono ?_
      rw [HC.out, HP.out]
      rintro e w3 ⟨rfl, F3, hq3, hf3, ht3⟩
      have HQ3 := Lib.hid hq3
      have HF3 := Lib.hid (HF.out.trans hf3 HT.out.size)
      have HT3 := Lib.hid (HT.out.trans ht3 HF.out)
      clear hq3 hf3 ht3
      go_wp2_with fail
      refine (len_any b F3 _ _ HQ3.out).mono ?_
      rw [seg_length, ← HJ.out]
      rintro e w4 ⟨rfl, rfl⟩
      go_wp2_with fail
      go_roundw
      case rel => exact ⟨i + 1, by omega, by go_num, Lib.hid ⟨F3, HQ3.out, HF3.out⟩, HT3⟩
      case measure => simp [intOf]; omega
    · have hiN : i = N := by omega
      subst hiN
      clear hlt hi
      rename_i wq
      obtain ⟨W0, hW0⟩ : ∃ W0, W0 = wq := ⟨_, rfl⟩
      subst hW0
      obtain ⟨q, hq⟩ : ∃ q : Nat, k % i = q := ⟨_, rfl⟩
      have hqi : q < i := by rw [← hq]; exact Nat.mod_lt _ hN0
      have ex : (k : Int) % (i : Int) = (q : Int) := by rw [← hq]; rfl
      have ex' : (k : Int).tmod (i : Int) = (q : Int) := by rw [← hq]; rfl
      have HX := Lib.hid ex
      have HX' := Lib.hid ex'
      clear hq ex ex'
      go_wp2_with fail
      go_loopw [8] (fun t wr => ∃ j : Nat, j ≤ i ∧ t = .int .i64 (j : Int) ∧ Hid (∃ F, Qu wr b F (ln7 i q j) ∧ Foot w.heap.size [] F) ∧ Hid (Turn [] w wr)) (fun t _ => i - (intOf t).toNat)
      case atStart => exact ⟨0, Nat.zero_le _, rfl, Lib.hid (by
        have : ln7 i q 0 = seg f7 0 i := by
          unfold ln7 tl
          rw [if_pos (by omega), List.append_nil, Nat.sub_zero]
        rw [this]
        exact HE.out), HT⟩
      case round =>
        obtain ⟨j, hj, rfl, HE2, HT2⟩ := hrel
        by_cases hlt : j < i
        · obtain ⟨F, hq, hf⟩ := HE2.out
          obtain ⟨x, hx⟩ : ∃ x : Nat, j * 7 = x := ⟨_, rfl⟩
          have hx1 : (j : Int) * 7 = (x : Int) := by omega
          have wx : IntKind.i64.wrap (x : Int) = (x : Int) := IntWalk.i64_in _ (by omega)
          obtain ⟨y, hy⟩ : ∃ y : Nat, q * 7 = y := ⟨_, rfl⟩
          have hy1 : (q : Int) * 7 = (y : Int) := by omega
          have wy : IntKind.i64.wrap (y : Int) = (y : Int) := IntWalk.i64_in _ (by omega)
          have wq : IntKind.i64.wrap (q : Int) = (q : Int) := IntWalk.i64_in _ (by omega)
          have kz : ((i : Int) == 0) = false := by simp; omega
          have kz' : ¬ (i : Int) = 0 := by omega
          have xx : ((x : Int) != (x : Int)) = false := by simp
          have hxl : x ≤ 2000 := by omega
          have ex := HX.out
          have ex' := HX'.out
          have HLn : Hid ((ln7 i q j).length ≤ 1000) := Lib.hid (by have := ln7_length i q j; omega)
          have HI : Hid (inL (ln7 i q j) (x : Int) = true) := Lib.hid (inL_mem.2 (by rw [ln7_cons hlt, ← hx]; simp [f7]))
          have HQ := Lib.hid hq
          have HF := Lib.hid hf
          clear hq hf
          by_cases hn : j = q + 1
          · obtain ⟨h1, h2⟩ := ln7_new hlt (by omega) hn
            rw [hy] at h1 h2
            have HC : Hid (cnt (ln7 i q j) [(y : Int)] = 1) := Lib.hid (cnt_one_yes h1)
            have HP : Hid (putL (ln7 i q j) [(y : Int)] = (x : Int) :: ln7 i q (j + 1)) := Lib.hid (by rw [putL_one_yes h1, h2, ← hx]; rfl)
            have d1 : decide ((j : Int) ≤ (q : Int)) = false := by simp; omega
            have d2 : decide (j ≤ q) = false := by simp; omega
            have d3 : q < j := by omega
            have hl2 : (ln7 i q (j + 1)).length ≤ 1000 := by have := ln7_length i q (j + 1); omega
            clear h1 h2 hx hy hn
            go_wp2_with fail
            (with_reducible refine (has_any b F _ (x : Int) _ HQ.out (wf_small (by omega) (by omega))).mono ?_)
            rw [HI.out]
            rintro e w3 ⟨rfl, ht3⟩
            have HQ3 := Lib.hid (HQ.out.turn' ht3)
            have HT3 := Lib.hid (HT2.out.trans' ht3)
            clear ht3
            go_wp2_with fail
            refine (put_one b F _ (y : Int) _ HQ3.out (by have := HLn.out; omega)).mono ?_
            rw [HC.out, HP.out, show ((1 : Nat) : Int) = 1 from rfl]
            rintro e w4 ⟨rfl, F4, hq4, hf4, ht4⟩
            have HQ4 := Lib.hid hq4
            have HF4 := Lib.hid (HF.out.trans hf4 HT3.out.size)
            have HT4 := Lib.hid (HT3.out.trans ht4 HF.out)
            clear hq4 hf4 ht4 HQ3 HT3 HI HC HP HLn
            go_wp2_with fail
            refine (next_some b F4 (x : Int) _ _ HQ4.out (by omega)).mono ?_
            rintro e w5 ⟨rfl, hq5, ht5⟩
            have HQ5 := Lib.hid hq5
            have HT5 := Lib.hid (HT4.out.trans ht5 HF4.out)
            clear hq5 ht5 HQ4 HT4
            go_wp2_with fail
            go_roundw
            case rel => exact ⟨j + 1, by omega, by go_num, Lib.hid ⟨F4, HQ5.out, HF4.out⟩, HT5⟩
            case measure => simp [intOf]; omega
          · obtain ⟨h1, h2⟩ := ln7_in hlt hqi hn
            rw [hy] at h1
            have HC : Hid (cnt (ln7 i q j) [(y : Int)] = 0) := Lib.hid (cnt_one_no h1)
            have HP : Hid (putL (ln7 i q j) [(y : Int)] = (x : Int) :: ln7 i q (j + 1)) := Lib.hid (by rw [putL_one_no h1, ← h2, ← hx, ln7_cons hlt]; rfl)
            have hl2 : (ln7 i q (j + 1)).length ≤ 1000 := by have := ln7_length i q (j + 1); omega
            clear h1 h2 hx hy hn
            go_wp2_with fail
            (with_reducible refine (has_any b F _ (x : Int) _ HQ.out (wf_small (by omega) (by omega))).mono ?_)
            rw [HI.out]
            rintro e w3 ⟨rfl, ht3⟩
            have HQ3 := Lib.hid (HQ.out.turn' ht3)
            have HT3 := Lib.hid (HT2.out.trans' ht3)
            clear ht3
            go_wp2_with fail
            refine (put_one b F _ (y : Int) _ HQ3.out (by have := HLn.out; omega)).mono ?_
            rw [HC.out, HP.out]
            rintro e w4 ⟨rfl, F4, hq4, hf4, ht4⟩
            have HQ4 := Lib.hid hq4
            have HF4 := Lib.hid (HF.out.trans hf4 HT3.out.size)
            have HT4 := Lib.hid (HT3.out.trans ht4 HF.out)
            clear hq4 hf4 ht4 HQ3 HT3 HI HC HP HLn
            go_wp2_with fail
            refine (next_some b F4 (x : Int) _ _ HQ4.out (by omega)).mono ?_
            rintro e w5 ⟨rfl, hq5, ht5⟩
            have HQ5 := Lib.hid hq5
            have HT5 := Lib.hid (HT4.out.trans ht5 HF4.out)
            clear hq5 ht5 HQ4 HT4
            go_wp2_with fail
            go_roundw
            case rel => exact ⟨j + 1, by omega, by go_num, Lib.hid ⟨F4, HQ5.out, HF4.out⟩, HT5⟩
            case measure => simp [intOf]; omega
        · go_wp2_with fail
          go_ret
          exact ⟨rfl, HT2.out⟩
end Go.Proofs.Ytchccoolnelohaa
