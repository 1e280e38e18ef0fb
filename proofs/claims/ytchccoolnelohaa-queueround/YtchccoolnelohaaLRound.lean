/- QueueRound: numbers that are put again as soon as they are taken go round and round. -/
import Derived.Test.YtchccoolnelohaaTh
set_option linter.unusedSimpArgs false
set_option linter.unusedVariables false
namespace Go.Proofs.Ytchccoolnelohaa
open Go.RowKit Go.Maps

def idF (j : Nat) : Int := (j : Int)
def modF (K : Nat) (j : Nat) : Int := ((j % K : Nat) : Int)
theorem ok_id {a n : Nat} (h : a + n < 1048576) : okQ (seg idF a n) ((a + n : Nat) : Int) = true := by
  refine okQ_of (by omega) (by omega) ?_
  intro hm
  obtain ⟨j, h1, h2, h3⟩ := mem_seg.1 hm
  unfold idF at h3
  omega
theorem put_id {a n : Nat} (h : a + n < 1048576) : putL (seg idF a n) [((a + n : Nat) : Int)] = seg idF a (n + 1) := by
  rw [putL_one_yes (ok_id h), seg_snoc]
  rfl
theorem cnt_id {a n : Nat} (h : a + n < 1048576) : cnt (seg idF a n) [((a + n : Nat) : Int)] = 1 := cnt_one_yes (ok_id h)
theorem seg_mod (K : Nat) : seg idF 0 K = seg (modF K) 0 K := by
  unfold seg
  refine List.map_congr_left ?_
  intro j hj
  have := (List.mem_range'_1.1 hj).2
  unfold idF modF
  rw [Nat.mod_eq_of_lt (by omega)]
theorem seg_turn (K i : Nat) : seg (modF (K + 1)) (i + 1) K ++ [modF (K + 1) i] = seg (modF (K + 1)) (i + 1) (K + 1) := by
  rw [seg_snoc]
  congr 2
  unfold modF
  rw [show i + 1 + K = i + (K + 1) by omega, Nat.add_mod_right]

set_option maxRecDepth 100000 in
set_option maxHeartbeats 2000000 in
theorem round_law (n s : Nat) (w : World) (hn : n ≤ 255) (hs : s ≤ 255) : Calls Try.prog 5 #[.int .u8 (n : Int), .int .u8 (s : Int)] w fun e w' => e = .returned (.bool true) ∧ Turn [] w w' := by
  obtain ⟨K, hK, hK60⟩ : ∃ K : Nat, n % 60 = K ∧ K < 60 := ⟨n % 60, rfl, Nat.mod_lt _ (by omega)⟩
  have hKi : (1 : Int) + (n : Int) % 60 = ((K + 1 : Nat) : Int) := by omega
  have hKi2 : (1 : Int) + (n : Int).tmod 60 = ((K + 1 : Nat) : Int) := by rw [← hKi, Int.tmod_eq_emod_of_nonneg (by omega)]
  clear hK
  obtain ⟨N, hN⟩ : ∃ N : Nat, N = K + 1 := ⟨_, rfl⟩
  rw [← hN] at hKi hKi2
  have HN := Lib.hid hN
  have hN1 : N ≤ 60 := by omega
  have hN0 : 0 < N := by omega
  clear hN
  go_enter Try.func5, Try.ntmps5
  go_wp2_with fail
  refine (awake_any _).mono ?_
  rintro e w1 ⟨rfl, ht1⟩
  have HT1 := Lib.hid ht1
  clear ht1
  go_wp2_with fail
  (with_reducible refine (new_any _).mono ?_)
  rintro e w2 ⟨b, rfl, hq2, hb2, ht2⟩
  have hbw : w.heap.size ≤ b := Nat.le_trans HT1.out.size hb2
  have HQ2 := Lib.hid hq2
  have HF2 : Hid (Foot w.heap.size [] [b]) := Lib.hid (fun g hg => .inr (by simp at hg; omega))
  have HT2 := Lib.hid (HT1.out.trans' ht2)
  clear hq2 ht2 HT1 hb2
  go_wp2_with fail
  have HKK := Lib.hid hKi
  have HKK2 := Lib.hid hKi2
  clear hKi hKi2
  go_loopw [7] (fun t wr => ∃ i : Nat, i ≤ N ∧ t = .int .i64 (i : Int) ∧ Hid (∃ F, Qu wr b F (seg idF 0 i) ∧ Foot w.heap.size [] F) ∧ Hid (Turn [] w wr)) (fun t _ => N - (intOf t).toNat)
  case atStart => exact ⟨0, Nat.zero_le _, rfl, Lib.hid ⟨[b], by rw [seg_zero]; exact HQ2.out, HF2.out⟩, HT2⟩
  case round =>
    obtain ⟨i, hi, rfl, HE, HT⟩ := hrel
    by_cases hlt : i < N
    · obtain ⟨F, hq, hf⟩ := HE.out
      have HQ := Lib.hid hq
      have HF := Lib.hid hf
      clear hq hf
      go_wp2_with fail
      refine (put_one b F (seg idF 0 i) (i : Int) _ HQ.out (by rw [seg_length]; omega)).mono ?_
      rintro e w3 ⟨rfl, F3, hq3, hf3, ht3⟩
      have HQ3 : Hid (Qu w3 b F3 (seg idF 0 (i + 1))) := Lib.hid (by
        have := put_id (a := 0) (n := i) (by omega)
        rw [Nat.zero_add] at this
        rw [← this]
        exact hq3)
      have HF3 := Lib.hid (HF.out.trans hf3 HT.out.size)
      have HT3 := Lib.hid (HT.out.trans ht3 HF.out)
      clear hq3 hf3 ht3
      go_wp2_with fail
      go_roundw
      case rel => exact ⟨i + 1, by omega, by go_num, Lib.hid ⟨F3, HQ3.out, HF3.out⟩, HT3⟩
      case measure => simp [intOf]; omega
    · have hiN : i = N := by omega
      subst hiN
      clear hlt hi
      rename_i wq
      obtain ⟨W0, hW0⟩ : ∃ W0, W0 = wq := ⟨_, rfl⟩
      subst hW0
      go_wp2_with fail
      go_loopw [8] (fun t wr => ∃ k : Nat, k ≤ s ∧ t = .int .i64 (k : Int) ∧ Hid (∃ F, Qu wr b F (seg (modF i) k i) ∧ Foot w.heap.size [] F) ∧ Hid (Turn [] w wr)) (fun t _ => s - (intOf t).toNat)
      case atStart => exact ⟨0, Nat.zero_le _, rfl, Lib.hid (by rw [← seg_mod]; exact HE.out), HT⟩
      case round =>
        obtain ⟨k, hk, rfl, HE2, HT2⟩ := hrel
        by_cases hlt : k < s
        · obtain ⟨F, hq, hf⟩ := HE2.out
          obtain ⟨u, hu⟩ : ∃ u : Nat, k % i = u := ⟨_, rfl⟩
          have hui : u < i := by rw [← hu]; exact Nat.mod_lt _ hN0
          obtain ⟨r, hr⟩ : ∃ r, seg (modF i) (k + 1) K = r := ⟨_, rfl⟩
          have HU : Hid (modF i k = (u : Int)) := Lib.hid (by unfold modF; rw [hu])
          have HS : Hid (seg (modF i) k i = (u : Int) :: r) := Lib.hid (by rw [← hr, ← HU.out, ← seg_cons, ← HN.out])
          have HR : Hid (r ++ [(u : Int)] = seg (modF i) (k + 1) i) := Lib.hid (by
            have := seg_turn K k
            rw [← HN.out, hr, HU.out] at this
            exact this)
          have HRl : Hid (r.length = K) := Lib.hid (by rw [← hr, seg_length])
          have hrl : r.length ≤ 60 := by have := HRl.out; omega
          rw [HS.out] at hq
          have HQ := Lib.hid hq
          have HF := Lib.hid hf
          have HO := Lib.hid hq.2
          have HN1 : Hid (inL r (u : Int) = false) := Lib.hid (inL_not.2 (List.nodup_cons.1 hq.2.1).1)
          have HOK : Hid (okQ r (u : Int) = true) := Lib.hid (okQ_of (by omega) (by omega) (List.nodup_cons.1 hq.2.1).1)
          have ex : (k : Int) % (i : Int) = (u : Int) := by rw [← hu]; rfl
          have ex' : (k : Int).tmod (i : Int) = (u : Int) := by rw [← hu]; rfl
          have wx : IntKind.i64.wrap (u : Int) = (u : Int) := IntWalk.i64_in _ (by omega)
          have kz : ((i : Int) == 0) = false := by simp; omega
          have kz' : ¬ (i : Int) = 0 := by omega
          have uu : ((u : Int) != (u : Int)) = false := by simp
          have ii : ((i : Int) != (i : Int)) = false := by simp
          clear hu hr hq hf
          go_wp2_with fail
          refine (next_some b F (u : Int) r _ HQ.out (by omega)).mono ?_
          rintro e w4 ⟨rfl, hq4, ht4⟩
          have HQ4 := Lib.hid hq4
          have HT4 := Lib.hid (HT2.out.trans ht4 HF.out)
          clear hq4 ht4
          go_wp2_with fail
          (with_reducible refine (has_any b F r (u : Int) _ HQ4.out (wf_small (by omega) (by omega))).mono ?_)
          rw [HN1.out]
          rintro e w5 ⟨rfl, ht5⟩
          have HQ5 := Lib.hid (HQ4.out.turn' ht5)
          have HT5 := Lib.hid (HT4.out.trans' ht5)
          clear ht5 HQ4 HT4
          go_wp2_with fail
          refine (put_two b F r (u : Int) (u : Int) _ HQ5.out (by omega)).mono ?_
          rw [cnt_two HOK.out, putL_two HOK.out, HR.out]
          rintro e w6 ⟨rfl, F6, hq6, hf6, ht6⟩
          have HQ6 := Lib.hid hq6
          have HF6 := Lib.hid (HF.out.trans hf6 HT5.out.size)
          have HT6 := Lib.hid (HT5.out.trans ht6 HF.out)
          clear hq6 hf6 ht6 HQ5 HT5
          go_wp2_with fail
          refine (len_any b F6 _ _ HQ6.out).mono ?_
          rw [seg_length]
          rintro e w7 ⟨rfl, rfl⟩
          go_wp2_with fail
          go_roundw
          case rel => exact ⟨k + 1, by omega, by go_num, Lib.hid ⟨F6, HQ6.out, HF6.out⟩, HT6⟩
          case measure => simp [intOf]; omega
        · go_wp2_with fail
          go_ret
          exact ⟨rfl, HT2.out⟩
end Go.Proofs.Ytchccoolnelohaa
