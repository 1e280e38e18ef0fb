/- Names: the program's Name, the reference's. -/
import Derived.Test.YthdoihemjndmlaaDoorKw
set_option linter.unusedSimpArgs false
set_option linter.unusedVariables false
namespace Go.Proofs.YthdoihemjndmlaaDoor
open Go.RowKit

theorem byte_all {p : UInt8 → Prop} (h : ∀ n : Fin 256, p (UInt8.ofNat n.val)) (c : UInt8) : p c := by
  have hc : c.toNat < 256 := c.toNat_lt
  have := h ⟨c.toNat, hc⟩
  simpa using this
theorem isL_kN (c : UInt8) : isL c = decide (kN c.toNat = 0) := byte_all (p := fun c => isL c = decide (kN c.toNat = 0)) (by decide +kernel) c
theorem isW_kN (c : UInt8) : isW c = decide (kN c.toNat ≤ 1) := byte_all (p := fun c => isW c = decide (kN c.toNat ≤ 1)) (by decide +kernel) c
theorem isD_kN (c : UInt8) : isD c = decide (kN c.toNat = 1) := byte_all (p := fun c => isD c = decide (kN c.toNat = 1)) (by decide +kernel) c
theorem isB_kN (c : UInt8) : isB c = decide (kN c.toNat = 3) := byte_all (p := fun c => isB c = decide (kN c.toNat = 3)) (by decide +kernel) c
theorem isH_kN (c : UInt8) : isH c = decide (kN c.toNat = 4) := byte_all (p := fun c => isH c = decide (kN c.toNat = 4)) (by decide +kernel) c
theorem kN_le (c : UInt8) : kN c.toNat ≤ 6 := byte_all (p := fun c => kN c.toNat ≤ 6) (by decide +kernel) c

def nameB (T : List UInt8) : Bool := !T.isEmpty && decide (T.length ≤ 32) && decide (wdN T = T.length) && !kwL.contains T

set_option maxHeartbeats 1600000 in
theorem name_any (s : ByteArray) (w : World) (h : Kw w) (hs : s.size ≤ 1000000) :
    Calls Tryd.prog 14 #[.string s] w fun e w' => e = .returned (.bool (nameB s.data.toList)) ∧ Turn [] w w' := by
  have HK := Lib.hid h
  clear h
  have hl : s.data.toList.length = s.size := (Lib.size_eq s).symm
  by_cases h0 : s = ⟨#[]⟩
  · subst h0
    go_enter Tryd.func14, Tryd.ntmps14
    go_wp2_with fail
    go_ret
    exact ⟨rfl, Turn.refl _ _⟩
  · have e0 := bytes_ne h0
    have hne : s.data.toList.isEmpty = false := by rw [← ByteArray.toList_eq]; exact e0
    have HNE := Lib.hid hne
    have HL := Lib.hid hl
    clear h0 hne hl
    by_cases h32 : s.size ≤ 32
    · have d1 : decide ((s.size : Int) ≤ 32) = true := by simp; omega
      have d2 : (s.size : Int) ≤ 32 := by omega
      go_enter Tryd.func14, Tryd.ntmps14
      go_wp2_with fail
      refine (mkWord_any w).mono ?_
      rintro e w1 ⟨v, G, rfl, hm, t1, _⟩
      have HT1 := Lib.hid t1
      obtain ⟨_, k, caps, rfl, hen, hk⟩ := hm
      have HC := Lib.hid (hk w1 (fun _ _ => rfl) s hs)
      clear hk t1
      go_wp2_with fail
      refine HC.out.mono ?_
      rintro e w2 ⟨rfl, m, hm2⟩
      have HT2 : Hid (Turn [] w w2) := Lib.hid (by rw [hm2]; exact (HT1.out).drewN m)
      clear hm2
      by_cases hw : wdN s.data.toList = s.size
      · rw [hw]
        have HW := Lib.hid hw
        clear hw
        go_wp2_with fail
        refine (keyword_any s w2 (HK.out.turn HT2.out (by simp))).mono ?_
        rintro e w3 ⟨rfl, rfl⟩
        go_wp2_with fail
        go_ret
        refine ⟨ret_bool ?_, HT2.out⟩
        unfold nameB
        rw [HNE.out, HL.out, HW.out]
        simp [h32]
      · have d3 : decide ((wdN s.data.toList : Int) = (s.size : Int)) = false := by simp; omega
        have d4 : ((wdN s.data.toList : Int) == (s.size : Int)) = false := by simp; omega
        have d5 : ¬ (wdN s.data.toList : Int) = (s.size : Int) := by omega
        have d6 : decide (wdN s.data.toList = s.size) = false := by simpa using hw
        have HW := Lib.hid hw
        clear hw
        go_wp2_with fail
        go_ret
        refine ⟨ret_bool ?_, HT2.out⟩
        unfold nameB
        rw [HNE.out, HL.out]
        simp [HW.out]
    · have d1 : decide ((s.size : Int) ≤ 32) = false := by simp; omega
      have d2 : ¬ (s.size : Int) ≤ 32 := by omega
      go_enter Tryd.func14, Tryd.ntmps14
      go_wp2_with fail
      go_ret
      refine ⟨ret_bool ?_, Turn.refl _ _⟩
      unfold nameB
      rw [HNE.out, HL.out]
      simp [h32]

theorem tw_full (q : UInt8 → Bool) : ∀ r : List UInt8, (r.takeWhile q).length = r.length ↔ ∀ y ∈ r, q y = true
  | [] => by simp
  | y :: r => by
    have ih := tw_full q r
    have hle := (List.takeWhile_prefix q (l := r)).length_le
    cases hy : q y with
    | true =>
      simp only [List.takeWhile_cons, hy, if_true, List.length_cons, List.mem_cons, forall_eq_or_imp, true_and]
      rw [← ih]
      omega
    | false => simp [List.takeWhile_cons, hy]
theorem wdN_full (c : UInt8) (r : List UInt8) : (wdN (c :: r) = (c :: r).length) ↔ isL c = true ∧ ∀ y ∈ r, isW y = true := by
  simp only [wdN, runN, List.length_cons]
  rw [← tw_full isW r]
  constructor
  · intro h
    split at h
    · rename_i hc
      exact ⟨hc, by omega⟩
    · omega
  · rintro ⟨hc, h⟩
    rw [if_pos hc, h]
    omega

set_option maxHeartbeats 3200000 in
theorem refName_any (s : ByteArray) (w : World) (hs : s.size ≤ 1000000) :
    Calls Tryd.prog 15 #[.string s] w fun e w' => e = .returned (.bool (nameB s.data.toList)) ∧ Turn [] w w' := by
  have hl : s.data.toList.length = s.size := (Lib.size_eq s).symm
  by_cases h0 : s = ⟨#[]⟩
  · subst h0
    go_enter Tryd.func15, Tryd.ntmps15
    go_wp2_with fail
    go_ret
    exact ⟨rfl, Turn.refl _ _⟩
  · have e0 := bytes_ne h0
    have hpos : 0 < s.size := by
      rcases Nat.eq_zero_or_pos s.size with h | h
      · exact absurd (ByteArray.ext (Array.eq_empty_of_size_eq_zero h)) h0
      · exact h
    have hi0 : (0 : Int) < (s.size : Int) := by omega
    have ET : s.data.toList = s[0] :: s.data.toList.drop 1 := by
      have := data_get hpos
      cases hd : s.data.toList with
      | nil => rw [hd] at this; simp at this
      | cons a r => rw [hd] at this; simp at this; simp [this]
    have hnb : nameB s.data.toList = (decide (s.size ≤ 32) && (decide (kN s[0].toNat = 0) && decide (∀ y ∈ s.data.toList.drop 1, kN y.toNat ≤ 1)) && !kwL.contains s.data.toList) := by
      unfold nameB
      have e1 : s.data.toList.isEmpty = false := by rw [← ByteArray.toList_eq]; exact e0
      have e2 : decide (wdN s.data.toList = s.data.toList.length) = (decide (kN s[0].toNat = 0) && decide (∀ y ∈ s.data.toList.drop 1, kN y.toNat ≤ 1)) := by
        have := wdN_full s[0] (s.data.toList.drop 1)
        rw [← ET] at this
        simp only [this, isL_kN, isW_kN, decide_eq_true_eq]
        by_cases ha : kN s[0].toNat = 0 <;> by_cases hb : ∀ y ∈ s.data.toList.drop 1, kN y.toNat ≤ 1 <;> simp [ha, hb]
      rw [e1, e2, hl]
      simp
    have HNB := Lib.hid hnb
    have HL := Lib.hid hl
    clear h0 hl ET hnb
    by_cases h32 : 32 < s.size
    · have d1 : decide ((32 : Int) < (s.size : Int)) = true := by simp; omega
      have d2 : (32 : Int) < (s.size : Int) := by omega
      go_enter Tryd.func15, Tryd.ntmps15
      go_wp2_with fail
      go_ret
      refine ⟨ret_bool ?_, Turn.refl _ _⟩
      rw [HNB.out]
      simp; omega
    · have d1 : decide ((32 : Int) < (s.size : Int)) = false := by simp; omega
      have d2 : ¬ (32 : Int) < (s.size : Int) := by omega
      have d32 : decide (s.size ≤ 32) = true := by simp; omega
      obtain ⟨c0, hc0⟩ : ∃ c0, s[0].toNat = c0 := ⟨_, rfl⟩
      have hc0l : c0 < 256 := by rw [← hc0]; exact UInt8.toNat_lt _
      rw [hc0] at HNB
      by_cases hk : kN c0 = 0
      · go_enter Tryd.func15, Tryd.ntmps15
        go_wp2_with fail
        refine (kind_any c0 hc0l w).mono ?_
        rintro e w1 ⟨rfl, rfl⟩
        rw [hk]
        go_wp2_with fail
        refine (refKeyword_any s w1).mono ?_
        rintro e w2 ⟨rfl, t2⟩
        have HT2 := Lib.hid t2
        clear t2
        cases hkw : kwL.contains s.data.toList with
        | true =>
          go_wp2_with fail
          go_ret
          refine ⟨ret_bool ?_, HT2.out⟩
          rw [HNB.out, hkw]
          simp
        | false =>
          have HKW := Lib.hid hkw
          have HK0 := Lib.hid hk
          have HC0 := Lib.hid hc0
          clear hkw hk hc0
          go_wp2_with fail
          go_loopw [3] (fun ti wr => ∃ i : Nat, i ≤ s.size ∧ ti = .int .i64 (i : Int) ∧ Hid (∀ j y, j < i → s.data.toList[j]? = some y → kN y.toNat ≤ 1) ∧ w2 = wr) (fun ti _ => s.size - (intOf ti).toNat)
          case atStart => exact ⟨0, by omega, rfl, Lib.hid (fun j y hj => by omega), rfl⟩
          case round =>
            obtain ⟨i, hi, rfl, HA, rfl⟩ := hrel
            by_cases hlt : i < s.size
            · have f1 : decide ((i : Int) < (s.size : Int)) = true := by simp; omega
              have f2 : (i : Int) < (s.size : Int) := by omega
              have HDG := Lib.hid (data_get hlt)
              obtain ⟨ci, hci⟩ : ∃ ci, s[i].toNat = ci := ⟨_, rfl⟩
              have hcil : ci < 256 := by rw [← hci]; exact UInt8.toNat_lt _
              have HCI := Lib.hid hci
              clear hci
              go_wp2_with fail
              rw [HCI.out]
              refine (kind_any ci hcil w2).mono ?_
              rintro e w3 ⟨rfl, rfl⟩
              by_cases hki : 1 < kN ci
              · have g1 : decide ((1 : Int) < (kN ci : Int)) = true := by simp; omega
                have g2 : (1 : Int) < (kN ci : Int) := by omega
                go_wp2_with fail
                go_ret
                refine ⟨ret_bool ?_, HT2.out⟩
                rw [HNB.out]
                have : decide (∀ y ∈ s.data.toList.drop 1, kN y.toNat ≤ 1) = false := by
                  rw [decide_eq_false_iff_not]
                  intro hall
                  rcases Nat.eq_zero_or_pos i with hz | hz
                  · subst hz
                    have := HCI.out
                    rw [HC0.out] at this
                    rw [← this, HK0.out] at hki
                    omega
                  · have hm : s[i] ∈ s.data.toList.drop 1 := by
                      refine List.mem_of_getElem? (i := i - 1) ?_
                      rw [List.getElem?_drop, show 1 + (i - 1) = i by omega]
                      exact HDG.out
                    have := hall _ hm
                    rw [HCI.out] at this
                    omega
                rw [this]
                simp
              · have g1 : decide ((1 : Int) < (kN ci : Int)) = false := by simp; omega
                have g2 : ¬ (1 : Int) < (kN ci : Int) := by omega
                go_wp2_with fail
                go_roundw
                case rel =>
                  refine ⟨i + 1, by omega, by go_num, Lib.hid (fun j y hj hy => ?_), by first | rfl | trivial⟩
                  by_cases hji : j = i
                  · subst hji
                    have := HDG.out
                    rw [hy] at this
                    injection this with this
                    rw [this, HCI.out]
                    omega
                  · exact HA.out j y (by omega) hy
                case measure => simp [intOf]; omega
            · obtain rfl : i = s.size := by omega
              go_wp2_with fail
              go_ret
              refine ⟨ret_bool ?_, HT2.out⟩
              rw [HNB.out, HKW.out, HK0.out, d32]
              have : decide (∀ y ∈ s.data.toList.drop 1, kN y.toNat ≤ 1) = true := by
                rw [decide_eq_true_iff]
                intro y hy
                obtain ⟨j, hj⟩ := List.getElem?_of_mem hy
                rw [List.getElem?_drop] at hj
                exact HA.out (1 + j) y (by have := (List.getElem?_eq_some_iff.1 hj).1; have := HL.out; omega) hj
              rw [this]
              rfl
      · have d3 : decide ((kN c0 : Int) = 0) = false := by simp; omega
        have d4 : ((kN c0 : Int) == 0) = false := by simp; omega
        have d5 : ¬ (kN c0 : Int) = 0 := by omega
        go_enter Tryd.func15, Tryd.ntmps15
        go_wp2_with fail
        refine (kind_any c0 hc0l w).mono ?_
        rintro e w1 ⟨rfl, rfl⟩
        go_wp2_with fail
        go_ret
        refine ⟨ret_bool ?_, Turn.refl _ _⟩
        rw [HNB.out]
        simp [hk]
end Go.Proofs.YthdoihemjndmlaaDoor
