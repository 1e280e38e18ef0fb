/- slices.Equal of lines. -/
import Derived.Test.YtoekaehpcjhhaaaGreatDoorLns
set_option linter.unusedSimpArgs false
set_option linter.unusedVariables false
namespace Go.Proofs.YtoekaehpcjhhaaaGreatDoor
open Go.RowKit

set_option maxHeartbeats 4000000 in
set_option maxRecDepth 100000 in
theorem equal_any (A1 A2 : Option Addr) (c1 c2 : Nat) (L M : List Row) (w : World) (h1 : OwnN w (.slice A1 L.length c1) L) (h2 : OwnN w (.slice A2 M.length c2) M) (hL : L.length ≤ 5000000000000) :
    Calls Tryz.prog 16 #[.slice A1 L.length c1, .slice A2 M.length c2] w fun e w' => e = .returned (.bool (decide (L = M))) ∧ Turn [] w w' := by
  have H1 := Lib.hid h1
  have H2 := Lib.hid h2
  obtain ⟨n, hn⟩ : ∃ n, L.length = n := ⟨_, rfl⟩
  obtain ⟨m, hm⟩ : ∃ m, M.length = m := ⟨_, rfl⟩
  have HN := Lib.hid (And.intro hn hm)
  unfold OwnN at H1 H2
  rw [hn] at hL ⊢
  rw [hm]
  obtain ⟨V, hV⟩ : ∃ V, decide (L = M) = V := ⟨_, rfl⟩
  rw [hV]
  have HV := Lib.hid hV
  clear h1 h2 hn hm hV
  by_cases hnm : n = m
  · subst hnm
    go_enter Tryz.func16, Tryz.ntmps16
    go_wp2_with fail
    go_loopw [13] (fun i wr => ∃ k : Nat, k ≤ n ∧ i = .int .i64 (k : Int) ∧ Hid (L.take k = M.take k ∧ Turn [] w wr)) (fun i _ => n - (intOf i).toNat)
    case atStart => exact ⟨0, Nat.zero_le _, rfl, Lib.hid ⟨rfl, Turn.refl _ _⟩⟩
    case round =>
      obtain ⟨k, hk, rfl, HW⟩ := hrel
      by_cases hlt : k < n
      · obtain ⟨r, hr⟩ := at_lt (l := L) (k := k) (by rw [HN.out.1]; exact hlt)
        obtain ⟨q, hq⟩ := at_lt (l := M) (k := k) (by rw [HN.out.2]; exact hlt)
        obtain ⟨g1, rfl, hg1, a0, a1⟩ := row_at (Turn.owns HW.out.2 H1.out (by simp)) hr
        obtain ⟨g2, rfl, hg2, b0, b1⟩ := row_at (Turn.owns HW.out.2 H2.out (by simp)) hq
        have HRQ := Lib.hid (And.intro hr hq)
        obtain ⟨x, s⟩ := r
        obtain ⟨y, t⟩ := q
        simp only at a0 a1 b0 b1
        clear hr hq
        by_cases hxy : x = y
        · by_cases hst : s = t
          · subst hxy hst
            go_wp2_with fail
            go_quiet (fail)
            go_wp2_with fail
            go_roundw
            case rel => exact ⟨k + 1, by omega, by go_num, Lib.hid ⟨by rw [take_snoc HRQ.out.1, take_snoc HRQ.out.2, HW.out.1], HW.out.2.drewN _⟩⟩
            case measure => simp [intOf]; omega
          · subst hxy
            have HG : Hid (V = false) := Lib.hid (by
              rw [← HV.out, decide_eq_false_iff_not]
              intro e
              have h3 := HRQ.out
              rw [e] at h3
              have := h3.1.symm.trans h3.2
              simp at this
              exact hst this)
            have hbf := bytes_f hst
            go_wp2_with fail
            go_quiet (fail)
            go_wp2_with fail
            go_ret
            exact ⟨ret_bool HG.out.symm, HW.out.2.drewN _⟩
        · have hI : ¬ (x : Int) = (y : Int) := by omega
          have HG : Hid (V = false) := Lib.hid (by
            rw [← HV.out, decide_eq_false_iff_not]
            intro e
            have h3 := HRQ.out
            rw [e] at h3
            have := h3.1.symm.trans h3.2
            simp at this
            exact hxy this.1)
          go_wp2_with fail
          go_quiet (fail)
          go_wp2_with fail
          go_ret
          exact ⟨ret_bool HG.out.symm, HW.out.2.drewN _⟩
      · have hkn : k = n := by omega
        subst hkn
        have HG : Hid (V = true) := Lib.hid (by
          have := HW.out.1
          rw [List.take_of_length_le (by rw [HN.out.1]; exact Nat.le_refl _), List.take_of_length_le (by rw [HN.out.2]; exact Nat.le_refl _)] at this
          rw [← HV.out]
          simpa using this)
        go_wp2_with fail
        go_ret
        exact ⟨ret_bool HG.out.symm, HW.out.2⟩
  · have hI : ¬ (n : Int) = (m : Int) := by omega
    have HG : Hid (V = false) := Lib.hid (by
      rw [← HV.out, decide_eq_false_iff_not]
      intro e
      have h3 := HN.out
      rw [e] at h3
      omega)
    go_enter Tryz.func16, Tryz.ntmps16
    go_wp2_with fail
    go_ret
    exact ⟨ret_bool HG.out.symm, Turn.refl _ _⟩

end Go.Proofs.YtoekaehpcjhhaaaGreatDoor
