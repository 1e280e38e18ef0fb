/- slices.Equal of lines; Stmts. -/
import Derived.Test.YtoekaehpcjhhaaaDoorLns
set_option linter.unusedSimpArgs false
set_option linter.unusedVariables false
namespace Go.Proofs.YtoekaehpcjhhaaaDoor
open Go.RowKit

set_option maxHeartbeats 4000000 in
set_option maxRecDepth 100000 in
theorem equal_any (A1 A2 : Option Addr) (c1 c2 : Nat) (L M : List Row) (w : World) (h1 : OwnN w (.slice A1 L.length c1) L) (h2 : OwnN w (.slice A2 M.length c2) M) (hL : L.length ≤ 5000000000000) :
    Calls Tryd.prog 16 #[.slice A1 L.length c1, .slice A2 M.length c2] w fun e w' => e = .returned (.bool (decide (L = M))) ∧ Turn [] w w' := by
  have H1 := Lib.hid h1
  have H2 := Lib.hid h2
  obtain ⟨n, hn⟩ : ∃ n, L.length = n := ⟨_, rfl⟩
  obtain ⟨m, hm⟩ : ∃ m, M.length = m := ⟨_, rfl⟩
  have HN := Lib.hid (And.intro hn hm)
  unfold OwnN at H1 H2
  rw [hn] at hL ⊢
  rw [hm]
  obtain ⟨V, hV⟩ : ∃ V, decide (L = M) = V := ⟨_, rfl⟩
  rw [hV]
  have HV := Lib.hid hV
  clear h1 h2 hn hm hV
  by_cases hnm : n = m
  · subst hnm
    go_enter Tryd.func16, Tryd.ntmps16
    go_wp2_with fail
    go_loopw [13] (fun i wr => ∃ k : Nat, k ≤ n ∧ i = .int .i64 (k : Int) ∧ Hid (L.take k = M.take k ∧ Turn [] w wr)) (fun i _ => n - (intOf i).toNat)
    case atStart => exact ⟨0, Nat.zero_le _, rfl, Lib.hid ⟨rfl, Turn.refl _ _⟩⟩
    case round =>
      obtain ⟨k, hk, rfl, HW⟩ := hrel
      by_cases hlt : k < n
      · obtain ⟨r, hr⟩ := at_lt (l := L) (k := k) (by rw [HN.out.1]; exact hlt)
        obtain ⟨q, hq⟩ := at_lt (l := M) (k := k) (by rw [HN.out.2]; exact hlt)
        obtain ⟨g1, rfl, hg1, a0, a1⟩ := row_at (Turn.owns HW.out.2 H1.out (by simp)) hr
        obtain ⟨g2, rfl, hg2, b0, b1⟩ := row_at (Turn.owns HW.out.2 H2.out (by simp)) hq
        have HRQ := Lib.hid (And.intro hr hq)
        obtain ⟨x, s⟩ := r
        obtain ⟨y, t⟩ := q
        simp only at a0 a1 b0 b1
        clear hr hq
        by_cases hxy : x = y
        · by_cases hst : s = t
          · subst hxy hst
            go_wp2_with fail
            go_quiet (fail)
            go_wp2_with fail
            go_roundw
            case rel => exact ⟨k + 1, by omega, by go_num, Lib.hid ⟨by rw [take_snoc HRQ.out.1, take_snoc HRQ.out.2, HW.out.1], HW.out.2.drewN _⟩⟩
            case measure => simp [intOf]; omega
          · subst hxy
            have HG : Hid (V = false) := Lib.hid (by
              rw [← HV.out, decide_eq_false_iff_not]
              intro e
              have h3 := HRQ.out
              rw [e] at h3
              have := h3.1.symm.trans h3.2
              simp at this
              exact hst this)
            have hbf := bytes_f hst
            go_wp2_with fail
            go_quiet (fail)
            go_wp2_with fail
            go_ret
            exact ⟨ret_bool HG.out.symm, HW.out.2.drewN _⟩
        · have hI : ¬ (x : Int) = (y : Int) := by omega
          have HG : Hid (V = false) := Lib.hid (by
            rw [← HV.out, decide_eq_false_iff_not]
            intro e
            have h3 := HRQ.out
            rw [e] at h3
            have := h3.1.symm.trans h3.2
            simp at this
            exact hxy this.1)
          go_wp2_with fail
          go_quiet (fail)
          go_wp2_with fail
          go_ret
          exact ⟨ret_bool HG.out.symm, HW.out.2.drewN _⟩
      · have hkn : k = n := by omega
        subst hkn
        have HG : Hid (V = true) := Lib.hid (by
          have := HW.out.1
          rw [List.take_of_length_le (by rw [HN.out.1]; exact Nat.le_refl _), List.take_of_length_le (by rw [HN.out.2]; exact Nat.le_refl _)] at this
          rw [← HV.out]
          simpa using this)
        go_wp2_with fail
        go_ret
        exact ⟨ret_bool HG.out.symm, HW.out.2⟩
  · have hI : ¬ (n : Int) = (m : Int) := by omega
    have HG : Hid (V = false) := Lib.hid (by
      rw [← HV.out, decide_eq_false_iff_not]
      intro e
      have h3 := HN.out
      rw [e] at h3
      omega)
    go_enter Tryd.func16, Tryd.ntmps16
    go_wp2_with fail
    go_ret
    exact ⟨ret_bool HG.out.symm, Turn.refl _ _⟩

set_option maxHeartbeats 4000000 in
set_option maxRecDepth 100000 in
theorem stmts2_any (la lb : List St) (A1 A2 : Option Addr) (c1 c2 B : Nat) (m : Int) (w : World) (h1 : RdL B w A1 0 la) (h2 : RdL B w A2 0 lb) (hE : Env B w) (hm : w.cell? ⟨0, 0, none⟩ = some (.int .i64 m))
    (fa : FtL la ∧ LnL la ∧ la.length ≤ 1000 ∧ (rwL 0 la).length ≤ 2000000) (fb : FtL lb ∧ LnL lb ∧ lb.length ≤ 1000 ∧ (rwL 0 lb).length ≤ 2000000) :
    Calls Tryd.prog 12 #[.slice A1 la.length c1, .slice A2 lb.length c2] w fun e w' => e = .returned (.bool (decide (lns (rwL 0 la) = lns (rwL 0 lb)))) ∧ Turn [] w w' := by
  have HC1 := Lib.hid (sheet_any la A1 c1 B w h1 hE fa.1 fa.2.1 fa.2.2.1 (by omega))
  have HC3 : Hid (∀ w', Turn [] w w' → Calls Tryd.prog 13 #[.slice A2 lb.length c2] w' fun e w'' => e = .returned (.pointer (some ⟨w'.heap.size, 0, none⟩)) ∧ ∃ F, Sh 50 w'' w'.heap.size F (rwL 0 lb) 0 ∧ Turn [] w' w'') :=
    Lib.hid (fun w' ht => sheet_any lb A2 c2 B w' (h2.turn ht (by simp) lb) (hE.turn ht (by simp)) fb.1 fb.2.1 fb.2.2.1 (by omega))
  have HL : Hid (∀ (l : List St), FtL l → (rwL 0 l).length ≤ 2000000 → (∀ r ∈ rwL 0 l, r.2.size ≤ 1200000 ∧ r.1 ≤ 10000000) ∧ (lns (rwL 0 l)).length ≤ 4000000000000) := Lib.hid (fun l hf hl => by
    have hok := rwL_ok 0 l hf
    refine ⟨fun r hr => ⟨(hok r hr).1, by have := (hok r hr).2; omega⟩, ?_⟩
    have h3 := lns_len 1200000 (rwL 0 l) fun r hr => (hok r hr).1
    have h4 : (rwL 0 l).length * (1200000 + 1) ≤ 2000000 * (1200000 + 1) := Nat.mul_le_mul_right _ hl
    omega)
  have HA := Lib.hid (HL.out la fa.1 fa.2.2.2)
  have HB := Lib.hid (HL.out lb fb.1 fb.2.2.2)
  have HFA := Lib.hid (And.intro fa.2.2.2 fb.2.2.2)
  have HM := Lib.hid hm
  obtain ⟨n1, hn1⟩ : ∃ n, la.length = n := ⟨_, rfl⟩
  obtain ⟨n2, hn2⟩ : ∃ n, lb.length = n := ⟨_, rfl⟩
  rw [hn1] at HC1 ⊢
  rw [hn2] at HC3 ⊢
  obtain ⟨R1, hR1⟩ : ∃ R, rwL 0 la = R := ⟨_, rfl⟩
  obtain ⟨R2, hR2⟩ : ∃ R, rwL 0 lb = R := ⟨_, rfl⟩
  rw [hR1] at HC1 HA HFA ⊢
  rw [hR2] at HC3 HB HFA ⊢
  obtain ⟨V, hV⟩ : ∃ V, decide (lns R1 = lns R2) = V := ⟨_, rfl⟩
  rw [hV]
  have HV := Lib.hid hV
  clear h1 h2 hE hm fa fb HL hn1 hn2 hR1 hR2 hV
  go_enter Tryd.func12, Tryd.ntmps12
  go_wp2_with fail
  refine HC1.out.mono ?_
  rintro e w1 ⟨rfl, F1, hS1, t1⟩
  have HC2 := Lib.hid (lines_any 50 w.heap.size F1 R1 0 m w1 hS1 ((t1.cell (p := ⟨0, 0, none⟩) (cell_lt HM.out) (by simp)).trans HM.out) (by have := HFA.out.1; omega) HA.out.1 HA.out.2)
  have HT1 := Lib.hid t1
  clear hS1 t1 HC1
  go_wp2_with fail
  refine HC2.out.mono ?_
  rintro e w2 ⟨A3, c3, rfl, hb1⟩
  have HB1 := Lib.hid hb1
  have HT2 := Lib.hid (HT1.out.trans' hb1.2.2)
  have HC4 := Lib.hid (HC3.out w2 HT2.out)
  clear hb1 HC2 HC3 HT1
  go_wp2_with fail
  refine HC4.out.mono ?_
  rintro e w3 ⟨rfl, F2, hS2, t3⟩
  have HT3 := Lib.hid (HT2.out.trans' t3)
  have HC5 := Lib.hid (lines_any 50 w2.heap.size F2 R2 0 m w3 hS2 ((HT3.out.cell (p := ⟨0, 0, none⟩) (cell_lt HM.out) (by simp)).trans HM.out) (by have := HFA.out.2; omega) HB.out.1 HB.out.2)
  have HB2 := Lib.hid (HB1.out.turn' t3)
  clear hS2 t3 HC4 HT2 HB1
  go_wp2_with fail
  refine HC5.out.mono ?_
  rintro e w4 ⟨A4, c4, rfl, hb2⟩
  have HC6 := Lib.hid (equal_any A3 A4 c3 c4 (lns R1) (lns R2) w4 (HB2.out.turn' hb2.2.2).1 hb2.1 (by have := HA.out.2; omega))
  have HT4 := Lib.hid (HT3.out.trans' hb2.2.2)
  rw [HV.out] at HC6
  clear hb2 HC5 HB2 HT3
  go_wp2_with fail
  refine HC6.out.mono ?_
  rintro e w5 ⟨rfl, t5⟩
  have HT5 := Lib.hid t5
  clear t5
  go_wp2_with fail
  go_ret
  exact ⟨rfl, HT4.out.trans' HT5.out⟩
end Go.Proofs.YtoekaehpcjhhaaaDoor
