import Derived.Test.YtnmhcgkccchacaaGreatDoorQ03Stb

/- Walks of the parser's functions, printed by gen7.py: tryW, choiceW, loopW. -/
set_option linter.unusedSimpArgs false
set_option linter.unusedVariables false
set_option maxRecDepth 100000
namespace Go.Proofs.YtnmhcgkccchacaaGreatDoor
open Go.RowKit

set_option maxHeartbeats 6400000 in
theorem tryW_any (en : Nat × Nat) (b sb : Nat) (s : RS) (p : Sf) (kk : Nat) (w : World) (hP : Pr en w b s) (hS : Sb w b sb p) (hst : StSaid en kk) (hd : s.deep ≤ 8) (hk : 9 ≤ s.deep + 1 + kk) :
    Calls Tryz.prog 65 #[.pointer (some ⟨b, 0, none⟩), .pointer (some ⟨sb, 0, none⟩)] w fun e w' => e = .returned (.tuple #[]) ∧ St8 en w w' b sb (tryW en (stmtN en kk) p s).2 (tryW en (stmtN en kk) p s).1 := by
  obtain ⟨d, x, y, z, t, f, ag, n, bd, ot, ln, cl⟩ := p
  have H0 := Lib.hid (St8.mk0 hP hS)
  clear hP hS
  have HST := Lib.hid hst
  have HHD := Lib.hid hd
  have HHK := Lib.hid hk
  clear hst hd hk
  obtain ⟨U1_0, U2_0, U3_0, hcc, hff⟩ := H0.out.ss.cells
  have c0_d : w.cell? ⟨sb, 0, none⟩ = some (.int .i64 d) := hcc 0
  have g0_d : w.frozen? ⟨sb, 0, none⟩ = false := hff 0
  clear hcc hff
  go_enter Tryz.func65, Tryz.ntmps65
  have H0s : Hid (St8 en w (w.setCell ⟨sb, 0, none⟩ (.int .i64 19)) b sb s ⟨19, x, y, z, t, f, ag, n, bd, ot, ln, cl⟩) := Lib.hid (H0.out.set_d 19)
  go_wp2_with fail
  refine (nested_any en b s kk _ H0s.out.pr HST.out HHD.out HHK.out).mono ?_
  rintro e1 w1 ⟨V1, rfl, hv1, h1, t1⟩
  have H1 := Lib.hid (H0s.out.call h1 t1)
  clear h1 t1
  obtain ⟨l1, ea1⟩ : ∃ v, (nestedW en (stmtN en kk) s).1 = v := ⟨_, rfl⟩
  rw [ea1] at hv1
  obtain ⟨P1, q1, rfl, _, _⟩ := id hv1
  obtain ⟨s1, es1⟩ : ∃ q, (nestedW en (stmtN en kk) s).2 = q := ⟨_, rfl⟩
  rw [es1] at H1
  have HD1 := Lib.hid (show s1.deep = s.deep from es1 ▸ ((nestedW_le (stmtN_le kk) (en := en) (Le.refl s)).1.trans rfl))
  have Hes1 := Lib.hid es1
  clear es1
  have HV1 := Lib.hid (hv1.mono (B := fun g => sb < g) goodS (fun g hg _ => Nat.lt_of_lt_of_le H0s.out.ss.lt hg))
  clear hv1
  have Hea1 := Lib.hid ea1
  clear ea1
  obtain ⟨U1_1, U2_1, U3_1, hcc, hff⟩ := H1.out.ss.cells
  have c1_bd : w1.cell? ⟨sb, 8, none⟩ = some U2_1 := hcc 8
  have g1_bd : w1.frozen? ⟨sb, 8, none⟩ = false := hff 8
  clear hcc hff
  have H1s : Hid (St8 en w (w1.setCell ⟨sb, 8, none⟩ (.slice P1 l1.length q1)) b sb s1 ⟨19, x, y, z, t, f, ag, n, l1, ot, ln, cl⟩) := Lib.hid (H1.out.set_bd HV1.out)
  go_wp2_with fail
  refine (take2N_any en b s1 kCatch [40] _ w1.heap.size (by simp) _ rfl H1s.out.pr).mono ?_
  rintro e2 w2 ⟨rfl, h2, t2⟩
  have H2 := Lib.hid (H1s.out.call h2 t2)
  clear h2 t2
  obtain ⟨s2, es2⟩ : ∃ q, takes en [kCatch, [40]] s1 = q := ⟨_, rfl⟩
  rw [es2] at H2
  have HD2 := Lib.hid (show s2.deep = s.deep from es2 ▸ ((takes_le _ (en := en) (Le.refl s1)).1.trans HD1.out))
  have Hes2 := Lib.hid es2
  clear es2
  go_wp2_with fail
  refine (pName_any en b s2 _ H2.out.pr).mono ?_
  rintro e3 w3 ⟨rfl, h3, t3⟩
  have H3 := Lib.hid (H2.out.call h3 t3)
  clear h3 t3
  obtain ⟨v3, ea3⟩ : ∃ v, (name en s2).1 = v := ⟨_, rfl⟩
  rw [ea3]
  obtain ⟨s3, es3⟩ : ∃ q, (name en s2).2 = q := ⟨_, rfl⟩
  rw [es3] at H3
  have HD3 := Lib.hid (show s3.deep = s.deep from es3 ▸ ((name_le (en := en) (Le.refl s2)).1.trans HD2.out))
  have Hes3 := Lib.hid es3
  clear es3
  have Hea3 := Lib.hid ea3
  clear ea3
  obtain ⟨U1_3, U2_3, U3_3, hcc, hff⟩ := H3.out.ss.cells
  have c3_t : w3.cell? ⟨sb, 4, none⟩ = some (.string t) := hcc 4
  have g3_t : w3.frozen? ⟨sb, 4, none⟩ = false := hff 4
  clear hcc hff
  have H3s : Hid (St8 en w (w3.setCell ⟨sb, 4, none⟩ (.string v3)) b sb s3 ⟨19, x, y, z, v3, f, ag, n, l1, ot, ln, cl⟩) := Lib.hid (H3.out.set_t v3)
  go_wp2_with fail
  refine (pName_any en b s3 _ H3s.out.pr).mono ?_
  rintro e4 w4 ⟨rfl, h4, t4⟩
  have H4 := Lib.hid (H3s.out.call h4 t4)
  clear h4 t4
  obtain ⟨v4, ea4⟩ : ∃ v, (name en s3).1 = v := ⟨_, rfl⟩
  rw [ea4]
  obtain ⟨s4, es4⟩ : ∃ q, (name en s3).2 = q := ⟨_, rfl⟩
  rw [es4] at H4
  have HD4 := Lib.hid (show s4.deep = s.deep from es4 ▸ ((name_le (en := en) (Le.refl s3)).1.trans HD3.out))
  have Hes4 := Lib.hid es4
  clear es4
  have Hea4 := Lib.hid ea4
  clear ea4
  obtain ⟨U1_4, U2_4, U3_4, hcc, hff⟩ := H4.out.ss.cells
  have c4_x : w4.cell? ⟨sb, 1, none⟩ = some (.string x) := hcc 1
  have g4_x : w4.frozen? ⟨sb, 1, none⟩ = false := hff 1
  clear hcc hff
  have H4s : Hid (St8 en w (w4.setCell ⟨sb, 1, none⟩ (.string v4)) b sb s4 ⟨19, v4, y, z, v3, f, ag, n, l1, ot, ln, cl⟩) := Lib.hid (H4.out.set_x v4)
  go_wp2_with fail
  refine (takeN_any en b s4 [41] _ w4.heap.size (by simp) _ rfl H4s.out.pr).mono ?_
  rintro e5 w5 ⟨rfl, h5, t5⟩
  have H5 := Lib.hid (H4s.out.call h5 t5)
  clear h5 t5
  obtain ⟨s5, es5⟩ : ∃ q, take en [41] s4 = q := ⟨_, rfl⟩
  rw [es5] at H5
  have HD5 := Lib.hid (show s5.deep = s.deep from es5 ▸ ((take_le _ (en := en) (Le.refl s4)).1.trans HD4.out))
  have Hes5 := Lib.hid es5
  clear es5
  go_wp2_with fail
  refine (nested_any en b s5 kk _ H5.out.pr HST.out (by rw [HD5.out]; exact HHD.out) (by rw [HD5.out]; exact HHK.out)).mono ?_
  rintro e6 w6 ⟨V6, rfl, hv6, h6, t6⟩
  have H6 := Lib.hid (H5.out.call h6 t6)
  clear h6 t6
  obtain ⟨l6, ea6⟩ : ∃ v, (nestedW en (stmtN en kk) s5).1 = v := ⟨_, rfl⟩
  rw [ea6] at hv6
  obtain ⟨P6, q6, rfl, _, _⟩ := id hv6
  obtain ⟨s6, es6⟩ : ∃ q, (nestedW en (stmtN en kk) s5).2 = q := ⟨_, rfl⟩
  rw [es6] at H6
  have HD6 := Lib.hid (show s6.deep = s.deep from es6 ▸ ((nestedW_le (stmtN_le kk) (en := en) (Le.refl s5)).1.trans HD5.out))
  have Hes6 := Lib.hid es6
  clear es6
  have HV6 := Lib.hid (hv6.mono (B := fun g => sb < g) goodS (fun g hg _ => Nat.lt_of_lt_of_le H5.out.ss.lt hg))
  clear hv6
  have Hea6 := Lib.hid ea6
  clear ea6
  obtain ⟨U1_6, U2_6, U3_6, hcc, hff⟩ := H6.out.ss.cells
  have c6_ot : w6.cell? ⟨sb, 9, none⟩ = some U3_6 := hcc 9
  have g6_ot : w6.frozen? ⟨sb, 9, none⟩ = false := hff 9
  clear hcc hff
  have H6s : Hid (St8 en w (w6.setCell ⟨sb, 9, none⟩ (.slice P6 l6.length q6)) b sb s6 ⟨19, v4, y, z, v3, f, ag, n, l1, l6, ln, cl⟩) := Lib.hid (H6.out.set_ot HV6.out)
  go_wp2_with fail
  (first | go_end0 | refine bodyPost_ret (v := .tuple #[]) (by simp [results, Tryz.results65, go_sem]) rfl ?_)
  have EF : tryW en (stmtN en kk) ⟨d, x, y, z, t, f, ag, n, bd, ot, ln, cl⟩ s = (⟨19, v4, y, z, v3, f, ag, n, l1, l6, ln, cl⟩, s6) := by
    refine Prod.ext ?_ ?_ <;> (unfold tryW; simp only [Hes1.out, Hea1.out, Hes2.out, Hes3.out, Hea3.out, Hes4.out, Hea4.out, Hes5.out, Hes6.out, Hea6.out, if_true, if_false, Bool.false_eq_true, reduceIte])
  rw [EF]
  exact ⟨rfl, H6s.out⟩

set_option maxHeartbeats 6400000 in
theorem choiceW_any (en : Nat × Nat) (b sb : Nat) (s : RS) (p : Sf) (kk : Nat) (w : World) (hP : Pr en w b s) (hS : Sb w b sb p) (hst : StSaid en kk) (hd : s.deep ≤ 8) (hk : 9 ≤ s.deep + 1 + kk) :
    Calls Tryz.prog 66 #[.pointer (some ⟨b, 0, none⟩), .pointer (some ⟨sb, 0, none⟩)] w fun e w' => e = .returned (.tuple #[]) ∧ St8 en w w' b sb (choiceW en (stmtN en kk) p s).2 (choiceW en (stmtN en kk) p s).1 := by
  obtain ⟨d, x, y, z, t, f, ag, n, bd, ot, ln, cl⟩ := p
  have H0 := Lib.hid (St8.mk0 hP hS)
  clear hP hS
  have HST := Lib.hid hst
  have HHD := Lib.hid hd
  have HHK := Lib.hid hk
  clear hst hd hk
  obtain ⟨U1_0, U2_0, U3_0, hcc, hff⟩ := H0.out.ss.cells
  have c0_d : w.cell? ⟨sb, 0, none⟩ = some (.int .i64 d) := hcc 0
  have g0_d : w.frozen? ⟨sb, 0, none⟩ = false := hff 0
  clear hcc hff
  go_enter Tryz.func66, Tryz.ntmps66
  have H0s : Hid (St8 en w (w.setCell ⟨sb, 0, none⟩ (.int .i64 20)) b sb s ⟨20, x, y, z, t, f, ag, n, bd, ot, ln, cl⟩) := Lib.hid (H0.out.set_d 20)
  go_wp2_with fail
  refine (less_any en b sb s ⟨20, x, y, z, t, f, ag, n, bd, ot, ln, cl⟩ _ H0s.out.pr H0s.out.ss).mono ?_
  rintro e1 w1 ⟨rfl, h1⟩
  have H1 := Lib.hid (H0s.out.callS h1)
  clear h1
  obtain ⟨p1, eb1⟩ : ∃ q, (less en ⟨20, x, y, z, t, f, ag, n, bd, ot, ln, cl⟩ s).1 = q := ⟨_, rfl⟩
  rw [eb1] at H1
  obtain ⟨s1, ec1⟩ : ∃ q, (less en ⟨20, x, y, z, t, f, ag, n, bd, ot, ln, cl⟩ s).2 = q := ⟨_, rfl⟩
  rw [ec1] at H1
  have HD1 := Lib.hid (show s1.deep = s.deep from ec1 ▸ ((less_le (en := en) _ (Le.refl s)).1.trans rfl))
  have Heb1 := Lib.hid eb1
  clear eb1
  have Hec1 := Lib.hid ec1
  clear ec1
  obtain ⟨d1, x1, y1, z1, t1, f1, ag1, n1, bd1, ot1, ln1, cl1⟩ := p1
  go_wp2_with fail
  refine (nested_any en b s1 kk _ H1.out.pr HST.out (by rw [HD1.out]; exact HHD.out) (by rw [HD1.out]; exact HHK.out)).mono ?_
  rintro e2 w2 ⟨V2, rfl, hv2, h2, t2⟩
  have H2 := Lib.hid (H1.out.call h2 t2)
  clear h2 t2
  obtain ⟨l2, ea2⟩ : ∃ v, (nestedW en (stmtN en kk) s1).1 = v := ⟨_, rfl⟩
  rw [ea2] at hv2
  obtain ⟨P2, q2, rfl, _, _⟩ := id hv2
  obtain ⟨s2, es2⟩ : ∃ q, (nestedW en (stmtN en kk) s1).2 = q := ⟨_, rfl⟩
  rw [es2] at H2
  have HD2 := Lib.hid (show s2.deep = s.deep from es2 ▸ ((nestedW_le (stmtN_le kk) (en := en) (Le.refl s1)).1.trans HD1.out))
  have Hes2 := Lib.hid es2
  clear es2
  have HV2 := Lib.hid (hv2.mono (B := fun g => sb < g) goodS (fun g hg _ => Nat.lt_of_lt_of_le H1.out.ss.lt hg))
  clear hv2
  have Hea2 := Lib.hid ea2
  clear ea2
  obtain ⟨U1_2, U2_2, U3_2, hcc, hff⟩ := H2.out.ss.cells
  have c2_bd : w2.cell? ⟨sb, 8, none⟩ = some U2_2 := hcc 8
  have g2_bd : w2.frozen? ⟨sb, 8, none⟩ = false := hff 8
  clear hcc hff
  have H2s : Hid (St8 en w (w2.setCell ⟨sb, 8, none⟩ (.slice P2 l2.length q2)) b sb s2 ⟨d1, x1, y1, z1, t1, f1, ag1, n1, l2, ot1, ln1, cl1⟩) := Lib.hid (H2.out.set_bd HV2.out)
  go_wp2_with fail
  refine (pSkip_any en b s2 kElse _ rfl _ H2s.out.pr).mono ?_
  rintro e3 w3 ⟨rfl, h3, t3⟩
  have H3 := Lib.hid (H2s.out.call h3 t3)
  clear h3 t3
  obtain ⟨s3, es3⟩ : ∃ q, (skip en kElse s2).2 = q := ⟨_, rfl⟩
  rw [es3] at H3
  have HD3 := Lib.hid (show s3.deep = s.deep from es3 ▸ ((skip_le _ (en := en) (Le.refl s2)).1.trans HD2.out))
  have Hes3 := Lib.hid es3
  clear es3
  cases hq3 : (skip en kElse s2).1 with
  | true =>
    have HQ3 := Lib.hid hq3
    clear hq3
    go_wp2_with fail
    refine (nested_any en b s3 kk _ H3.out.pr HST.out (by rw [HD3.out]; exact HHD.out) (by rw [HD3.out]; exact HHK.out)).mono ?_
    rintro e4 w4 ⟨V4, rfl, hv4, h4, t4⟩
    have H4 := Lib.hid (H3.out.call h4 t4)
    clear h4 t4
    obtain ⟨l4, ea4⟩ : ∃ v, (nestedW en (stmtN en kk) s3).1 = v := ⟨_, rfl⟩
    rw [ea4] at hv4
    obtain ⟨P4, q4, rfl, _, _⟩ := id hv4
    obtain ⟨s4, es4⟩ : ∃ q, (nestedW en (stmtN en kk) s3).2 = q := ⟨_, rfl⟩
    rw [es4] at H4
    have HD4 := Lib.hid (show s4.deep = s.deep from es4 ▸ ((nestedW_le (stmtN_le kk) (en := en) (Le.refl s3)).1.trans HD3.out))
    have Hes4 := Lib.hid es4
    clear es4
    have HV4 := Lib.hid (hv4.mono (B := fun g => sb < g) goodS (fun g hg _ => Nat.lt_of_lt_of_le H3.out.ss.lt hg))
    clear hv4
    have Hea4 := Lib.hid ea4
    clear ea4
    obtain ⟨U1_4, U2_4, U3_4, hcc, hff⟩ := H4.out.ss.cells
    have c4_ot : w4.cell? ⟨sb, 9, none⟩ = some U3_4 := hcc 9
    have g4_ot : w4.frozen? ⟨sb, 9, none⟩ = false := hff 9
    clear hcc hff
    have H4s : Hid (St8 en w (w4.setCell ⟨sb, 9, none⟩ (.slice P4 l4.length q4)) b sb s4 ⟨d1, x1, y1, z1, t1, f1, ag1, n1, l2, l4, ln1, cl1⟩) := Lib.hid (H4.out.set_ot HV4.out)
    go_wp2_with fail
    (first | go_end0 | refine bodyPost_ret (v := .tuple #[]) (by simp [results, Tryz.results66, go_sem]) rfl ?_)
    have EF : choiceW en (stmtN en kk) ⟨d, x, y, z, t, f, ag, n, bd, ot, ln, cl⟩ s = (⟨d1, x1, y1, z1, t1, f1, ag1, n1, l2, l4, ln1, cl1⟩, s4) := by
      refine Prod.ext ?_ ?_ <;> (unfold choiceW; simp only [Heb1.out, Hec1.out, Hes2.out, Hea2.out, Hes3.out, HQ3.out, Hes4.out, Hea4.out, if_true, if_false, Bool.false_eq_true, reduceIte])
    rw [EF]
    exact ⟨rfl, H4s.out⟩
  | false =>
    have HQ3 := Lib.hid hq3
    clear hq3
    go_wp2_with fail
    (first | go_end0 | refine bodyPost_ret (v := .tuple #[]) (by simp [results, Tryz.results66, go_sem]) rfl ?_)
    have EF : choiceW en (stmtN en kk) ⟨d, x, y, z, t, f, ag, n, bd, ot, ln, cl⟩ s = (⟨d1, x1, y1, z1, t1, f1, ag1, n1, l2, ot1, ln1, cl1⟩, s3) := by
      refine Prod.ext ?_ ?_ <;> (unfold choiceW; simp only [Heb1.out, Hec1.out, Hes2.out, Hea2.out, Hes3.out, HQ3.out, if_true, if_false, Bool.false_eq_true, reduceIte])
    rw [EF]
    exact ⟨rfl, H3.out⟩

set_option maxHeartbeats 6400000 in
theorem loopW_any (en : Nat × Nat) (b sb : Nat) (s : RS) (p : Sf) (kk : Nat) (w : World) (hP : Pr en w b s) (hS : Sb w b sb p) (hst : StSaid en kk) (hd : s.deep ≤ 8) (hk : 9 ≤ s.deep + 1 + kk) :
    Calls Tryz.prog 67 #[.pointer (some ⟨b, 0, none⟩), .pointer (some ⟨sb, 0, none⟩)] w fun e w' => e = .returned (.tuple #[]) ∧ St8 en w w' b sb (loopW en (stmtN en kk) p s).2 (loopW en (stmtN en kk) p s).1 := by
  obtain ⟨d, x, y, z, t, f, ag, n, bd, ot, ln, cl⟩ := p
  have H0 := Lib.hid (St8.mk0 hP hS)
  clear hP hS
  have HST := Lib.hid hst
  have HHD := Lib.hid hd
  have HHK := Lib.hid hk
  clear hst hd hk
  obtain ⟨U1_0, U2_0, U3_0, hcc, hff⟩ := H0.out.ss.cells
  have c0_d : w.cell? ⟨sb, 0, none⟩ = some (.int .i64 d) := hcc 0
  have g0_d : w.frozen? ⟨sb, 0, none⟩ = false := hff 0
  clear hcc hff
  go_enter Tryz.func67, Tryz.ntmps67
  have H0s : Hid (St8 en w (w.setCell ⟨sb, 0, none⟩ (.int .i64 21)) b sb s ⟨21, x, y, z, t, f, ag, n, bd, ot, ln, cl⟩) := Lib.hid (H0.out.set_d 21)
  go_wp2_with fail
  refine (less_any en b sb s ⟨21, x, y, z, t, f, ag, n, bd, ot, ln, cl⟩ _ H0s.out.pr H0s.out.ss).mono ?_
  rintro e1 w1 ⟨rfl, h1⟩
  have H1 := Lib.hid (H0s.out.callS h1)
  clear h1
  obtain ⟨p1, eb1⟩ : ∃ q, (less en ⟨21, x, y, z, t, f, ag, n, bd, ot, ln, cl⟩ s).1 = q := ⟨_, rfl⟩
  rw [eb1] at H1
  obtain ⟨s1, ec1⟩ : ∃ q, (less en ⟨21, x, y, z, t, f, ag, n, bd, ot, ln, cl⟩ s).2 = q := ⟨_, rfl⟩
  rw [ec1] at H1
  have HD1 := Lib.hid (show s1.deep = s.deep from ec1 ▸ ((less_le (en := en) _ (Le.refl s)).1.trans rfl))
  have Heb1 := Lib.hid eb1
  clear eb1
  have Hec1 := Lib.hid ec1
  clear ec1
  obtain ⟨d1, x1, y1, z1, t1, f1, ag1, n1, bd1, ot1, ln1, cl1⟩ := p1
  go_wp2_with fail
  refine (nested_any en b s1 kk _ H1.out.pr HST.out (by rw [HD1.out]; exact HHD.out) (by rw [HD1.out]; exact HHK.out)).mono ?_
  rintro e2 w2 ⟨V2, rfl, hv2, h2, t2⟩
  have H2 := Lib.hid (H1.out.call h2 t2)
  clear h2 t2
  obtain ⟨l2, ea2⟩ : ∃ v, (nestedW en (stmtN en kk) s1).1 = v := ⟨_, rfl⟩
  rw [ea2] at hv2
  obtain ⟨P2, q2, rfl, _, _⟩ := id hv2
  obtain ⟨s2, es2⟩ : ∃ q, (nestedW en (stmtN en kk) s1).2 = q := ⟨_, rfl⟩
  rw [es2] at H2
  have HD2 := Lib.hid (show s2.deep = s.deep from es2 ▸ ((nestedW_le (stmtN_le kk) (en := en) (Le.refl s1)).1.trans HD1.out))
  have Hes2 := Lib.hid es2
  clear es2
  have HV2 := Lib.hid (hv2.mono (B := fun g => sb < g) goodS (fun g hg _ => Nat.lt_of_lt_of_le H1.out.ss.lt hg))
  clear hv2
  have Hea2 := Lib.hid ea2
  clear ea2
  obtain ⟨U1_2, U2_2, U3_2, hcc, hff⟩ := H2.out.ss.cells
  have c2_bd : w2.cell? ⟨sb, 8, none⟩ = some U2_2 := hcc 8
  have g2_bd : w2.frozen? ⟨sb, 8, none⟩ = false := hff 8
  clear hcc hff
  have H2s : Hid (St8 en w (w2.setCell ⟨sb, 8, none⟩ (.slice P2 l2.length q2)) b sb s2 ⟨d1, x1, y1, z1, t1, f1, ag1, n1, l2, ot1, ln1, cl1⟩) := Lib.hid (H2.out.set_bd HV2.out)
  go_wp2_with fail
  (first | go_end0 | refine bodyPost_ret (v := .tuple #[]) (by simp [results, Tryz.results67, go_sem]) rfl ?_)
  have EF : loopW en (stmtN en kk) ⟨d, x, y, z, t, f, ag, n, bd, ot, ln, cl⟩ s = (⟨d1, x1, y1, z1, t1, f1, ag1, n1, l2, ot1, ln1, cl1⟩, s2) := by
    refine Prod.ext ?_ ?_ <;> (unfold loopW; simp only [Heb1.out, Hec1.out, Hes2.out, Hea2.out, if_true, if_false, Bool.false_eq_true, reduceIte])
  rw [EF]
  exact ⟨rfl, H2s.out⟩

end Go.Proofs.YtnmhcgkccchacaaGreatDoor

/- stmt; statements as deep as may be. Printed by gen7.py. -/
set_option linter.unusedSimpArgs false
set_option linter.unusedVariables false
set_option maxRecDepth 100000
namespace Go.Proofs.YtnmhcgkccchacaaGreatDoor
open Go.RowKit

theorem sf0_mk (a c : Nat) : sf0 (a, c) = ⟨0, e0, e0, e0, e0, e0, [], 0, [], [], (a : Int), (c : Int)⟩ := rfl
set_option maxHeartbeats 12800000 in
theorem stmt_any (en : Nat × Nat) (b kk : Nat) (s : RS) (w : World) (hP : Pr en w b s) (hst : StSaid en kk) (hd : s.deep ≤ 8) (hk : 9 ≤ s.deep + 1 + kk) :
    Calls Tryz.prog 35 #[.pointer (some ⟨b, 0, none⟩)] w fun e w' => ∃ cs : List Value, e = .returned (.agg cs.toArray) ∧ RdS (fun g => w.heap.size ≤ g) w' cs (stmtN en (kk + 1) s).1 ∧ Pr en w' b (stmtN en (kk + 1) s).2 ∧ Turn [b] w w' := by
  have HST := Lib.hid hst
  have HHD := Lib.hid hd
  have HHK := Lib.hid hk
  have hbl := hP.lt
  have hEF0 : stmtN en (kk + 1) s = ((stmtF en (stmtN en kk) s).1.st, (stmtF en (stmtN en kk) s).2) := rfl
  rw [hEF0]
  obtain ⟨W1, hW1⟩ : ∃ W1, w.alloc (.cells #[.int .i64 0, .string ⟨#[]⟩, .string ⟨#[]⟩, .string ⟨#[]⟩, .string ⟨#[]⟩, .string ⟨#[]⟩, .slice none 0 0, .int .i64 0, .slice none 0 0, .slice none 0 0, .int .i64 0, .int .i64 0] 41) = W1 := ⟨_, rfl⟩
  obtain ⟨r, hr⟩ : ∃ r, w.heap.size = r := ⟨_, rfl⟩
  have tW1 : Turn [] w W1 := by rw [← hW1]; exact (Turn.refl [] w).alloc _
  have rW1 : W1.heap[r]? = some (.cells #[.int .i64 0, .string ⟨#[]⟩, .string ⟨#[]⟩, .string ⟨#[]⟩, .string ⟨#[]⟩, .string ⟨#[]⟩, .slice none 0 0, .int .i64 0, .slice none 0 0, .slice none 0 0, .int .i64 0, .int .i64 0] 41 (0, 0)) := by rw [← hW1, ← hr]; exact heap_alloc_new w _
  have sW1 : W1.heap.size = r + 1 := by rw [← hW1, ← hr]; simp
  have HW1 := Lib.hid hW1
  have HR := Lib.hid hr
  have hPl := place_any en b s W1 (hP.up tW1)
  obtain ⟨pl, hpl⟩ : ∃ p, (atP en s).1 = p := ⟨_, rfl⟩
  obtain ⟨pc, hpc⟩ : ∃ p, (atP en s).2 = p := ⟨_, rfl⟩
  rw [hpl, hpc] at hPl
  have HPL := Lib.hid hPl
  have HAT : Hid (atP en s = (pl, pc)) := Lib.hid (by rw [← hpl, ← hpc])
  have HP1 := Lib.hid (hP.up tW1)
  have HTW1 := Lib.hid tW1
  have HRW1 := Lib.hid rW1
  clear hst hd hk hEF0 hW1 hr tW1 rW1 hPl hpl hpc hP
  go_enter Tryz.func35, Tryz.ntmps35
  go_wp2_with fail
  rw [HW1.out, HR.out]
  refine HPL.out.mono ?_
  rintro e0 w2 ⟨rfl, t2⟩
  obtain ⟨W2, hW2⟩ : ∃ W2, w2.alloc (.cells #[.int .i64 0, .string ⟨#[]⟩, .string ⟨#[]⟩, .string ⟨#[]⟩, .string ⟨#[]⟩, .string ⟨#[]⟩, .slice none 0 0, .int .i64 0, .slice none 0 0, .slice none 0 0, .int .i64 (pl : Int), .int .i64 (pc : Int)] 41) = W2 := ⟨_, rfl⟩
  obtain ⟨sb, hsb⟩ : ∃ sb, w2.heap.size = sb := ⟨_, rfl⟩
  have tW2 : Turn [] W1 W2 := by rw [← hW2]; exact t2.alloc _
  have hsbk : W2.heap[sb]? = some (.cells #[.int .i64 0, .string ⟨#[]⟩, .string ⟨#[]⟩, .string ⟨#[]⟩, .string ⟨#[]⟩, .string ⟨#[]⟩, .slice none 0 0, .int .i64 0, .slice none 0 0, .slice none 0 0, .int .i64 (pl : Int), .int .i64 (pc : Int)] 41 (0, 0)) := by rw [← hW2, ← hsb]; exact heap_alloc_new w2 _
  have hrsb : r < sb := by have := t2.size; omega
  have hbr : b < r := by have := HR.out; omega
  have hSb : Sb W2 b sb (sf0 (pl, pc)) := ⟨_, _, _, by omega, hsbk, RdV.nil _ _ _, RdV.nil _ _ _, RdV.nil _ _ _⟩
  have H0 := Lib.hid (St8.mk0 (HP1.out.up tW2) hSb)
  have HRW : Hid (∀ W', Turn [b, sb] W2 W' → W'.heap[r]? = some (.cells #[.int .i64 0, .string ⟨#[]⟩, .string ⟨#[]⟩, .string ⟨#[]⟩, .string ⟨#[]⟩, .string ⟨#[]⟩, .slice none 0 0, .int .i64 0, .slice none 0 0, .slice none 0 0, .int .i64 0, .int .i64 0] 41 (0, 0))) := Lib.hid fun W' t => t.heap (tW2.heap HRW1.out (by simp)) (by simp; omega)
  have HT2 : Hid (Turn [] w W2) := Lib.hid (HTW1.out.trans' tW2)
  have HSZ : Hid (W2.heap.size = sb + 1) := Lib.hid (by rw [← hW2, ← hsb]; simp)
  have HW2 := Lib.hid hW2
  have HSB := Lib.hid hsb
  clear hW2 hsb tW2 hsbk t2 hSb
  go_upto_region 3 with (fail)
  rw [HW2.out, HSB.out]

  go_wp2_with fail
  refine (pSkip_any en b s kThrow _ rfl _ H0.out.pr).mono ?_
  rintro e1 w1 ⟨rfl, h1, t1⟩
  have H1 := Lib.hid (H0.out.call h1 t1)
  clear h1 t1
  obtain ⟨s1, es1⟩ : ∃ q, (skip en kThrow s).2 = q := ⟨_, rfl⟩
  rw [es1] at H1
  have HD1 := Lib.hid (show s1.deep = s.deep from es1 ▸ ((skip_le _ (en := en) (Le.refl s)).1.trans rfl))
  have Hes1 := Lib.hid es1
  clear es1
  cases hq1 : (skip en kThrow s).1 with
  | true =>
    have HQ1 := Lib.hid hq1
    clear hq1
    go_wp2_with fail
    refine (pName_any en b s1 _ H1.out.pr).mono ?_
    rintro e2 w2 ⟨rfl, h2, t2⟩
    have H2 := Lib.hid (H1.out.call h2 t2)
    clear h2 t2
    obtain ⟨v2, ea2⟩ : ∃ v, (name en s1).1 = v := ⟨_, rfl⟩
    rw [ea2]
    obtain ⟨s2, es2⟩ : ∃ q, (name en s1).2 = q := ⟨_, rfl⟩
    rw [es2] at H2
    have HD2 := Lib.hid (show s2.deep = s.deep from es2 ▸ ((name_le (en := en) (Le.refl s1)).1.trans HD1.out))
    have Hes2 := Lib.hid es2
    clear es2
    have Hea2 := Lib.hid ea2
    clear ea2
    obtain ⟨U1_2, U2_2, U3_2, hcc, hff⟩ := H2.out.ss.cells
    have c2_d : w2.cell? ⟨sb, 0, none⟩ = some (.int .i64 0) := hcc 0
    have g2_d : w2.frozen? ⟨sb, 0, none⟩ = false := hff 0
    have c2_x : w2.cell? ⟨sb, 1, none⟩ = some (.string e0) := hcc 1
    have g2_x : w2.frozen? ⟨sb, 1, none⟩ = false := hff 1
    clear hcc hff
    have H2s : Hid (St8 en W2 ((w2.setCell ⟨sb, 0, none⟩ (.int .i64 18)).setCell ⟨sb, 1, none⟩ (.string v2)) b sb s2 ⟨18, v2, e0, e0, e0, e0, [], 0, [], [], pl, pc⟩) := Lib.hid ((H2.out.set_d 18).set_x v2)
    go_wp2_with fail
    refine (takeN_any en b s2 [59] _ w2.heap.size (by simp) _ rfl H2s.out.pr).mono ?_
    rintro e3 w3 ⟨rfl, h3, t3⟩
    have H3 := Lib.hid (H2s.out.call h3 t3)
    clear h3 t3
    obtain ⟨s3, es3⟩ : ∃ q, take en [59] s2 = q := ⟨_, rfl⟩
    rw [es3] at H3
    have HD3 := Lib.hid (show s3.deep = s.deep from es3 ▸ ((take_le _ (en := en) (Le.refl s2)).1.trans HD2.out))
    have Hes3 := Lib.hid es3
    clear es3
    obtain ⟨V1, V2, V3, hSB⟩ := id H3.out.ss
    obtain ⟨P1, q1, rfl, _, _⟩ := id hSB.ag
    obtain ⟨P2, q2, rfl, _, _⟩ := id hSB.bd
    obtain ⟨P3, q3, rfl, _, _⟩ := id hSB.ot
    have m0 : w3.cell? ⟨sb, 0, none⟩ = some (.int .i64 18) := cell_of_row w3 sb 0 _ _ _ hSB.blk
    have m1 : w3.cell? ⟨sb, 1, none⟩ = some (.string v2) := cell_of_row w3 sb 1 _ _ _ hSB.blk
    have m2 : w3.cell? ⟨sb, 2, none⟩ = some (.string e0) := cell_of_row w3 sb 2 _ _ _ hSB.blk
    have m3 : w3.cell? ⟨sb, 3, none⟩ = some (.string e0) := cell_of_row w3 sb 3 _ _ _ hSB.blk
    have m4 : w3.cell? ⟨sb, 4, none⟩ = some (.string e0) := cell_of_row w3 sb 4 _ _ _ hSB.blk
    have m5 : w3.cell? ⟨sb, 5, none⟩ = some (.string e0) := cell_of_row w3 sb 5 _ _ _ hSB.blk
    have m6 : w3.cell? ⟨sb, 6, none⟩ = some (.slice P1 0 q1) := cell_of_row w3 sb 6 _ _ _ hSB.blk
    have m7 : w3.cell? ⟨sb, 7, none⟩ = some (.int .i64 0) := cell_of_row w3 sb 7 _ _ _ hSB.blk
    have m8 : w3.cell? ⟨sb, 8, none⟩ = some (.slice P2 0 q2) := cell_of_row w3 sb 8 _ _ _ hSB.blk
    have m9 : w3.cell? ⟨sb, 9, none⟩ = some (.slice P3 0 q3) := cell_of_row w3 sb 9 _ _ _ hSB.blk
    have m10 : w3.cell? ⟨sb, 10, none⟩ = some (.int .i64 (pl : Int)) := cell_of_row w3 sb 10 _ _ _ hSB.blk
    have m11 : w3.cell? ⟨sb, 11, none⟩ = some (.int .i64 (pc : Int)) := cell_of_row w3 sb 11 _ _ _ hSB.blk
    have hrw := HRW.out w3 H3.out.tt
    have zz0 : w3.cell? ⟨r, 0, none⟩ = some (.int .i64 0) := cell_of_row w3 r 0 _ _ _ hrw
    have zf0 : w3.frozen? ⟨r, 0, none⟩ = false := frozen_of_row w3 r 0 _ _ hrw
    have zz1 : w3.cell? ⟨r, 1, none⟩ = some (.string ⟨#[]⟩) := cell_of_row w3 r 1 _ _ _ hrw
    have zf1 : w3.frozen? ⟨r, 1, none⟩ = false := frozen_of_row w3 r 1 _ _ hrw
    have zz2 : w3.cell? ⟨r, 2, none⟩ = some (.string ⟨#[]⟩) := cell_of_row w3 r 2 _ _ _ hrw
    have zf2 : w3.frozen? ⟨r, 2, none⟩ = false := frozen_of_row w3 r 2 _ _ hrw
    have zz3 : w3.cell? ⟨r, 3, none⟩ = some (.string ⟨#[]⟩) := cell_of_row w3 r 3 _ _ _ hrw
    have zf3 : w3.frozen? ⟨r, 3, none⟩ = false := frozen_of_row w3 r 3 _ _ hrw
    have zz4 : w3.cell? ⟨r, 4, none⟩ = some (.string ⟨#[]⟩) := cell_of_row w3 r 4 _ _ _ hrw
    have zf4 : w3.frozen? ⟨r, 4, none⟩ = false := frozen_of_row w3 r 4 _ _ hrw
    have zz5 : w3.cell? ⟨r, 5, none⟩ = some (.string ⟨#[]⟩) := cell_of_row w3 r 5 _ _ _ hrw
    have zf5 : w3.frozen? ⟨r, 5, none⟩ = false := frozen_of_row w3 r 5 _ _ hrw
    have zz6 : w3.cell? ⟨r, 6, none⟩ = some (.slice none 0 0) := cell_of_row w3 r 6 _ _ _ hrw
    have zf6 : w3.frozen? ⟨r, 6, none⟩ = false := frozen_of_row w3 r 6 _ _ hrw
    have zz7 : w3.cell? ⟨r, 7, none⟩ = some (.int .i64 0) := cell_of_row w3 r 7 _ _ _ hrw
    have zf7 : w3.frozen? ⟨r, 7, none⟩ = false := frozen_of_row w3 r 7 _ _ hrw
    have zz8 : w3.cell? ⟨r, 8, none⟩ = some (.slice none 0 0) := cell_of_row w3 r 8 _ _ _ hrw
    have zf8 : w3.frozen? ⟨r, 8, none⟩ = false := frozen_of_row w3 r 8 _ _ hrw
    have zz9 : w3.cell? ⟨r, 9, none⟩ = some (.slice none 0 0) := cell_of_row w3 r 9 _ _ _ hrw
    have zf9 : w3.frozen? ⟨r, 9, none⟩ = false := frozen_of_row w3 r 9 _ _ hrw
    have zz10 : w3.cell? ⟨r, 10, none⟩ = some (.int .i64 0) := cell_of_row w3 r 10 _ _ _ hrw
    have zf10 : w3.frozen? ⟨r, 10, none⟩ = false := frozen_of_row w3 r 10 _ _ hrw
    have zz11 : w3.cell? ⟨r, 11, none⟩ = some (.int .i64 0) := cell_of_row w3 r 11 _ _ _ hrw
    have zf11 : w3.frozen? ⟨r, 11, none⟩ = false := frozen_of_row w3 r 11 _ _ hrw
    have HSBF := Lib.hid hSB
    clear hSB hrw
    go_wp2_with fail
    refine bodyPost_ret (v := .agg #[.int .i64 18, .string v2, .string e0, .string e0, .string e0, .string e0, .slice P1 0 q1, .int .i64 0, .slice P2 0 q2, .slice P3 0 q3, .int .i64 (pl : Int), .int .i64 (pc : Int)]) (by simp [results, Tryz.results35, go_sem, zz0, zz1, zz2, zz3, zz4, zz5, zz6, zz7, zz8, zz9, zz10, zz11]) rfl ?_
    have EF : stmtF en (stmtN en kk) s = (⟨18, v2, e0, e0, e0, e0, [], 0, [], [], pl, pc⟩, s3) := by
      refine Prod.ext ?_ ?_ <;> (unfold stmtF; simp only [HAT.out, sf0_mk, Hes1.out, HQ1.out, Hes2.out, Hea2.out, Hes3.out, if_true, if_false, Bool.false_eq_true, reduceIte])
    rw [EF]
    have hE : ∀ W', Turn [r] w3 W' → Turn [b] w W' := fun W' t => ((HT2.out.more (by simp)).trans H3.out.tt (fun g hg => by have := HT2.out.size; have := HSZ.out; have := HR.out; simp at hg; rcases hg with rfl | rfl <;> simp <;> omega)).trans t (fun g hg => by have := HR.out; simp at hg; omega)
    have hF : ∀ W', Turn [r] w3 W' → RdS (fun g => w.heap.size ≤ g) W' [.int .i64 18, .string v2, .string e0, .string e0, .string e0, .string e0, .slice P1 0 q1, .int .i64 0, .slice P2 0 q2, .slice P3 0 q3, .int .i64 (pl : Int), .int .i64 (pc : Int)] (Sf.st ⟨18, v2, e0, e0, e0, e0, [], 0, [], [], pl, pc⟩) ∧ Pr en W' b s3 := fun W' t => ⟨goodS.mono (goodS.turn (RdS.of HSBF.out.ag HSBF.out.bd HSBF.out.ot) t (fun g hg h => by simp at hg; omega)) (fun g hg _ => by have := HR.out; omega), H3.out.pr.turn t (by simp; omega)⟩
    have key : ∀ W', Turn [r] w3 W' → ∃ cs : List Value, Ending.returned (.agg #[.int .i64 18, .string v2, .string e0, .string e0, .string e0, .string e0, .slice P1 0 q1, .int .i64 0, .slice P2 0 q2, .slice P3 0 q3, .int .i64 (pl : Int), .int .i64 (pc : Int)]) = Ending.returned (.agg cs.toArray) ∧ RdS (fun g => w.heap.size ≤ g) W' cs (Sf.st ⟨18, v2, e0, e0, e0, e0, [], 0, [], [], pl, pc⟩) ∧ Pr en W' b s3 ∧ Turn [b] w W' := fun W' tE => ⟨[.int .i64 18, .string v2, .string e0, .string e0, .string e0, .string e0, .slice P1 0 q1, .int .i64 0, .slice P2 0 q2, .slice P3 0 q3, .int .i64 (pl : Int), .int .i64 (pc : Int)], rfl, (hF _ tE).1, (hF _ tE).2, hE _ tE⟩
    exact key _ (((((((((((((Turn.refl [r] w3).setCell (.inl (by simp)) _).setCell (.inl (by simp)) _).setCell (.inl (by simp)) _).setCell (.inl (by simp)) _).setCell (.inl (by simp)) _).setCell (.inl (by simp)) _).setCell (.inl (by simp)) _).setCell (.inl (by simp)) _).setCell (.inl (by simp)) _).setCell (.inl (by simp)) _).setCell (.inl (by simp)) _).setCell (.inl (by simp)) _)
  | false =>
    have HQ1 := Lib.hid hq1
    clear hq1
    go_wp2_with fail
    refine (pSkip_any en b s1 kReturn _ rfl _ H1.out.pr).mono ?_
    rintro e2 w2 ⟨rfl, h2, t2⟩
    have H2 := Lib.hid (H1.out.call h2 t2)
    clear h2 t2
    obtain ⟨s2, es2⟩ : ∃ q, (skip en kReturn s1).2 = q := ⟨_, rfl⟩
    rw [es2] at H2
    have HD2 := Lib.hid (show s2.deep = s.deep from es2 ▸ ((skip_le _ (en := en) (Le.refl s1)).1.trans HD1.out))
    have Hes2 := Lib.hid es2
    clear es2
    cases hq2 : (skip en kReturn s1).1 with
    | true =>
      have HQ2 := Lib.hid hq2
      clear hq2
      go_wp2_with fail
      refine (back_any en b sb s2 ⟨0, e0, e0, e0, e0, e0, [], 0, [], [], pl, pc⟩ _ H2.out.pr H2.out.ss).mono ?_
      rintro e3 w3 ⟨rfl, h3⟩
      have H3 := Lib.hid (H2.out.callS h3)
      clear h3
      obtain ⟨p3, eb3⟩ : ∃ q, (back en ⟨0, e0, e0, e0, e0, e0, [], 0, [], [], pl, pc⟩ s2).1 = q := ⟨_, rfl⟩
      rw [eb3] at H3
      obtain ⟨s3, ec3⟩ : ∃ q, (back en ⟨0, e0, e0, e0, e0, e0, [], 0, [], [], pl, pc⟩ s2).2 = q := ⟨_, rfl⟩
      rw [ec3] at H3
      have Heb3 := Lib.hid eb3
      clear eb3
      have Hec3 := Lib.hid ec3
      clear ec3
      obtain ⟨d3, x3, y3, z3, t3, f3, ag3, n3, bd3, ot3, ln3, cl3⟩ := p3
      obtain ⟨V1, V2, V3, hSB⟩ := id H3.out.ss
      obtain ⟨P1, q1, rfl, _, _⟩ := id hSB.ag
      obtain ⟨P2, q2, rfl, _, _⟩ := id hSB.bd
      obtain ⟨P3, q3, rfl, _, _⟩ := id hSB.ot
      have m0 : w3.cell? ⟨sb, 0, none⟩ = some (.int .i64 d3) := cell_of_row w3 sb 0 _ _ _ hSB.blk
      have m1 : w3.cell? ⟨sb, 1, none⟩ = some (.string x3) := cell_of_row w3 sb 1 _ _ _ hSB.blk
      have m2 : w3.cell? ⟨sb, 2, none⟩ = some (.string y3) := cell_of_row w3 sb 2 _ _ _ hSB.blk
      have m3 : w3.cell? ⟨sb, 3, none⟩ = some (.string z3) := cell_of_row w3 sb 3 _ _ _ hSB.blk
      have m4 : w3.cell? ⟨sb, 4, none⟩ = some (.string t3) := cell_of_row w3 sb 4 _ _ _ hSB.blk
      have m5 : w3.cell? ⟨sb, 5, none⟩ = some (.string f3) := cell_of_row w3 sb 5 _ _ _ hSB.blk
      have m6 : w3.cell? ⟨sb, 6, none⟩ = some (.slice P1 ag3.length q1) := cell_of_row w3 sb 6 _ _ _ hSB.blk
      have m7 : w3.cell? ⟨sb, 7, none⟩ = some (.int .i64 n3) := cell_of_row w3 sb 7 _ _ _ hSB.blk
      have m8 : w3.cell? ⟨sb, 8, none⟩ = some (.slice P2 bd3.length q2) := cell_of_row w3 sb 8 _ _ _ hSB.blk
      have m9 : w3.cell? ⟨sb, 9, none⟩ = some (.slice P3 ot3.length q3) := cell_of_row w3 sb 9 _ _ _ hSB.blk
      have m10 : w3.cell? ⟨sb, 10, none⟩ = some (.int .i64 ln3) := cell_of_row w3 sb 10 _ _ _ hSB.blk
      have m11 : w3.cell? ⟨sb, 11, none⟩ = some (.int .i64 cl3) := cell_of_row w3 sb 11 _ _ _ hSB.blk
      have hrw := HRW.out w3 H3.out.tt
      have zz0 : w3.cell? ⟨r, 0, none⟩ = some (.int .i64 0) := cell_of_row w3 r 0 _ _ _ hrw
      have zf0 : w3.frozen? ⟨r, 0, none⟩ = false := frozen_of_row w3 r 0 _ _ hrw
      have zz1 : w3.cell? ⟨r, 1, none⟩ = some (.string ⟨#[]⟩) := cell_of_row w3 r 1 _ _ _ hrw
      have zf1 : w3.frozen? ⟨r, 1, none⟩ = false := frozen_of_row w3 r 1 _ _ hrw
      have zz2 : w3.cell? ⟨r, 2, none⟩ = some (.string ⟨#[]⟩) := cell_of_row w3 r 2 _ _ _ hrw
      have zf2 : w3.frozen? ⟨r, 2, none⟩ = false := frozen_of_row w3 r 2 _ _ hrw
      have zz3 : w3.cell? ⟨r, 3, none⟩ = some (.string ⟨#[]⟩) := cell_of_row w3 r 3 _ _ _ hrw
      have zf3 : w3.frozen? ⟨r, 3, none⟩ = false := frozen_of_row w3 r 3 _ _ hrw
      have zz4 : w3.cell? ⟨r, 4, none⟩ = some (.string ⟨#[]⟩) := cell_of_row w3 r 4 _ _ _ hrw
      have zf4 : w3.frozen? ⟨r, 4, none⟩ = false := frozen_of_row w3 r 4 _ _ hrw
      have zz5 : w3.cell? ⟨r, 5, none⟩ = some (.string ⟨#[]⟩) := cell_of_row w3 r 5 _ _ _ hrw
      have zf5 : w3.frozen? ⟨r, 5, none⟩ = false := frozen_of_row w3 r 5 _ _ hrw
      have zz6 : w3.cell? ⟨r, 6, none⟩ = some (.slice none 0 0) := cell_of_row w3 r 6 _ _ _ hrw
      have zf6 : w3.frozen? ⟨r, 6, none⟩ = false := frozen_of_row w3 r 6 _ _ hrw
      have zz7 : w3.cell? ⟨r, 7, none⟩ = some (.int .i64 0) := cell_of_row w3 r 7 _ _ _ hrw
      have zf7 : w3.frozen? ⟨r, 7, none⟩ = false := frozen_of_row w3 r 7 _ _ hrw
      have zz8 : w3.cell? ⟨r, 8, none⟩ = some (.slice none 0 0) := cell_of_row w3 r 8 _ _ _ hrw
      have zf8 : w3.frozen? ⟨r, 8, none⟩ = false := frozen_of_row w3 r 8 _ _ hrw
      have zz9 : w3.cell? ⟨r, 9, none⟩ = some (.slice none 0 0) := cell_of_row w3 r 9 _ _ _ hrw
      have zf9 : w3.frozen? ⟨r, 9, none⟩ = false := frozen_of_row w3 r 9 _ _ hrw
      have zz10 : w3.cell? ⟨r, 10, none⟩ = some (.int .i64 0) := cell_of_row w3 r 10 _ _ _ hrw
      have zf10 : w3.frozen? ⟨r, 10, none⟩ = false := frozen_of_row w3 r 10 _ _ hrw
      have zz11 : w3.cell? ⟨r, 11, none⟩ = some (.int .i64 0) := cell_of_row w3 r 11 _ _ _ hrw
      have zf11 : w3.frozen? ⟨r, 11, none⟩ = false := frozen_of_row w3 r 11 _ _ hrw
      have HSBF := Lib.hid hSB
      clear hSB hrw
      go_wp2_with fail
      refine bodyPost_ret (v := .agg #[.int .i64 d3, .string x3, .string y3, .string z3, .string t3, .string f3, .slice P1 ag3.length q1, .int .i64 n3, .slice P2 bd3.length q2, .slice P3 ot3.length q3, .int .i64 ln3, .int .i64 cl3]) (by simp [results, Tryz.results35, go_sem, zz0, zz1, zz2, zz3, zz4, zz5, zz6, zz7, zz8, zz9, zz10, zz11]) rfl ?_
      have EF : stmtF en (stmtN en kk) s = (⟨d3, x3, y3, z3, t3, f3, ag3, n3, bd3, ot3, ln3, cl3⟩, s3) := by
        refine Prod.ext ?_ ?_ <;> (unfold stmtF; simp only [HAT.out, sf0_mk, Hes1.out, HQ1.out, Hes2.out, HQ2.out, Heb3.out, Hec3.out, if_true, if_false, Bool.false_eq_true, reduceIte])
      rw [EF]
      have hE : ∀ W', Turn [r] w3 W' → Turn [b] w W' := fun W' t => ((HT2.out.more (by simp)).trans H3.out.tt (fun g hg => by have := HT2.out.size; have := HSZ.out; have := HR.out; simp at hg; rcases hg with rfl | rfl <;> simp <;> omega)).trans t (fun g hg => by have := HR.out; simp at hg; omega)
      have hF : ∀ W', Turn [r] w3 W' → RdS (fun g => w.heap.size ≤ g) W' [.int .i64 d3, .string x3, .string y3, .string z3, .string t3, .string f3, .slice P1 ag3.length q1, .int .i64 n3, .slice P2 bd3.length q2, .slice P3 ot3.length q3, .int .i64 ln3, .int .i64 cl3] (Sf.st ⟨d3, x3, y3, z3, t3, f3, ag3, n3, bd3, ot3, ln3, cl3⟩) ∧ Pr en W' b s3 := fun W' t => ⟨goodS.mono (goodS.turn (RdS.of HSBF.out.ag HSBF.out.bd HSBF.out.ot) t (fun g hg h => by simp at hg; omega)) (fun g hg _ => by have := HR.out; omega), H3.out.pr.turn t (by simp; omega)⟩
      have key : ∀ W', Turn [r] w3 W' → ∃ cs : List Value, Ending.returned (.agg #[.int .i64 d3, .string x3, .string y3, .string z3, .string t3, .string f3, .slice P1 ag3.length q1, .int .i64 n3, .slice P2 bd3.length q2, .slice P3 ot3.length q3, .int .i64 ln3, .int .i64 cl3]) = Ending.returned (.agg cs.toArray) ∧ RdS (fun g => w.heap.size ≤ g) W' cs (Sf.st ⟨d3, x3, y3, z3, t3, f3, ag3, n3, bd3, ot3, ln3, cl3⟩) ∧ Pr en W' b s3 ∧ Turn [b] w W' := fun W' tE => ⟨[.int .i64 d3, .string x3, .string y3, .string z3, .string t3, .string f3, .slice P1 ag3.length q1, .int .i64 n3, .slice P2 bd3.length q2, .slice P3 ot3.length q3, .int .i64 ln3, .int .i64 cl3], rfl, (hF _ tE).1, (hF _ tE).2, hE _ tE⟩
      exact key _ (((((((((((((Turn.refl [r] w3).setCell (.inl (by simp)) _).setCell (.inl (by simp)) _).setCell (.inl (by simp)) _).setCell (.inl (by simp)) _).setCell (.inl (by simp)) _).setCell (.inl (by simp)) _).setCell (.inl (by simp)) _).setCell (.inl (by simp)) _).setCell (.inl (by simp)) _).setCell (.inl (by simp)) _).setCell (.inl (by simp)) _).setCell (.inl (by simp)) _)
    | false =>
      have HQ2 := Lib.hid hq2
      clear hq2
      go_wp2_with fail
      refine (pSkip_any en b s2 kTry _ rfl _ H2.out.pr).mono ?_
      rintro e3 w3 ⟨rfl, h3, t3⟩
      have H3 := Lib.hid (H2.out.call h3 t3)
      clear h3 t3
      obtain ⟨s3, es3⟩ : ∃ q, (skip en kTry s2).2 = q := ⟨_, rfl⟩
      rw [es3] at H3
      have HD3 := Lib.hid (show s3.deep = s.deep from es3 ▸ ((skip_le _ (en := en) (Le.refl s2)).1.trans HD2.out))
      have Hes3 := Lib.hid es3
      clear es3
      cases hq3 : (skip en kTry s2).1 with
      | true =>
        have HQ3 := Lib.hid hq3
        clear hq3
        go_wp2_with fail
        refine (tryW_any en b sb s3 ⟨0, e0, e0, e0, e0, e0, [], 0, [], [], pl, pc⟩ kk _ H3.out.pr H3.out.ss HST.out (by rw [HD3.out]; exact HHD.out) (by rw [HD3.out]; exact HHK.out)).mono ?_
        rintro e4 w4 ⟨rfl, h4⟩
        have H4 := Lib.hid (H3.out.callS h4)
        clear h4
        obtain ⟨p4, eb4⟩ : ∃ q, (tryW en (stmtN en kk) ⟨0, e0, e0, e0, e0, e0, [], 0, [], [], pl, pc⟩ s3).1 = q := ⟨_, rfl⟩
        rw [eb4] at H4
        obtain ⟨s4, ec4⟩ : ∃ q, (tryW en (stmtN en kk) ⟨0, e0, e0, e0, e0, e0, [], 0, [], [], pl, pc⟩ s3).2 = q := ⟨_, rfl⟩
        rw [ec4] at H4
        have Heb4 := Lib.hid eb4
        clear eb4
        have Hec4 := Lib.hid ec4
        clear ec4
        obtain ⟨d4, x4, y4, z4, t4, f4, ag4, n4, bd4, ot4, ln4, cl4⟩ := p4
        obtain ⟨V1, V2, V3, hSB⟩ := id H4.out.ss
        obtain ⟨P1, q1, rfl, _, _⟩ := id hSB.ag
        obtain ⟨P2, q2, rfl, _, _⟩ := id hSB.bd
        obtain ⟨P3, q3, rfl, _, _⟩ := id hSB.ot
        have m0 : w4.cell? ⟨sb, 0, none⟩ = some (.int .i64 d4) := cell_of_row w4 sb 0 _ _ _ hSB.blk
        have m1 : w4.cell? ⟨sb, 1, none⟩ = some (.string x4) := cell_of_row w4 sb 1 _ _ _ hSB.blk
        have m2 : w4.cell? ⟨sb, 2, none⟩ = some (.string y4) := cell_of_row w4 sb 2 _ _ _ hSB.blk
        have m3 : w4.cell? ⟨sb, 3, none⟩ = some (.string z4) := cell_of_row w4 sb 3 _ _ _ hSB.blk
        have m4 : w4.cell? ⟨sb, 4, none⟩ = some (.string t4) := cell_of_row w4 sb 4 _ _ _ hSB.blk
        have m5 : w4.cell? ⟨sb, 5, none⟩ = some (.string f4) := cell_of_row w4 sb 5 _ _ _ hSB.blk
        have m6 : w4.cell? ⟨sb, 6, none⟩ = some (.slice P1 ag4.length q1) := cell_of_row w4 sb 6 _ _ _ hSB.blk
        have m7 : w4.cell? ⟨sb, 7, none⟩ = some (.int .i64 n4) := cell_of_row w4 sb 7 _ _ _ hSB.blk
        have m8 : w4.cell? ⟨sb, 8, none⟩ = some (.slice P2 bd4.length q2) := cell_of_row w4 sb 8 _ _ _ hSB.blk
        have m9 : w4.cell? ⟨sb, 9, none⟩ = some (.slice P3 ot4.length q3) := cell_of_row w4 sb 9 _ _ _ hSB.blk
        have m10 : w4.cell? ⟨sb, 10, none⟩ = some (.int .i64 ln4) := cell_of_row w4 sb 10 _ _ _ hSB.blk
        have m11 : w4.cell? ⟨sb, 11, none⟩ = some (.int .i64 cl4) := cell_of_row w4 sb 11 _ _ _ hSB.blk
        have hrw := HRW.out w4 H4.out.tt
        have zz0 : w4.cell? ⟨r, 0, none⟩ = some (.int .i64 0) := cell_of_row w4 r 0 _ _ _ hrw
        have zf0 : w4.frozen? ⟨r, 0, none⟩ = false := frozen_of_row w4 r 0 _ _ hrw
        have zz1 : w4.cell? ⟨r, 1, none⟩ = some (.string ⟨#[]⟩) := cell_of_row w4 r 1 _ _ _ hrw
        have zf1 : w4.frozen? ⟨r, 1, none⟩ = false := frozen_of_row w4 r 1 _ _ hrw
        have zz2 : w4.cell? ⟨r, 2, none⟩ = some (.string ⟨#[]⟩) := cell_of_row w4 r 2 _ _ _ hrw
        have zf2 : w4.frozen? ⟨r, 2, none⟩ = false := frozen_of_row w4 r 2 _ _ hrw
        have zz3 : w4.cell? ⟨r, 3, none⟩ = some (.string ⟨#[]⟩) := cell_of_row w4 r 3 _ _ _ hrw
        have zf3 : w4.frozen? ⟨r, 3, none⟩ = false := frozen_of_row w4 r 3 _ _ hrw
        have zz4 : w4.cell? ⟨r, 4, none⟩ = some (.string ⟨#[]⟩) := cell_of_row w4 r 4 _ _ _ hrw
        have zf4 : w4.frozen? ⟨r, 4, none⟩ = false := frozen_of_row w4 r 4 _ _ hrw
        have zz5 : w4.cell? ⟨r, 5, none⟩ = some (.string ⟨#[]⟩) := cell_of_row w4 r 5 _ _ _ hrw
        have zf5 : w4.frozen? ⟨r, 5, none⟩ = false := frozen_of_row w4 r 5 _ _ hrw
        have zz6 : w4.cell? ⟨r, 6, none⟩ = some (.slice none 0 0) := cell_of_row w4 r 6 _ _ _ hrw
        have zf6 : w4.frozen? ⟨r, 6, none⟩ = false := frozen_of_row w4 r 6 _ _ hrw
        have zz7 : w4.cell? ⟨r, 7, none⟩ = some (.int .i64 0) := cell_of_row w4 r 7 _ _ _ hrw
        have zf7 : w4.frozen? ⟨r, 7, none⟩ = false := frozen_of_row w4 r 7 _ _ hrw
        have zz8 : w4.cell? ⟨r, 8, none⟩ = some (.slice none 0 0) := cell_of_row w4 r 8 _ _ _ hrw
        have zf8 : w4.frozen? ⟨r, 8, none⟩ = false := frozen_of_row w4 r 8 _ _ hrw
        have zz9 : w4.cell? ⟨r, 9, none⟩ = some (.slice none 0 0) := cell_of_row w4 r 9 _ _ _ hrw
        have zf9 : w4.frozen? ⟨r, 9, none⟩ = false := frozen_of_row w4 r 9 _ _ hrw
        have zz10 : w4.cell? ⟨r, 10, none⟩ = some (.int .i64 0) := cell_of_row w4 r 10 _ _ _ hrw
        have zf10 : w4.frozen? ⟨r, 10, none⟩ = false := frozen_of_row w4 r 10 _ _ hrw
        have zz11 : w4.cell? ⟨r, 11, none⟩ = some (.int .i64 0) := cell_of_row w4 r 11 _ _ _ hrw
        have zf11 : w4.frozen? ⟨r, 11, none⟩ = false := frozen_of_row w4 r 11 _ _ hrw
        have HSBF := Lib.hid hSB
        clear hSB hrw
        go_wp2_with fail
        refine bodyPost_ret (v := .agg #[.int .i64 d4, .string x4, .string y4, .string z4, .string t4, .string f4, .slice P1 ag4.length q1, .int .i64 n4, .slice P2 bd4.length q2, .slice P3 ot4.length q3, .int .i64 ln4, .int .i64 cl4]) (by simp [results, Tryz.results35, go_sem, zz0, zz1, zz2, zz3, zz4, zz5, zz6, zz7, zz8, zz9, zz10, zz11]) rfl ?_
        have EF : stmtF en (stmtN en kk) s = (⟨d4, x4, y4, z4, t4, f4, ag4, n4, bd4, ot4, ln4, cl4⟩, s4) := by
          refine Prod.ext ?_ ?_ <;> (unfold stmtF; simp only [HAT.out, sf0_mk, Hes1.out, HQ1.out, Hes2.out, HQ2.out, Hes3.out, HQ3.out, Heb4.out, Hec4.out, if_true, if_false, Bool.false_eq_true, reduceIte])
        rw [EF]
        have hE : ∀ W', Turn [r] w4 W' → Turn [b] w W' := fun W' t => ((HT2.out.more (by simp)).trans H4.out.tt (fun g hg => by have := HT2.out.size; have := HSZ.out; have := HR.out; simp at hg; rcases hg with rfl | rfl <;> simp <;> omega)).trans t (fun g hg => by have := HR.out; simp at hg; omega)
        have hF : ∀ W', Turn [r] w4 W' → RdS (fun g => w.heap.size ≤ g) W' [.int .i64 d4, .string x4, .string y4, .string z4, .string t4, .string f4, .slice P1 ag4.length q1, .int .i64 n4, .slice P2 bd4.length q2, .slice P3 ot4.length q3, .int .i64 ln4, .int .i64 cl4] (Sf.st ⟨d4, x4, y4, z4, t4, f4, ag4, n4, bd4, ot4, ln4, cl4⟩) ∧ Pr en W' b s4 := fun W' t => ⟨goodS.mono (goodS.turn (RdS.of HSBF.out.ag HSBF.out.bd HSBF.out.ot) t (fun g hg h => by simp at hg; omega)) (fun g hg _ => by have := HR.out; omega), H4.out.pr.turn t (by simp; omega)⟩
        have key : ∀ W', Turn [r] w4 W' → ∃ cs : List Value, Ending.returned (.agg #[.int .i64 d4, .string x4, .string y4, .string z4, .string t4, .string f4, .slice P1 ag4.length q1, .int .i64 n4, .slice P2 bd4.length q2, .slice P3 ot4.length q3, .int .i64 ln4, .int .i64 cl4]) = Ending.returned (.agg cs.toArray) ∧ RdS (fun g => w.heap.size ≤ g) W' cs (Sf.st ⟨d4, x4, y4, z4, t4, f4, ag4, n4, bd4, ot4, ln4, cl4⟩) ∧ Pr en W' b s4 ∧ Turn [b] w W' := fun W' tE => ⟨[.int .i64 d4, .string x4, .string y4, .string z4, .string t4, .string f4, .slice P1 ag4.length q1, .int .i64 n4, .slice P2 bd4.length q2, .slice P3 ot4.length q3, .int .i64 ln4, .int .i64 cl4], rfl, (hF _ tE).1, (hF _ tE).2, hE _ tE⟩
        exact key _ (((((((((((((Turn.refl [r] w4).setCell (.inl (by simp)) _).setCell (.inl (by simp)) _).setCell (.inl (by simp)) _).setCell (.inl (by simp)) _).setCell (.inl (by simp)) _).setCell (.inl (by simp)) _).setCell (.inl (by simp)) _).setCell (.inl (by simp)) _).setCell (.inl (by simp)) _).setCell (.inl (by simp)) _).setCell (.inl (by simp)) _).setCell (.inl (by simp)) _)
      | false =>
        have HQ3 := Lib.hid hq3
        clear hq3
        go_wp2_with fail
        refine (pSkip_any en b s3 kIf _ rfl _ H3.out.pr).mono ?_
        rintro e4 w4 ⟨rfl, h4, t4⟩
        have H4 := Lib.hid (H3.out.call h4 t4)
        clear h4 t4
        obtain ⟨s4, es4⟩ : ∃ q, (skip en kIf s3).2 = q := ⟨_, rfl⟩
        rw [es4] at H4
        have HD4 := Lib.hid (show s4.deep = s.deep from es4 ▸ ((skip_le _ (en := en) (Le.refl s3)).1.trans HD3.out))
        have Hes4 := Lib.hid es4
        clear es4
        cases hq4 : (skip en kIf s3).1 with
        | true =>
          have HQ4 := Lib.hid hq4
          clear hq4
          go_wp2_with fail
          refine (choiceW_any en b sb s4 ⟨0, e0, e0, e0, e0, e0, [], 0, [], [], pl, pc⟩ kk _ H4.out.pr H4.out.ss HST.out (by rw [HD4.out]; exact HHD.out) (by rw [HD4.out]; exact HHK.out)).mono ?_
          rintro e5 w5 ⟨rfl, h5⟩
          have H5 := Lib.hid (H4.out.callS h5)
          clear h5
          obtain ⟨p5, eb5⟩ : ∃ q, (choiceW en (stmtN en kk) ⟨0, e0, e0, e0, e0, e0, [], 0, [], [], pl, pc⟩ s4).1 = q := ⟨_, rfl⟩
          rw [eb5] at H5
          obtain ⟨s5, ec5⟩ : ∃ q, (choiceW en (stmtN en kk) ⟨0, e0, e0, e0, e0, e0, [], 0, [], [], pl, pc⟩ s4).2 = q := ⟨_, rfl⟩
          rw [ec5] at H5
          have Heb5 := Lib.hid eb5
          clear eb5
          have Hec5 := Lib.hid ec5
          clear ec5
          obtain ⟨d5, x5, y5, z5, t5, f5, ag5, n5, bd5, ot5, ln5, cl5⟩ := p5
          obtain ⟨V1, V2, V3, hSB⟩ := id H5.out.ss
          obtain ⟨P1, q1, rfl, _, _⟩ := id hSB.ag
          obtain ⟨P2, q2, rfl, _, _⟩ := id hSB.bd
          obtain ⟨P3, q3, rfl, _, _⟩ := id hSB.ot
          have m0 : w5.cell? ⟨sb, 0, none⟩ = some (.int .i64 d5) := cell_of_row w5 sb 0 _ _ _ hSB.blk
          have m1 : w5.cell? ⟨sb, 1, none⟩ = some (.string x5) := cell_of_row w5 sb 1 _ _ _ hSB.blk
          have m2 : w5.cell? ⟨sb, 2, none⟩ = some (.string y5) := cell_of_row w5 sb 2 _ _ _ hSB.blk
          have m3 : w5.cell? ⟨sb, 3, none⟩ = some (.string z5) := cell_of_row w5 sb 3 _ _ _ hSB.blk
          have m4 : w5.cell? ⟨sb, 4, none⟩ = some (.string t5) := cell_of_row w5 sb 4 _ _ _ hSB.blk
          have m5 : w5.cell? ⟨sb, 5, none⟩ = some (.string f5) := cell_of_row w5 sb 5 _ _ _ hSB.blk
          have m6 : w5.cell? ⟨sb, 6, none⟩ = some (.slice P1 ag5.length q1) := cell_of_row w5 sb 6 _ _ _ hSB.blk
          have m7 : w5.cell? ⟨sb, 7, none⟩ = some (.int .i64 n5) := cell_of_row w5 sb 7 _ _ _ hSB.blk
          have m8 : w5.cell? ⟨sb, 8, none⟩ = some (.slice P2 bd5.length q2) := cell_of_row w5 sb 8 _ _ _ hSB.blk
          have m9 : w5.cell? ⟨sb, 9, none⟩ = some (.slice P3 ot5.length q3) := cell_of_row w5 sb 9 _ _ _ hSB.blk
          have m10 : w5.cell? ⟨sb, 10, none⟩ = some (.int .i64 ln5) := cell_of_row w5 sb 10 _ _ _ hSB.blk
          have m11 : w5.cell? ⟨sb, 11, none⟩ = some (.int .i64 cl5) := cell_of_row w5 sb 11 _ _ _ hSB.blk
          have hrw := HRW.out w5 H5.out.tt
          have zz0 : w5.cell? ⟨r, 0, none⟩ = some (.int .i64 0) := cell_of_row w5 r 0 _ _ _ hrw
          have zf0 : w5.frozen? ⟨r, 0, none⟩ = false := frozen_of_row w5 r 0 _ _ hrw
          have zz1 : w5.cell? ⟨r, 1, none⟩ = some (.string ⟨#[]⟩) := cell_of_row w5 r 1 _ _ _ hrw
          have zf1 : w5.frozen? ⟨r, 1, none⟩ = false := frozen_of_row w5 r 1 _ _ hrw
          have zz2 : w5.cell? ⟨r, 2, none⟩ = some (.string ⟨#[]⟩) := cell_of_row w5 r 2 _ _ _ hrw
          have zf2 : w5.frozen? ⟨r, 2, none⟩ = false := frozen_of_row w5 r 2 _ _ hrw
          have zz3 : w5.cell? ⟨r, 3, none⟩ = some (.string ⟨#[]⟩) := cell_of_row w5 r 3 _ _ _ hrw
          have zf3 : w5.frozen? ⟨r, 3, none⟩ = false := frozen_of_row w5 r 3 _ _ hrw
          have zz4 : w5.cell? ⟨r, 4, none⟩ = some (.string ⟨#[]⟩) := cell_of_row w5 r 4 _ _ _ hrw
          have zf4 : w5.frozen? ⟨r, 4, none⟩ = false := frozen_of_row w5 r 4 _ _ hrw
          have zz5 : w5.cell? ⟨r, 5, none⟩ = some (.string ⟨#[]⟩) := cell_of_row w5 r 5 _ _ _ hrw
          have zf5 : w5.frozen? ⟨r, 5, none⟩ = false := frozen_of_row w5 r 5 _ _ hrw
          have zz6 : w5.cell? ⟨r, 6, none⟩ = some (.slice none 0 0) := cell_of_row w5 r 6 _ _ _ hrw
          have zf6 : w5.frozen? ⟨r, 6, none⟩ = false := frozen_of_row w5 r 6 _ _ hrw
          have zz7 : w5.cell? ⟨r, 7, none⟩ = some (.int .i64 0) := cell_of_row w5 r 7 _ _ _ hrw
          have zf7 : w5.frozen? ⟨r, 7, none⟩ = false := frozen_of_row w5 r 7 _ _ hrw
          have zz8 : w5.cell? ⟨r, 8, none⟩ = some (.slice none 0 0) := cell_of_row w5 r 8 _ _ _ hrw
          have zf8 : w5.frozen? ⟨r, 8, none⟩ = false := frozen_of_row w5 r 8 _ _ hrw
          have zz9 : w5.cell? ⟨r, 9, none⟩ = some (.slice none 0 0) := cell_of_row w5 r 9 _ _ _ hrw
          have zf9 : w5.frozen? ⟨r, 9, none⟩ = false := frozen_of_row w5 r 9 _ _ hrw
          have zz10 : w5.cell? ⟨r, 10, none⟩ = some (.int .i64 0) := cell_of_row w5 r 10 _ _ _ hrw
          have zf10 : w5.frozen? ⟨r, 10, none⟩ = false := frozen_of_row w5 r 10 _ _ hrw
          have zz11 : w5.cell? ⟨r, 11, none⟩ = some (.int .i64 0) := cell_of_row w5 r 11 _ _ _ hrw
          have zf11 : w5.frozen? ⟨r, 11, none⟩ = false := frozen_of_row w5 r 11 _ _ hrw
          have HSBF := Lib.hid hSB
          clear hSB hrw
          go_wp2_with fail
          refine bodyPost_ret (v := .agg #[.int .i64 d5, .string x5, .string y5, .string z5, .string t5, .string f5, .slice P1 ag5.length q1, .int .i64 n5, .slice P2 bd5.length q2, .slice P3 ot5.length q3, .int .i64 ln5, .int .i64 cl5]) (by simp [results, Tryz.results35, go_sem, zz0, zz1, zz2, zz3, zz4, zz5, zz6, zz7, zz8, zz9, zz10, zz11]) rfl ?_
          have EF : stmtF en (stmtN en kk) s = (⟨d5, x5, y5, z5, t5, f5, ag5, n5, bd5, ot5, ln5, cl5⟩, s5) := by
            refine Prod.ext ?_ ?_ <;> (unfold stmtF; simp only [HAT.out, sf0_mk, Hes1.out, HQ1.out, Hes2.out, HQ2.out, Hes3.out, HQ3.out, Hes4.out, HQ4.out, Heb5.out, Hec5.out, if_true, if_false, Bool.false_eq_true, reduceIte])
          rw [EF]
          have hE : ∀ W', Turn [r] w5 W' → Turn [b] w W' := fun W' t => ((HT2.out.more (by simp)).trans H5.out.tt (fun g hg => by have := HT2.out.size; have := HSZ.out; have := HR.out; simp at hg; rcases hg with rfl | rfl <;> simp <;> omega)).trans t (fun g hg => by have := HR.out; simp at hg; omega)
          have hF : ∀ W', Turn [r] w5 W' → RdS (fun g => w.heap.size ≤ g) W' [.int .i64 d5, .string x5, .string y5, .string z5, .string t5, .string f5, .slice P1 ag5.length q1, .int .i64 n5, .slice P2 bd5.length q2, .slice P3 ot5.length q3, .int .i64 ln5, .int .i64 cl5] (Sf.st ⟨d5, x5, y5, z5, t5, f5, ag5, n5, bd5, ot5, ln5, cl5⟩) ∧ Pr en W' b s5 := fun W' t => ⟨goodS.mono (goodS.turn (RdS.of HSBF.out.ag HSBF.out.bd HSBF.out.ot) t (fun g hg h => by simp at hg; omega)) (fun g hg _ => by have := HR.out; omega), H5.out.pr.turn t (by simp; omega)⟩
          have key : ∀ W', Turn [r] w5 W' → ∃ cs : List Value, Ending.returned (.agg #[.int .i64 d5, .string x5, .string y5, .string z5, .string t5, .string f5, .slice P1 ag5.length q1, .int .i64 n5, .slice P2 bd5.length q2, .slice P3 ot5.length q3, .int .i64 ln5, .int .i64 cl5]) = Ending.returned (.agg cs.toArray) ∧ RdS (fun g => w.heap.size ≤ g) W' cs (Sf.st ⟨d5, x5, y5, z5, t5, f5, ag5, n5, bd5, ot5, ln5, cl5⟩) ∧ Pr en W' b s5 ∧ Turn [b] w W' := fun W' tE => ⟨[.int .i64 d5, .string x5, .string y5, .string z5, .string t5, .string f5, .slice P1 ag5.length q1, .int .i64 n5, .slice P2 bd5.length q2, .slice P3 ot5.length q3, .int .i64 ln5, .int .i64 cl5], rfl, (hF _ tE).1, (hF _ tE).2, hE _ tE⟩
          exact key _ (((((((((((((Turn.refl [r] w5).setCell (.inl (by simp)) _).setCell (.inl (by simp)) _).setCell (.inl (by simp)) _).setCell (.inl (by simp)) _).setCell (.inl (by simp)) _).setCell (.inl (by simp)) _).setCell (.inl (by simp)) _).setCell (.inl (by simp)) _).setCell (.inl (by simp)) _).setCell (.inl (by simp)) _).setCell (.inl (by simp)) _).setCell (.inl (by simp)) _)
        | false =>
          have HQ4 := Lib.hid hq4
          clear hq4
          go_wp2_with fail
          refine (pSkip_any en b s4 kWhile _ rfl _ H4.out.pr).mono ?_
          rintro e5 w5 ⟨rfl, h5, t5⟩
          have H5 := Lib.hid (H4.out.call h5 t5)
          clear h5 t5
          obtain ⟨s5, es5⟩ : ∃ q, (skip en kWhile s4).2 = q := ⟨_, rfl⟩
          rw [es5] at H5
          have HD5 := Lib.hid (show s5.deep = s.deep from es5 ▸ ((skip_le _ (en := en) (Le.refl s4)).1.trans HD4.out))
          have Hes5 := Lib.hid es5
          clear es5
          cases hq5 : (skip en kWhile s4).1 with
          | true =>
            have HQ5 := Lib.hid hq5
            clear hq5
            go_wp2_with fail
            refine (loopW_any en b sb s5 ⟨0, e0, e0, e0, e0, e0, [], 0, [], [], pl, pc⟩ kk _ H5.out.pr H5.out.ss HST.out (by rw [HD5.out]; exact HHD.out) (by rw [HD5.out]; exact HHK.out)).mono ?_
            rintro e6 w6 ⟨rfl, h6⟩
            have H6 := Lib.hid (H5.out.callS h6)
            clear h6
            obtain ⟨p6, eb6⟩ : ∃ q, (loopW en (stmtN en kk) ⟨0, e0, e0, e0, e0, e0, [], 0, [], [], pl, pc⟩ s5).1 = q := ⟨_, rfl⟩
            rw [eb6] at H6
            obtain ⟨s6, ec6⟩ : ∃ q, (loopW en (stmtN en kk) ⟨0, e0, e0, e0, e0, e0, [], 0, [], [], pl, pc⟩ s5).2 = q := ⟨_, rfl⟩
            rw [ec6] at H6
            have Heb6 := Lib.hid eb6
            clear eb6
            have Hec6 := Lib.hid ec6
            clear ec6
            obtain ⟨d6, x6, y6, z6, t6, f6, ag6, n6, bd6, ot6, ln6, cl6⟩ := p6
            obtain ⟨V1, V2, V3, hSB⟩ := id H6.out.ss
            obtain ⟨P1, q1, rfl, _, _⟩ := id hSB.ag
            obtain ⟨P2, q2, rfl, _, _⟩ := id hSB.bd
            obtain ⟨P3, q3, rfl, _, _⟩ := id hSB.ot
            have m0 : w6.cell? ⟨sb, 0, none⟩ = some (.int .i64 d6) := cell_of_row w6 sb 0 _ _ _ hSB.blk
            have m1 : w6.cell? ⟨sb, 1, none⟩ = some (.string x6) := cell_of_row w6 sb 1 _ _ _ hSB.blk
            have m2 : w6.cell? ⟨sb, 2, none⟩ = some (.string y6) := cell_of_row w6 sb 2 _ _ _ hSB.blk
            have m3 : w6.cell? ⟨sb, 3, none⟩ = some (.string z6) := cell_of_row w6 sb 3 _ _ _ hSB.blk
            have m4 : w6.cell? ⟨sb, 4, none⟩ = some (.string t6) := cell_of_row w6 sb 4 _ _ _ hSB.blk
            have m5 : w6.cell? ⟨sb, 5, none⟩ = some (.string f6) := cell_of_row w6 sb 5 _ _ _ hSB.blk
            have m6 : w6.cell? ⟨sb, 6, none⟩ = some (.slice P1 ag6.length q1) := cell_of_row w6 sb 6 _ _ _ hSB.blk
            have m7 : w6.cell? ⟨sb, 7, none⟩ = some (.int .i64 n6) := cell_of_row w6 sb 7 _ _ _ hSB.blk
            have m8 : w6.cell? ⟨sb, 8, none⟩ = some (.slice P2 bd6.length q2) := cell_of_row w6 sb 8 _ _ _ hSB.blk
            have m9 : w6.cell? ⟨sb, 9, none⟩ = some (.slice P3 ot6.length q3) := cell_of_row w6 sb 9 _ _ _ hSB.blk
            have m10 : w6.cell? ⟨sb, 10, none⟩ = some (.int .i64 ln6) := cell_of_row w6 sb 10 _ _ _ hSB.blk
            have m11 : w6.cell? ⟨sb, 11, none⟩ = some (.int .i64 cl6) := cell_of_row w6 sb 11 _ _ _ hSB.blk
            have hrw := HRW.out w6 H6.out.tt
            have zz0 : w6.cell? ⟨r, 0, none⟩ = some (.int .i64 0) := cell_of_row w6 r 0 _ _ _ hrw
            have zf0 : w6.frozen? ⟨r, 0, none⟩ = false := frozen_of_row w6 r 0 _ _ hrw
            have zz1 : w6.cell? ⟨r, 1, none⟩ = some (.string ⟨#[]⟩) := cell_of_row w6 r 1 _ _ _ hrw
            have zf1 : w6.frozen? ⟨r, 1, none⟩ = false := frozen_of_row w6 r 1 _ _ hrw
            have zz2 : w6.cell? ⟨r, 2, none⟩ = some (.string ⟨#[]⟩) := cell_of_row w6 r 2 _ _ _ hrw
            have zf2 : w6.frozen? ⟨r, 2, none⟩ = false := frozen_of_row w6 r 2 _ _ hrw
            have zz3 : w6.cell? ⟨r, 3, none⟩ = some (.string ⟨#[]⟩) := cell_of_row w6 r 3 _ _ _ hrw
            have zf3 : w6.frozen? ⟨r, 3, none⟩ = false := frozen_of_row w6 r 3 _ _ hrw
            have zz4 : w6.cell? ⟨r, 4, none⟩ = some (.string ⟨#[]⟩) := cell_of_row w6 r 4 _ _ _ hrw
            have zf4 : w6.frozen? ⟨r, 4, none⟩ = false := frozen_of_row w6 r 4 _ _ hrw
            have zz5 : w6.cell? ⟨r, 5, none⟩ = some (.string ⟨#[]⟩) := cell_of_row w6 r 5 _ _ _ hrw
            have zf5 : w6.frozen? ⟨r, 5, none⟩ = false := frozen_of_row w6 r 5 _ _ hrw
            have zz6 : w6.cell? ⟨r, 6, none⟩ = some (.slice none 0 0) := cell_of_row w6 r 6 _ _ _ hrw
            have zf6 : w6.frozen? ⟨r, 6, none⟩ = false := frozen_of_row w6 r 6 _ _ hrw
            have zz7 : w6.cell? ⟨r, 7, none⟩ = some (.int .i64 0) := cell_of_row w6 r 7 _ _ _ hrw
            have zf7 : w6.frozen? ⟨r, 7, none⟩ = false := frozen_of_row w6 r 7 _ _ hrw
            have zz8 : w6.cell? ⟨r, 8, none⟩ = some (.slice none 0 0) := cell_of_row w6 r 8 _ _ _ hrw
            have zf8 : w6.frozen? ⟨r, 8, none⟩ = false := frozen_of_row w6 r 8 _ _ hrw
            have zz9 : w6.cell? ⟨r, 9, none⟩ = some (.slice none 0 0) := cell_of_row w6 r 9 _ _ _ hrw
            have zf9 : w6.frozen? ⟨r, 9, none⟩ = false := frozen_of_row w6 r 9 _ _ hrw
            have zz10 : w6.cell? ⟨r, 10, none⟩ = some (.int .i64 0) := cell_of_row w6 r 10 _ _ _ hrw
            have zf10 : w6.frozen? ⟨r, 10, none⟩ = false := frozen_of_row w6 r 10 _ _ hrw
            have zz11 : w6.cell? ⟨r, 11, none⟩ = some (.int .i64 0) := cell_of_row w6 r 11 _ _ _ hrw
            have zf11 : w6.frozen? ⟨r, 11, none⟩ = false := frozen_of_row w6 r 11 _ _ hrw
            have HSBF := Lib.hid hSB
            clear hSB hrw
            go_wp2_with fail
            refine bodyPost_ret (v := .agg #[.int .i64 d6, .string x6, .string y6, .string z6, .string t6, .string f6, .slice P1 ag6.length q1, .int .i64 n6, .slice P2 bd6.length q2, .slice P3 ot6.length q3, .int .i64 ln6, .int .i64 cl6]) (by simp [results, Tryz.results35, go_sem, zz0, zz1, zz2, zz3, zz4, zz5, zz6, zz7, zz8, zz9, zz10, zz11]) rfl ?_
            have EF : stmtF en (stmtN en kk) s = (⟨d6, x6, y6, z6, t6, f6, ag6, n6, bd6, ot6, ln6, cl6⟩, s6) := by
              refine Prod.ext ?_ ?_ <;> (unfold stmtF; simp only [HAT.out, sf0_mk, Hes1.out, HQ1.out, Hes2.out, HQ2.out, Hes3.out, HQ3.out, Hes4.out, HQ4.out, Hes5.out, HQ5.out, Heb6.out, Hec6.out, if_true, if_false, Bool.false_eq_true, reduceIte])
            rw [EF]
            have hE : ∀ W', Turn [r] w6 W' → Turn [b] w W' := fun W' t => ((HT2.out.more (by simp)).trans H6.out.tt (fun g hg => by have := HT2.out.size; have := HSZ.out; have := HR.out; simp at hg; rcases hg with rfl | rfl <;> simp <;> omega)).trans t (fun g hg => by have := HR.out; simp at hg; omega)
            have hF : ∀ W', Turn [r] w6 W' → RdS (fun g => w.heap.size ≤ g) W' [.int .i64 d6, .string x6, .string y6, .string z6, .string t6, .string f6, .slice P1 ag6.length q1, .int .i64 n6, .slice P2 bd6.length q2, .slice P3 ot6.length q3, .int .i64 ln6, .int .i64 cl6] (Sf.st ⟨d6, x6, y6, z6, t6, f6, ag6, n6, bd6, ot6, ln6, cl6⟩) ∧ Pr en W' b s6 := fun W' t => ⟨goodS.mono (goodS.turn (RdS.of HSBF.out.ag HSBF.out.bd HSBF.out.ot) t (fun g hg h => by simp at hg; omega)) (fun g hg _ => by have := HR.out; omega), H6.out.pr.turn t (by simp; omega)⟩
            have key : ∀ W', Turn [r] w6 W' → ∃ cs : List Value, Ending.returned (.agg #[.int .i64 d6, .string x6, .string y6, .string z6, .string t6, .string f6, .slice P1 ag6.length q1, .int .i64 n6, .slice P2 bd6.length q2, .slice P3 ot6.length q3, .int .i64 ln6, .int .i64 cl6]) = Ending.returned (.agg cs.toArray) ∧ RdS (fun g => w.heap.size ≤ g) W' cs (Sf.st ⟨d6, x6, y6, z6, t6, f6, ag6, n6, bd6, ot6, ln6, cl6⟩) ∧ Pr en W' b s6 ∧ Turn [b] w W' := fun W' tE => ⟨[.int .i64 d6, .string x6, .string y6, .string z6, .string t6, .string f6, .slice P1 ag6.length q1, .int .i64 n6, .slice P2 bd6.length q2, .slice P3 ot6.length q3, .int .i64 ln6, .int .i64 cl6], rfl, (hF _ tE).1, (hF _ tE).2, hE _ tE⟩
            exact key _ (((((((((((((Turn.refl [r] w6).setCell (.inl (by simp)) _).setCell (.inl (by simp)) _).setCell (.inl (by simp)) _).setCell (.inl (by simp)) _).setCell (.inl (by simp)) _).setCell (.inl (by simp)) _).setCell (.inl (by simp)) _).setCell (.inl (by simp)) _).setCell (.inl (by simp)) _).setCell (.inl (by simp)) _).setCell (.inl (by simp)) _).setCell (.inl (by simp)) _)
          | false =>
            have HQ5 := Lib.hid hq5
            clear hq5
            go_wp2_with fail
            refine (named_any en b sb s5 ⟨0, e0, e0, e0, e0, e0, [], 0, [], [], pl, pc⟩ _ H5.out.pr H5.out.ss).mono ?_
            rintro e6 w6 ⟨rfl, h6⟩
            have H6 := Lib.hid (H5.out.callS h6)
            clear h6
            obtain ⟨p6, eb6⟩ : ∃ q, (named en ⟨0, e0, e0, e0, e0, e0, [], 0, [], [], pl, pc⟩ s5).1 = q := ⟨_, rfl⟩
            rw [eb6] at H6
            obtain ⟨s6, ec6⟩ : ∃ q, (named en ⟨0, e0, e0, e0, e0, e0, [], 0, [], [], pl, pc⟩ s5).2 = q := ⟨_, rfl⟩
            rw [ec6] at H6
            have Heb6 := Lib.hid eb6
            clear eb6
            have Hec6 := Lib.hid ec6
            clear ec6
            obtain ⟨d6, x6, y6, z6, t6, f6, ag6, n6, bd6, ot6, ln6, cl6⟩ := p6
            obtain ⟨V1, V2, V3, hSB⟩ := id H6.out.ss
            obtain ⟨P1, q1, rfl, _, _⟩ := id hSB.ag
            obtain ⟨P2, q2, rfl, _, _⟩ := id hSB.bd
            obtain ⟨P3, q3, rfl, _, _⟩ := id hSB.ot
            have m0 : w6.cell? ⟨sb, 0, none⟩ = some (.int .i64 d6) := cell_of_row w6 sb 0 _ _ _ hSB.blk
            have m1 : w6.cell? ⟨sb, 1, none⟩ = some (.string x6) := cell_of_row w6 sb 1 _ _ _ hSB.blk
            have m2 : w6.cell? ⟨sb, 2, none⟩ = some (.string y6) := cell_of_row w6 sb 2 _ _ _ hSB.blk
            have m3 : w6.cell? ⟨sb, 3, none⟩ = some (.string z6) := cell_of_row w6 sb 3 _ _ _ hSB.blk
            have m4 : w6.cell? ⟨sb, 4, none⟩ = some (.string t6) := cell_of_row w6 sb 4 _ _ _ hSB.blk
            have m5 : w6.cell? ⟨sb, 5, none⟩ = some (.string f6) := cell_of_row w6 sb 5 _ _ _ hSB.blk
            have m6 : w6.cell? ⟨sb, 6, none⟩ = some (.slice P1 ag6.length q1) := cell_of_row w6 sb 6 _ _ _ hSB.blk
            have m7 : w6.cell? ⟨sb, 7, none⟩ = some (.int .i64 n6) := cell_of_row w6 sb 7 _ _ _ hSB.blk
            have m8 : w6.cell? ⟨sb, 8, none⟩ = some (.slice P2 bd6.length q2) := cell_of_row w6 sb 8 _ _ _ hSB.blk
            have m9 : w6.cell? ⟨sb, 9, none⟩ = some (.slice P3 ot6.length q3) := cell_of_row w6 sb 9 _ _ _ hSB.blk
            have m10 : w6.cell? ⟨sb, 10, none⟩ = some (.int .i64 ln6) := cell_of_row w6 sb 10 _ _ _ hSB.blk
            have m11 : w6.cell? ⟨sb, 11, none⟩ = some (.int .i64 cl6) := cell_of_row w6 sb 11 _ _ _ hSB.blk
            have hrw := HRW.out w6 H6.out.tt
            have zz0 : w6.cell? ⟨r, 0, none⟩ = some (.int .i64 0) := cell_of_row w6 r 0 _ _ _ hrw
            have zf0 : w6.frozen? ⟨r, 0, none⟩ = false := frozen_of_row w6 r 0 _ _ hrw
            have zz1 : w6.cell? ⟨r, 1, none⟩ = some (.string ⟨#[]⟩) := cell_of_row w6 r 1 _ _ _ hrw
            have zf1 : w6.frozen? ⟨r, 1, none⟩ = false := frozen_of_row w6 r 1 _ _ hrw
            have zz2 : w6.cell? ⟨r, 2, none⟩ = some (.string ⟨#[]⟩) := cell_of_row w6 r 2 _ _ _ hrw
            have zf2 : w6.frozen? ⟨r, 2, none⟩ = false := frozen_of_row w6 r 2 _ _ hrw
            have zz3 : w6.cell? ⟨r, 3, none⟩ = some (.string ⟨#[]⟩) := cell_of_row w6 r 3 _ _ _ hrw
            have zf3 : w6.frozen? ⟨r, 3, none⟩ = false := frozen_of_row w6 r 3 _ _ hrw
            have zz4 : w6.cell? ⟨r, 4, none⟩ = some (.string ⟨#[]⟩) := cell_of_row w6 r 4 _ _ _ hrw
            have zf4 : w6.frozen? ⟨r, 4, none⟩ = false := frozen_of_row w6 r 4 _ _ hrw
            have zz5 : w6.cell? ⟨r, 5, none⟩ = some (.string ⟨#[]⟩) := cell_of_row w6 r 5 _ _ _ hrw
            have zf5 : w6.frozen? ⟨r, 5, none⟩ = false := frozen_of_row w6 r 5 _ _ hrw
            have zz6 : w6.cell? ⟨r, 6, none⟩ = some (.slice none 0 0) := cell_of_row w6 r 6 _ _ _ hrw
            have zf6 : w6.frozen? ⟨r, 6, none⟩ = false := frozen_of_row w6 r 6 _ _ hrw
            have zz7 : w6.cell? ⟨r, 7, none⟩ = some (.int .i64 0) := cell_of_row w6 r 7 _ _ _ hrw
            have zf7 : w6.frozen? ⟨r, 7, none⟩ = false := frozen_of_row w6 r 7 _ _ hrw
            have zz8 : w6.cell? ⟨r, 8, none⟩ = some (.slice none 0 0) := cell_of_row w6 r 8 _ _ _ hrw
            have zf8 : w6.frozen? ⟨r, 8, none⟩ = false := frozen_of_row w6 r 8 _ _ hrw
            have zz9 : w6.cell? ⟨r, 9, none⟩ = some (.slice none 0 0) := cell_of_row w6 r 9 _ _ _ hrw
            have zf9 : w6.frozen? ⟨r, 9, none⟩ = false := frozen_of_row w6 r 9 _ _ hrw
            have zz10 : w6.cell? ⟨r, 10, none⟩ = some (.int .i64 0) := cell_of_row w6 r 10 _ _ _ hrw
            have zf10 : w6.frozen? ⟨r, 10, none⟩ = false := frozen_of_row w6 r 10 _ _ hrw
            have zz11 : w6.cell? ⟨r, 11, none⟩ = some (.int .i64 0) := cell_of_row w6 r 11 _ _ _ hrw
            have zf11 : w6.frozen? ⟨r, 11, none⟩ = false := frozen_of_row w6 r 11 _ _ hrw
            have HSBF := Lib.hid hSB
            clear hSB hrw
            go_wp2_with fail
            refine bodyPost_ret (v := .agg #[.int .i64 d6, .string x6, .string y6, .string z6, .string t6, .string f6, .slice P1 ag6.length q1, .int .i64 n6, .slice P2 bd6.length q2, .slice P3 ot6.length q3, .int .i64 ln6, .int .i64 cl6]) (by simp [results, Tryz.results35, go_sem, zz0, zz1, zz2, zz3, zz4, zz5, zz6, zz7, zz8, zz9, zz10, zz11]) rfl ?_
            have EF : stmtF en (stmtN en kk) s = (⟨d6, x6, y6, z6, t6, f6, ag6, n6, bd6, ot6, ln6, cl6⟩, s6) := by
              refine Prod.ext ?_ ?_ <;> (unfold stmtF; simp only [HAT.out, sf0_mk, Hes1.out, HQ1.out, Hes2.out, HQ2.out, Hes3.out, HQ3.out, Hes4.out, HQ4.out, Hes5.out, HQ5.out, Heb6.out, Hec6.out, if_true, if_false, Bool.false_eq_true, reduceIte])
            rw [EF]
            have hE : ∀ W', Turn [r] w6 W' → Turn [b] w W' := fun W' t => ((HT2.out.more (by simp)).trans H6.out.tt (fun g hg => by have := HT2.out.size; have := HSZ.out; have := HR.out; simp at hg; rcases hg with rfl | rfl <;> simp <;> omega)).trans t (fun g hg => by have := HR.out; simp at hg; omega)
            have hF : ∀ W', Turn [r] w6 W' → RdS (fun g => w.heap.size ≤ g) W' [.int .i64 d6, .string x6, .string y6, .string z6, .string t6, .string f6, .slice P1 ag6.length q1, .int .i64 n6, .slice P2 bd6.length q2, .slice P3 ot6.length q3, .int .i64 ln6, .int .i64 cl6] (Sf.st ⟨d6, x6, y6, z6, t6, f6, ag6, n6, bd6, ot6, ln6, cl6⟩) ∧ Pr en W' b s6 := fun W' t => ⟨goodS.mono (goodS.turn (RdS.of HSBF.out.ag HSBF.out.bd HSBF.out.ot) t (fun g hg h => by simp at hg; omega)) (fun g hg _ => by have := HR.out; omega), H6.out.pr.turn t (by simp; omega)⟩
            have key : ∀ W', Turn [r] w6 W' → ∃ cs : List Value, Ending.returned (.agg #[.int .i64 d6, .string x6, .string y6, .string z6, .string t6, .string f6, .slice P1 ag6.length q1, .int .i64 n6, .slice P2 bd6.length q2, .slice P3 ot6.length q3, .int .i64 ln6, .int .i64 cl6]) = Ending.returned (.agg cs.toArray) ∧ RdS (fun g => w.heap.size ≤ g) W' cs (Sf.st ⟨d6, x6, y6, z6, t6, f6, ag6, n6, bd6, ot6, ln6, cl6⟩) ∧ Pr en W' b s6 ∧ Turn [b] w W' := fun W' tE => ⟨[.int .i64 d6, .string x6, .string y6, .string z6, .string t6, .string f6, .slice P1 ag6.length q1, .int .i64 n6, .slice P2 bd6.length q2, .slice P3 ot6.length q3, .int .i64 ln6, .int .i64 cl6], rfl, (hF _ tE).1, (hF _ tE).2, hE _ tE⟩
            exact key _ (((((((((((((Turn.refl [r] w6).setCell (.inl (by simp)) _).setCell (.inl (by simp)) _).setCell (.inl (by simp)) _).setCell (.inl (by simp)) _).setCell (.inl (by simp)) _).setCell (.inl (by simp)) _).setCell (.inl (by simp)) _).setCell (.inl (by simp)) _).setCell (.inl (by simp)) _).setCell (.inl (by simp)) _).setCell (.inl (by simp)) _).setCell (.inl (by simp)) _)

theorem st_said (en : Nat × Nat) : ∀ n, StSaid en n
  | 0 => fun b s w hP hd hk => by omega
  | n + 1 => fun b s w hP hd hk => stmt_any en b n s w hP (st_said en n) hd (by omega)
end Go.Proofs.YtnmhcgkccchacaaGreatDoor

/- A variable, a method that is being read: its block. -/
set_option linter.unusedSimpArgs false
set_option linter.unusedVariables false
set_option maxRecDepth 100000
namespace Go.Proofs.YtnmhcgkccchacaaGreatDoor
open Go.RowKit

def vbC (p : Vf) : Array Value := #[.string p.ty, .string p.nm, .int .i64 p.ln, .int .i64 p.cl]
structure Vb (w : World) (b vb : Nat) (p : Vf) : Prop where
  gt : b < vb
  blk : w.heap[vb]? = some (.cells (vbC p) 107 (0, 0))
structure StV (en : Nat × Nat) (w0 w : World) (b sb : Nat) (s : RS) (p : Vf) : Prop where
  pr : Pr en w b s
  ss : Vb w b sb p
  tt : Turn [b, sb] w0 w
section
variable {en : Nat × Nat} {w0 w w' : World} {b sb : Nat} {s s' : RS} {p p' : Vf}
theorem Vb.cells (h : Vb w b sb p) : (∀ i, w.cell? ⟨sb, i, none⟩ = (vbC p)[i]?) ∧ ∀ i, w.frozen? ⟨sb, i, none⟩ = false := ⟨fun i => cell_of_row w sb i _ _ _ h.blk, fun i => frozen_of_row w sb i _ _ h.blk⟩
theorem Vb.lt (h : Vb w b sb p) : sb < w.heap.size := (Array.getElem?_eq_some_iff.1 h.blk).1
theorem StV.mk0 (h : Pr en w b s) (k : Vb w b sb p) : StV en w w b sb s p := ⟨h, k, Turn.refl _ _⟩
theorem StV.call (h : StV en w0 w b sb s p) (k : Pr en w' b s') (t : Turn [b] w w') : StV en w0 w' b sb s' p := ⟨k, ⟨h.ss.gt, t.heap h.ss.blk (by simp; have := h.ss.gt; omega)⟩, h.tt.trans t (fun g hg => .inl (by simp at hg; simp [hg]))⟩
theorem StV.up (h : StV en w0 w b sb s p) (t : Turn [] w w') : StV en w0 w' b sb s p := ⟨h.pr.up t, ⟨h.ss.gt, t.heap h.ss.blk (by simp)⟩, h.tt.trans' t⟩
theorem StV.set (h : StV en w0 w b sb s p) {i : Nat} {u : Value} (e : (vbC p).setIfInBounds i u = vbC p') : StV en w0 (w.setCell ⟨sb, i, none⟩ u) b sb s p' :=
  ⟨h.pr.turn (F := [sb]) ((Turn.refl [sb] w).setCell (.inl (by simp)) _) (by simp; exact h.ss.gt), ⟨h.ss.gt, rset h.ss.blk e⟩, h.tt.setCell (.inl (by simp)) _⟩
theorem StV.set_ty (h : StV en w0 w b sb s p) (u : ByteArray) : StV en w0 (w.setCell ⟨sb, 0, none⟩ (.string u)) b sb s { p with ty := u } := h.set rfl
theorem StV.set_nm (h : StV en w0 w b sb s p) (u : ByteArray) : StV en w0 (w.setCell ⟨sb, 1, none⟩ (.string u)) b sb s { p with nm := u } := h.set rfl
end

def mbC (p : Mf) (V1 V2 V3 : Value) : Array Value := #[.string p.ret, .string p.nm, .bool p.stat, .bool p.bare, V1, V2, V3, .int .i64 p.ln, .int .i64 p.cl]
structure MB (w : World) (b sb : Nat) (p : Mf) (V1 V2 V3 : Value) : Prop where
  gt : b < sb
  blk : w.heap[sb]? = some (.cells (mbC p V1 V2 V3) 29 (0, 0))
  ps : RdV 4 RdW (fun g => sb < g) w V1 p.ps
  ls : RdV 4 RdW (fun g => sb < g) w V2 p.ls
  bd : RdV 12 RdS (fun g => sb < g) w V3 p.bd
/-- The block sb, behind b, holds the method p. -/
def Mb (w : World) (b sb : Nat) (p : Mf) : Prop := ∃ V1 V2 V3, MB w b sb p V1 V2 V3
structure StM (en : Nat × Nat) (w0 w : World) (b sb : Nat) (s : RS) (p : Mf) : Prop where
  pr : Pr en w b s
  ss : Mb w b sb p
  tt : Turn [b, sb] w0 w
section
variable {en : Nat × Nat} {w0 w w' : World} {b sb : Nat} {s s' : RS} {p p' : Mf}
theorem Mb.turn {F : List Nat} (h : Mb w b sb p) (t : Turn F w w') (hF : ∀ g ∈ F, g < sb) : Mb w' b sb p := by
  obtain ⟨V1, V2, V3, h⟩ := h
  exact ⟨V1, V2, V3, h.gt, t.heap h.blk (fun hg => Nat.lt_irrefl _ (hF _ hg)), h.ps.turn goodW t (fun g hg h1 => by have := hF g hg; omega), h.ls.turn goodW t (fun g hg h1 => by have := hF g hg; omega), h.bd.turn goodS t (fun g hg h1 => by have := hF g hg; omega)⟩
theorem Mb.gt (h : Mb w b sb p) : b < sb := by
  obtain ⟨V1, V2, V3, h⟩ := h
  exact h.gt
theorem Mb.lt (h : Mb w b sb p) : sb < w.heap.size := by
  obtain ⟨V1, V2, V3, h⟩ := h
  exact (Array.getElem?_eq_some_iff.1 h.blk).1
theorem Mb.cells (h : Mb w b sb p) : ∃ V1 V2 V3, (∀ i, w.cell? ⟨sb, i, none⟩ = (mbC p V1 V2 V3)[i]?) ∧ ∀ i, w.frozen? ⟨sb, i, none⟩ = false := by
  obtain ⟨V1, V2, V3, h⟩ := h
  exact ⟨V1, V2, V3, fun i => cell_of_row w sb i _ _ _ h.blk, fun i => frozen_of_row w sb i _ _ h.blk⟩
theorem Mb.set0 {i : Nat} {u : Value} (h : Mb w b sb p) (e : ∀ V1 V2 V3, (mbC p V1 V2 V3).setIfInBounds i u = mbC p' V1 V2 V3) (e1 : p'.ps = p.ps) (e2 : p'.ls = p.ls) (e3 : p'.bd = p.bd) : Mb (w.setCell ⟨sb, i, none⟩ u) b sb p' := by
  obtain ⟨V1, V2, V3, h⟩ := h
  have t : Turn [sb] w (w.setCell ⟨sb, i, none⟩ u) := (Turn.refl [sb] w).setCell (.inl (by simp)) _
  exact ⟨V1, V2, V3, h.gt, rset h.blk (e V1 V2 V3), by rw [e1]; exact h.ps.turn goodW t (by simp), by rw [e2]; exact h.ls.turn goodW t (by simp), by rw [e3]; exact h.bd.turn goodS t (by simp)⟩
theorem StM.mk0 (h : Pr en w b s) (k : Mb w b sb p) : StM en w w b sb s p := ⟨h, k, Turn.refl _ _⟩
theorem StM.call (h : StM en w0 w b sb s p) (k : Pr en w' b s') (t : Turn [b] w w') : StM en w0 w' b sb s' p := ⟨k, h.ss.turn t (by simp; exact h.ss.gt), h.tt.trans t (fun g hg => .inl (by simp at hg; simp [hg]))⟩
theorem StM.up (h : StM en w0 w b sb s p) (t : Turn [] w w') : StM en w0 w' b sb s p := ⟨h.pr.up t, h.ss.turn t (by simp), h.tt.trans' t⟩
theorem StM.callS (h : StM en w0 w b sb s p) (k : StM en w w' b sb s' p') : StM en w0 w' b sb s' p' := ⟨k.pr, k.ss, h.tt.trans k.tt (fun g hg => .inl hg)⟩
theorem StM.set (h : StM en w0 w b sb s p) {i : Nat} {u : Value} (k : Mb (w.setCell ⟨sb, i, none⟩ u) b sb p') : StM en w0 (w.setCell ⟨sb, i, none⟩ u) b sb s p' :=
  ⟨h.pr.turn (F := [sb]) ((Turn.refl [sb] w).setCell (.inl (by simp)) _) (by simp; exact h.ss.gt), k, h.tt.setCell (.inl (by simp)) _⟩
theorem StM.set_ret (h : StM en w0 w b sb s p) (u : ByteArray) : StM en w0 (w.setCell ⟨sb, 0, none⟩ (.string u)) b sb s { p with ret := u } := h.set (h.ss.set0 (fun _ _ _ => rfl) rfl rfl rfl)
theorem StM.set_nm (h : StM en w0 w b sb s p) (u : ByteArray) : StM en w0 (w.setCell ⟨sb, 1, none⟩ (.string u)) b sb s { p with nm := u } := h.set (h.ss.set0 (fun _ _ _ => rfl) rfl rfl rfl)
theorem StM.set_stat (h : StM en w0 w b sb s p) (u : Bool) : StM en w0 (w.setCell ⟨sb, 2, none⟩ (.bool u)) b sb s { p with stat := u } := h.set (h.ss.set0 (fun _ _ _ => rfl) rfl rfl rfl)
theorem StM.set_ps (h : StM en w0 w b sb s p) {V : Value} {l : List Vf} (k : RdV 4 RdW (fun g => sb < g) w V l) : StM en w0 (w.setCell ⟨sb, 4, none⟩ V) b sb s { p with ps := l } := by
  refine h.set ?_
  obtain ⟨V1, V2, V3, h⟩ := h.ss
  have t : Turn [sb] w (w.setCell ⟨sb, 4, none⟩ V) := (Turn.refl [sb] w).setCell (.inl (by simp)) _
  exact ⟨V, V2, V3, h.gt, rset h.blk rfl, k.turn goodW t (by simp), h.ls.turn goodW t (by simp), h.bd.turn goodS t (by simp)⟩
theorem StM.set_ls (h : StM en w0 w b sb s p) {V : Value} {l : List Vf} (k : RdV 4 RdW (fun g => sb < g) w V l) : StM en w0 (w.setCell ⟨sb, 5, none⟩ V) b sb s { p with ls := l } := by
  refine h.set ?_
  obtain ⟨V1, V2, V3, h⟩ := h.ss
  have t : Turn [sb] w (w.setCell ⟨sb, 5, none⟩ V) := (Turn.refl [sb] w).setCell (.inl (by simp)) _
  exact ⟨V1, V, V3, h.gt, rset h.blk rfl, h.ps.turn goodW t (by simp), k.turn goodW t (by simp), h.bd.turn goodS t (by simp)⟩
theorem StM.set_bd (h : StM en w0 w b sb s p) {V : Value} {l : List St} (k : RdV 12 RdS (fun g => sb < g) w V l) : StM en w0 (w.setCell ⟨sb, 6, none⟩ V) b sb s { p with bd := l } := by
  refine h.set ?_
  obtain ⟨V1, V2, V3, h⟩ := h.ss
  have t : Turn [sb] w (w.setCell ⟨sb, 6, none⟩ V) := (Turn.refl [sb] w).setCell (.inl (by simp)) _
  exact ⟨V1, V2, V, h.gt, rset h.blk rfl, h.ps.turn goodW t (by simp), h.ls.turn goodW t (by simp), k.turn goodS t (by simp)⟩
end
theorem mf0_mk (a c : Nat) : mf0 (a, c) = ⟨e0, e0, false, false, [], [], [], (a : Int), (c : Int)⟩ := rfl
end Go.Proofs.YtnmhcgkccchacaaGreatDoor

/- A variable. Printed by gen8.py. -/
set_option linter.unusedSimpArgs false
set_option linter.unusedVariables false
set_option maxRecDepth 100000
namespace Go.Proofs.YtnmhcgkccchacaaGreatDoor
open Go.RowKit

set_option maxHeartbeats 12800000 in
theorem variable_any (en : Nat × Nat) (b : Nat) (s : RS) (w : World) (hP : Pr en w b s) :
    Calls Tryz.prog 154 #[.pointer (some ⟨b, 0, none⟩)] w fun e w' => e = .returned (.agg #[.string (variable' en s).1.ty, .string (variable' en s).1.nm, .int .i64 (variable' en s).1.ln, .int .i64 (variable' en s).1.cl]) ∧ Pr en w' b (variable' en s).2 ∧ Turn [b] w w' := by
  have hbl := hP.lt
  obtain ⟨W1, hW1⟩ : ∃ W1, w.alloc (.cells #[.string ⟨#[]⟩, .string ⟨#[]⟩, .int .i64 0, .int .i64 0] 107) = W1 := ⟨_, rfl⟩
  obtain ⟨r, hr⟩ : ∃ r, w.heap.size = r := ⟨_, rfl⟩
  have tW1 : Turn [] w W1 := by rw [← hW1]; exact (Turn.refl [] w).alloc _
  have rW1 : W1.heap[r]? = some (.cells #[.string ⟨#[]⟩, .string ⟨#[]⟩, .int .i64 0, .int .i64 0] 107 (0, 0)) := by rw [← hW1, ← hr]; exact heap_alloc_new w _
  have sW1 : W1.heap.size = r + 1 := by rw [← hW1, ← hr]; simp
  have HW1 := Lib.hid hW1
  have HR := Lib.hid hr
  have hPl := place_any en b s W1 (hP.up tW1)
  obtain ⟨pl, hpl⟩ : ∃ p, (atP en s).1 = p := ⟨_, rfl⟩
  obtain ⟨pc, hpc⟩ : ∃ p, (atP en s).2 = p := ⟨_, rfl⟩
  rw [hpl, hpc] at hPl
  have HPL := Lib.hid hPl
  have HAT : Hid (atP en s = (pl, pc)) := Lib.hid (by rw [← hpl, ← hpc])
  have HP1 := Lib.hid (hP.up tW1)
  have HTW1 := Lib.hid tW1
  have HRW1 := Lib.hid rW1
  clear hW1 hr tW1 rW1 hPl hpl hpc hP
  go_enter Tryz.func154, Tryz.ntmps154
  go_wp2_with fail
  rw [HW1.out, HR.out]
  refine HPL.out.mono ?_
  rintro e0 w2 ⟨rfl, t2⟩
  obtain ⟨W2, hW2⟩ : ∃ W2, w2.alloc (.cells #[.string ⟨#[]⟩, .string ⟨#[]⟩, .int .i64 (pl : Int), .int .i64 (pc : Int)] 107) = W2 := ⟨_, rfl⟩
  obtain ⟨sb, hsb⟩ : ∃ sb, w2.heap.size = sb := ⟨_, rfl⟩
  have tW2 : Turn [] W1 W2 := by rw [← hW2]; exact t2.alloc _
  have hsbk : W2.heap[sb]? = some (.cells #[.string ⟨#[]⟩, .string ⟨#[]⟩, .int .i64 (pl : Int), .int .i64 (pc : Int)] 107 (0, 0)) := by rw [← hW2, ← hsb]; exact heap_alloc_new w2 _
  have hrsb : r < sb := by have := t2.size; omega
  have hbr : b < r := by have := HR.out; omega
  have hSb : Vb W2 b sb ⟨e0, e0, pl, pc⟩ := ⟨by omega, hsbk⟩
  have H0 := Lib.hid (StV.mk0 (HP1.out.up tW2) hSb)
  have HRW : Hid (∀ W', Turn [b, sb] W2 W' → W'.heap[r]? = some (.cells #[.string ⟨#[]⟩, .string ⟨#[]⟩, .int .i64 0, .int .i64 0] 107 (0, 0))) := Lib.hid fun W' t => t.heap (tW2.heap HRW1.out (by simp)) (by simp; omega)
  have HT2 : Hid (Turn [] w W2) := Lib.hid (HTW1.out.trans' tW2)
  have HSZ : Hid (W2.heap.size = sb + 1) := Lib.hid (by rw [← hW2, ← hsb]; simp)
  have HW2 := Lib.hid hW2
  have HSB := Lib.hid hsb
  clear hW2 hsb tW2 hsbk t2 hSb
  go_upto_region 2 with (fail)
  rw [HW2.out, HSB.out]
  go_wp2_with fail
  refine (anyType_any en b s _ H0.out.pr).mono ?_
  rintro e1 w1 ⟨rfl, h1, t1⟩
  have H1 := Lib.hid (H0.out.call h1 t1)
  clear h1 t1
  obtain ⟨v1, ea1⟩ : ∃ v, (anyType en s).1 = v := ⟨_, rfl⟩
  rw [ea1]
  obtain ⟨s1, es1⟩ : ∃ q, (anyType en s).2 = q := ⟨_, rfl⟩
  rw [es1] at H1
  have Hes1 := Lib.hid es1
  clear es1
  have Hea1 := Lib.hid ea1
  clear ea1
  obtain ⟨hcc, hff⟩ := H1.out.ss.cells
  have c1_ty : w1.cell? ⟨sb, 0, none⟩ = some (.string e0) := hcc 0
  have g1_ty : w1.frozen? ⟨sb, 0, none⟩ = false := hff 0
  clear hcc hff
  have H1s : Hid (StV en W2 (w1.setCell ⟨sb, 0, none⟩ (.string v1)) b sb s1 ⟨v1, e0, pl, pc⟩) := Lib.hid (H1.out.set_ty v1)
  go_wp2_with fail
  refine (pName_any en b s1 _ H1s.out.pr).mono ?_
  rintro e2 w2 ⟨rfl, h2, t2⟩
  have H2 := Lib.hid (H1s.out.call h2 t2)
  clear h2 t2
  obtain ⟨v2, ea2⟩ : ∃ v, (name en s1).1 = v := ⟨_, rfl⟩
  rw [ea2]
  obtain ⟨s2, es2⟩ : ∃ q, (name en s1).2 = q := ⟨_, rfl⟩
  rw [es2] at H2
  have Hes2 := Lib.hid es2
  clear es2
  have Hea2 := Lib.hid ea2
  clear ea2
  obtain ⟨hcc, hff⟩ := H2.out.ss.cells
  have c2_nm : w2.cell? ⟨sb, 1, none⟩ = some (.string e0) := hcc 1
  have g2_nm : w2.frozen? ⟨sb, 1, none⟩ = false := hff 1
  clear hcc hff
  have H2s : Hid (StV en W2 (w2.setCell ⟨sb, 1, none⟩ (.string v2)) b sb s2 ⟨v1, v2, pl, pc⟩) := Lib.hid (H2.out.set_nm v2)
  go_upto_region 4 with (fail)
  obtain ⟨W9, hW9⟩ : ∃ W9, (w2.setCell ⟨sb, 1, none⟩ (.string v2)) = W9 := ⟨_, rfl⟩
  rw [hW9]
  have H9 : Hid (StV en W2 W9 b sb s2 ⟨v1, v2, pl, pc⟩) := Lib.hid (by rw [← hW9]; exact H2s.out)
  clear hW9
  have hSB := H9.out.ss
  have m0 : W9.cell? ⟨sb, 0, none⟩ = some (.string v1) := cell_of_row W9 sb 0 _ _ _ hSB.blk
  have m1 : W9.cell? ⟨sb, 1, none⟩ = some (.string v2) := cell_of_row W9 sb 1 _ _ _ hSB.blk
  have m2 : W9.cell? ⟨sb, 2, none⟩ = some (.int .i64 (pl : Int)) := cell_of_row W9 sb 2 _ _ _ hSB.blk
  have m3 : W9.cell? ⟨sb, 3, none⟩ = some (.int .i64 (pc : Int)) := cell_of_row W9 sb 3 _ _ _ hSB.blk
  have hrw := HRW.out W9 H9.out.tt
  have zz0 : W9.cell? ⟨r, 0, none⟩ = some (.string ⟨#[]⟩) := cell_of_row W9 r 0 _ _ _ hrw
  have zf0 : W9.frozen? ⟨r, 0, none⟩ = false := frozen_of_row W9 r 0 _ _ hrw
  have zz1 : W9.cell? ⟨r, 1, none⟩ = some (.string ⟨#[]⟩) := cell_of_row W9 r 1 _ _ _ hrw
  have zf1 : W9.frozen? ⟨r, 1, none⟩ = false := frozen_of_row W9 r 1 _ _ hrw
  have zz2 : W9.cell? ⟨r, 2, none⟩ = some (.int .i64 0) := cell_of_row W9 r 2 _ _ _ hrw
  have zf2 : W9.frozen? ⟨r, 2, none⟩ = false := frozen_of_row W9 r 2 _ _ hrw
  have zz3 : W9.cell? ⟨r, 3, none⟩ = some (.int .i64 0) := cell_of_row W9 r 3 _ _ _ hrw
  have zf3 : W9.frozen? ⟨r, 3, none⟩ = false := frozen_of_row W9 r 3 _ _ hrw
  have HSBF := Lib.hid hSB
  clear hSB hrw
  go_wp2_with fail
  refine bodyPost_ret (v := .agg #[.string v1, .string v2, .int .i64 (pl : Int), .int .i64 (pc : Int)]) (by simp [results, Tryz.results154, go_sem, zz0, zz1, zz2, zz3]) rfl ?_
  have EF : variable' en s = (⟨v1, v2, pl, pc⟩, s2) := by
    refine Prod.ext ?_ ?_ <;> (unfold variable'; simp only [HAT.out, mf0_mk, Hes1.out, Hea1.out, Hes2.out, Hea2.out, if_true, if_false, Bool.false_eq_true, reduceIte]; try first | rfl | exact Heb2.out | exact Hec2.out)
  rw [EF]
  have hE : ∀ W', Turn [r] W9 W' → Turn [b] w W' := fun W' t => ((HT2.out.more (by simp)).trans H9.out.tt (fun g hg => by have := HT2.out.size; have := HSZ.out; have := HR.out; simp at hg; rcases hg with rfl | rfl <;> simp <;> omega)).trans t (fun g hg => by have := HR.out; simp at hg; omega)
  have key : ∀ W', Turn [r] W9 W' → Ending.returned (.agg #[.string v1, .string v2, .int .i64 (pl : Int), .int .i64 (pc : Int)]) = Ending.returned (.agg #[.string v1, .string v2, .int .i64 (pl : Int), .int .i64 (pc : Int)]) ∧ Pr en W' b s2 ∧ Turn [b] w W' := fun W' tE => ⟨rfl, H9.out.pr.turn tE (by simp; omega), hE _ tE⟩
  exact key _ (((((Turn.refl [r] W9).setCell (.inl (by simp)) _).setCell (.inl (by simp)) _).setCell (.inl (by simp)) _).setCell (.inl (by simp)) _)

end Go.Proofs.YtnmhcgkccchacaaGreatDoor

/- series, of variables. -/
set_option linter.unusedSimpArgs false
set_option linter.unusedVariables false
set_option maxRecDepth 100000
namespace Go.Proofs.YtnmhcgkccchacaaGreatDoor
open Go.RowKit

set_option maxHeartbeats 6400000 in
theorem varsL_any (en : Nat × Nat) (b : Nat) (s : RS) (w : World) (hP : Pr en w b s) :
    Calls Tryz.prog 153 #[.pointer (some ⟨b, 0, none⟩), .func (.func 154) #[.pointer (some ⟨b, 0, none⟩)] #[]] w fun e w' =>
      ∃ V, e = .returned V ∧ RdV 4 RdW (fun g => w.heap.size ≤ g) w' V (varsL en s).1 ∧ Pr en w' b (varsL en s).2 ∧ Turn [b] w w' := by
  have HP0 := Lib.hid hP
  have hl := hP.len
  have hbl := hP.lt
  obtain ⟨R, hR⟩ : ∃ R, varsL en s = R := ⟨_, rfl⟩
  rw [hR]
  have HR0 := Lib.hid hR
  clear hP hR
  go_enter Tryz.func153, Tryz.ntmps153
  go_wp2_with fail
  go_loopw [5, 6] (fun v q wr => ∃ (acc : List Vf) (s1 : RS) (Q : Bool), q = .bool Q ∧ Hid (OwnL 107 4 RdW (fun g => w.heap.size ≤ g) wr v acc) ∧ Hid (Pr en wr b s1) ∧ Hid (Turn [b] w wr) ∧ acc.length ≤ 900001 ∧ SRel (series en (variable' en)) Q acc s1 R) (fun v q wr => 2 * lenAt wr b + boolN q)
  case atStart => exact ⟨[], s, true, by first | rfl | trivial, Lib.hid (OwnL.nil _ _ _), Lib.hid HP0.out, Lib.hid (Turn.refl _ _), by simp, ⟨fun _ => ⟨by simpa using hl, s.l.length + 1, by omega, HR0.out⟩, fun h => by cases h⟩⟩
  case round =>
    obtain ⟨acc, s1, Q, rfl, HO, HP, HT, hacc, HR⟩ := hrel
    obtain ⟨A0, c0, rfl, hc0⟩ := HO.out.form
    cases Q with
    | false =>
      go_wp2_with fail
      go_ret
      have e1 := HR.no rfl
      subst e1
      exact ⟨.slice A0 acc.length c0, rfl, HO.out.rdv goodW, HP.out, HT.out⟩
    | true =>
      obtain ⟨hle, n, hn, hser⟩ := HR.yes rfl
      have HSE := Lib.hid hser
      clear hser
      go_wp2_with fail
      refine (room_any en b acc.length 40 s1 wr HP.out).mono ?_
      rintro e2 w2 ⟨rfl, h2, t2⟩
      have HP2 := Lib.hid h2
      have HO2 := Lib.hid (HO.out.turn goodW t2 (by simp; omega))
      have HT2 := Lib.hid (HT.out.trans t2 (fun g hg => .inl hg))
      obtain ⟨s2, es2⟩ : ∃ q, room (decide (40 ≤ acc.length)) s1 = q := ⟨_, rfl⟩
      rw [es2] at HP2
      have hl2 : s2.l.length = s1.l.length := by rw [← es2]; rfl
      have HES2 := Lib.hid es2
      clear h2 t2 es2
      go_wp2_with fail
      refine (variable_any en b s2 w2 HP2.out).mono ?_
      rintro e3 w3 ⟨rfl, h3, t3⟩
      have HP3 := Lib.hid h3
      have HO3 := Lib.hid (HO2.out.turn goodW t3 (by simp; omega))
      have HT3 := Lib.hid (HT2.out.trans t3 (fun g hg => .inl hg))
      obtain ⟨x3, ex3⟩ : ∃ q, (variable' en s2).1 = q := ⟨_, rfl⟩
      obtain ⟨s3, es3⟩ : ∃ q, (variable' en s2).2 = q := ⟨_, rfl⟩
      rw [es3] at HP3
      rw [ex3]
      have hl3 : s3.l.length ≤ s2.l.length := by rw [← es3]; exact (variable_le (Le.refl s2)).len
      have HEX3 := Lib.hid ex3
      have HES3 := Lib.hid es3
      have hsz3 : w.heap.size ≤ w3.heap.size := HT3.out.size
      clear h3 t3 ex3 es3
      go_wp2_with (refine wpList_appL rfl (.tmp 14) (.tmp 17) 24 rfl w3 107 4 48 _ RdW goodW (fun g => w.heap.size ≤ g) Tryz.underlying24 var_info rfl (by omega) (by omega) (.slice A0 acc.length c0) acc rfl HO3.out _ [.string x3.ty, .string x3.nm, .int .i64 x3.ln, .int .i64 x3.cl] x3 _ rfl rfl rfl (by omega) (by show w.heap.size ≤ w3.heap.size + 1; omega) ?_)
      intro v4 w4 ho4 t4 hb4
      have t5 : Turn [] w3 w3 := Turn.refl _ _
      have hvb : ∀ g, (Value.slice A0 acc.length c0).ownBlock = some g → w.heap.size ≤ g := fun g hg => (HO3.out.lt hg).2
      have HP4 := Lib.hid (HP3.out.turn t4 (fun g hg => by have := hvb g (by simpa using hg); omega))
      have HO4 := Lib.hid ho4
      have HT4 := Lib.hid (HT3.out.trans t4 (fun g hg => .inr (hvb g (by simpa using hg))))
      clear ho4 t4 hb4 hvb t5
      go_wp2_with fail
      refine (pSkip_any en b s3 [44] _ rfl w4 HP4.out).mono ?_
      rintro e5 w5 ⟨rfl, h5, t5⟩
      have HP5 := Lib.hid h5
      have HO5 := Lib.hid (HO4.out.turn goodW t5 (by simp; omega))
      have HT5 := Lib.hid (HT4.out.trans t5 (fun g hg => .inl hg))
      clear h5 t5
      obtain ⟨m, rfl⟩ : ∃ m, n = m + 1 := ⟨n - 1, by omega⟩
      have hser := HSE.out
      unfold series at hser
      dsimp only at hser
      rw [HES2.out, HES3.out, HEX3.out] at hser
      have HSR := Lib.hid hser
      clear hser
      rcases skip_cases (en := en) [44] s3 with ⟨eq, hlt⟩ | ⟨eq, es5⟩
      · have hlt2 := hlt.2
        obtain ⟨s5, es5⟩ : ∃ q, (skip en [44] s3).2 = q := ⟨_, rfl⟩
        rw [es5] at HP5 hlt2
        rw [eq]
        have HQ := Lib.hid eq
        have HES5 := Lib.hid es5
        clear eq es5 hlt
        go_wp2_with fail
        go_roundw
        case rel =>
          refine ⟨acc ++ [x3], s5, true, by first | rfl | trivial, HO5, HP5, HT5, by simp; omega, ⟨fun _ => ⟨by simp; omega, m, by omega, ?_⟩, fun h => by cases h⟩⟩
          have := HSR.out
          rw [HQ.out, if_pos rfl, HES5.out] at this
          exact this
        case measure =>
          rw [HP5.out.lenAt, HP.out.lenAt]
          simp [boolN]
          omega
      · rw [es5] at HP5
        rw [eq]
        have HQ := Lib.hid eq
        have HES5 := Lib.hid es5
        clear eq es5
        go_wp2_with fail
        go_roundw
        case rel =>
          refine ⟨acc ++ [x3], s3, false, by first | rfl | trivial, HO5, HP5, HT5, by simp; omega, ⟨fun h => (by cases h), fun _ => ?_⟩⟩
          have := HSR.out
          rw [HQ.out, if_neg (by simp), HES5.out] at this
          exact this
        case measure =>
          rw [HP5.out.lenAt, HP.out.lenAt]
          simp [boolN]
          omega
end Go.Proofs.YtnmhcgkccchacaaGreatDoor

/- head. Printed by gen8.py. -/
set_option linter.unusedSimpArgs false
set_option linter.unusedVariables false
set_option maxRecDepth 100000
namespace Go.Proofs.YtnmhcgkccchacaaGreatDoor
open Go.RowKit

set_option maxHeartbeats 6400000 in
theorem head_any (en : Nat × Nat) (b sb : Nat) (s : RS) (p : Mf) (w : World) (hP : Pr en w b s) (hS : Mb w b sb p) :
    Calls Tryz.prog 135 #[.pointer (some ⟨b, 0, none⟩), .pointer (some ⟨sb, 0, none⟩)] w fun e w' => e = .returned (.tuple #[]) ∧ StM en w w' b sb (head en p s).2 (head en p s).1 := by
  obtain ⟨ret, nm, stat, bare, ps, ls, bd, ln, cl⟩ := p
  have H0 := Lib.hid (StM.mk0 hP hS)
  clear hP hS
  go_enter Tryz.func135, Tryz.ntmps135
  go_wp2_with fail
  refine (takeN_any en b s kMethod _ w.heap.size rfl _ rfl H0.out.pr).mono ?_
  rintro e1 w1 ⟨rfl, h1, t1⟩
  have H1 := Lib.hid (H0.out.call h1 t1)
  clear h1 t1
  obtain ⟨s1, es1⟩ : ∃ q, take en kMethod s = q := ⟨_, rfl⟩
  rw [es1] at H1
  have Hes1 := Lib.hid es1
  clear es1
  go_wp2_with fail
  refine (answer_any en b s1 _ H1.out.pr).mono ?_
  rintro e2 w2 ⟨rfl, h2, t2⟩
  have H2 := Lib.hid (H1.out.call h2 t2)
  clear h2 t2
  obtain ⟨v2, ea2⟩ : ∃ v, (answer en s1).1 = v := ⟨_, rfl⟩
  rw [ea2]
  obtain ⟨s2, es2⟩ : ∃ q, (answer en s1).2 = q := ⟨_, rfl⟩
  rw [es2] at H2
  have Hes2 := Lib.hid es2
  clear es2
  have Hea2 := Lib.hid ea2
  clear ea2
  obtain ⟨U1_2, U2_2, U3_2, hcc, hff⟩ := H2.out.ss.cells
  have c2_ret : w2.cell? ⟨sb, 0, none⟩ = some (.string ret) := hcc 0
  have g2_ret : w2.frozen? ⟨sb, 0, none⟩ = false := hff 0
  clear hcc hff
  have H2s : Hid (StM en w (w2.setCell ⟨sb, 0, none⟩ (.string v2)) b sb s2 ⟨v2, nm, stat, bare, ps, ls, bd, ln, cl⟩) := Lib.hid (H2.out.set_ret v2)
  go_wp2_with fail
  refine (pName_any en b s2 _ H2s.out.pr).mono ?_
  rintro e3 w3 ⟨rfl, h3, t3⟩
  have H3 := Lib.hid (H2s.out.call h3 t3)
  clear h3 t3
  obtain ⟨v3, ea3⟩ : ∃ v, (name en s2).1 = v := ⟨_, rfl⟩
  rw [ea3]
  obtain ⟨s3, es3⟩ : ∃ q, (name en s2).2 = q := ⟨_, rfl⟩
  rw [es3] at H3
  have Hes3 := Lib.hid es3
  clear es3
  have Hea3 := Lib.hid ea3
  clear ea3
  obtain ⟨U1_3, U2_3, U3_3, hcc, hff⟩ := H3.out.ss.cells
  have c3_nm : w3.cell? ⟨sb, 1, none⟩ = some (.string nm) := hcc 1
  have g3_nm : w3.frozen? ⟨sb, 1, none⟩ = false := hff 1
  clear hcc hff
  have H3s : Hid (StM en w (w3.setCell ⟨sb, 1, none⟩ (.string v3)) b sb s3 ⟨v2, v3, stat, bare, ps, ls, bd, ln, cl⟩) := Lib.hid (H3.out.set_nm v3)
  go_wp2_with fail
  refine (takeN_any en b s3 [40] _ w3.heap.size (by simp) _ rfl H3s.out.pr).mono ?_
  rintro e4 w4 ⟨rfl, h4, t4⟩
  have H4 := Lib.hid (H3s.out.call h4 t4)
  clear h4 t4
  obtain ⟨s4, es4⟩ : ∃ q, take en [40] s3 = q := ⟨_, rfl⟩
  rw [es4] at H4
  have Hes4 := Lib.hid es4
  clear es4
  go_wp2_with fail
  refine (seesN_any en b s4 [41] _ w4.heap.size rfl _ rfl H4.out.pr).mono ?_
  rintro e5 w5 ⟨rfl, t5⟩
  have H5 := Lib.hid (H4.out.up t5)
  clear t5
  cases hq5 : sees [41] s4 with
  | true =>
    have HQ5 := Lib.hid hq5
    clear hq5
    go_wp2_with fail
    refine (takeN_any en b s4 [41] _ w5.heap.size rfl _ rfl H5.out.pr).mono ?_
    rintro e6 w6 ⟨rfl, h6, t6⟩
    have H6 := Lib.hid (H5.out.call h6 t6)
    clear h6 t6
    obtain ⟨s6, es6⟩ : ∃ q, take en [41] s4 = q := ⟨_, rfl⟩
    rw [es6] at H6
    have Hes6 := Lib.hid es6
    clear es6
    go_wp2_with fail
    (first | go_end0 | refine bodyPost_ret (v := .tuple #[]) (by simp [results, Tryz.results135, go_sem]) rfl ?_)
    have EF : head en ⟨ret, nm, stat, bare, ps, ls, bd, ln, cl⟩ s = (⟨v2, v3, stat, bare, ps, ls, bd, ln, cl⟩, s6) := by
      refine Prod.ext ?_ ?_ <;> (unfold head; simp only [Hes1.out, Hes2.out, Hea2.out, Hes3.out, Hea3.out, Hes4.out, HQ5.out, Hes6.out, if_true, if_false, Bool.false_eq_true, reduceIte])
    rw [EF]
    exact ⟨rfl, H6.out⟩
  | false =>
    have HQ5 := Lib.hid hq5
    clear hq5
    go_wp2_with fail
    refine (varsL_any en b s4 _ H5.out.pr).mono ?_
    rintro e6 w6 ⟨V6, rfl, hv6, h6, t6⟩
    have H6 := Lib.hid (H5.out.call h6 t6)
    clear h6 t6
    obtain ⟨l6, ea6⟩ : ∃ v, (varsL en s4).1 = v := ⟨_, rfl⟩
    rw [ea6] at hv6
    obtain ⟨P6, q6, rfl, _, _⟩ := id hv6
    obtain ⟨s6, es6⟩ : ∃ q, (varsL en s4).2 = q := ⟨_, rfl⟩
    rw [es6] at H6
    have Hes6 := Lib.hid es6
    clear es6
    have HV6 := Lib.hid (hv6.mono (B := fun g => sb < g) goodW (fun g hg _ => Nat.lt_of_lt_of_le H5.out.ss.lt hg))
    clear hv6
    have Hea6 := Lib.hid ea6
    clear ea6
    obtain ⟨U1_6, U2_6, U3_6, hcc, hff⟩ := H6.out.ss.cells
    have c6_ps : w6.cell? ⟨sb, 4, none⟩ = some U1_6 := hcc 4
    have g6_ps : w6.frozen? ⟨sb, 4, none⟩ = false := hff 4
    clear hcc hff
    have H6s : Hid (StM en w (w6.setCell ⟨sb, 4, none⟩ (.slice P6 l6.length q6)) b sb s6 ⟨v2, v3, stat, bare, l6, ls, bd, ln, cl⟩) := Lib.hid (H6.out.set_ps HV6.out)
    go_wp2_with fail
    refine (takeN_any en b s6 [41] _ w6.heap.size (by simp) _ rfl H6s.out.pr).mono ?_
    rintro e7 w7 ⟨rfl, h7, t7⟩
    have H7 := Lib.hid (H6s.out.call h7 t7)
    clear h7 t7
    obtain ⟨s7, es7⟩ : ∃ q, take en [41] s6 = q := ⟨_, rfl⟩
    rw [es7] at H7
    have Hes7 := Lib.hid es7
    clear es7
    go_wp2_with fail
    (first | go_end0 | refine bodyPost_ret (v := .tuple #[]) (by simp [results, Tryz.results135, go_sem]) rfl ?_)
    have EF : head en ⟨ret, nm, stat, bare, ps, ls, bd, ln, cl⟩ s = (⟨v2, v3, stat, bare, l6, ls, bd, ln, cl⟩, s7) := by
      refine Prod.ext ?_ ?_ <;> (unfold head; simp only [Hes1.out, Hes2.out, Hea2.out, Hes3.out, Hea3.out, Hes4.out, HQ5.out, Hes6.out, Hea6.out, Hes7.out, if_true, if_false, Bool.false_eq_true, reduceIte])
    rw [EF]
    exact ⟨rfl, H7.out⟩

end Go.Proofs.YtnmhcgkccchacaaGreatDoor
