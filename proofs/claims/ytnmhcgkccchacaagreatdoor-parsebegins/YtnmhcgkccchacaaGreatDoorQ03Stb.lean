import Derived.Test.YtnmhcgkccchacaaGreatDoorQ02Nm
import Derived.Shelf.Strconv.Atoi
import Derived.Test.YtnmhcgkccchacaaGreatDoorProg
import Derived.Laws.EntriesVeiled
import Derived.Deep.RegionHeld3

/- Walks of the parser's functions, printed by gen7.py: called. -/
set_option linter.unusedSimpArgs false
set_option linter.unusedVariables false
set_option maxRecDepth 100000
namespace Go.Proofs.YtnmhcgkccchacaaGreatDoor
open Go.RowKit

set_option maxHeartbeats 6400000 in
theorem called_any (en : Nat × Nat) (b sb : Nat) (s : RS) (p : Sf) (dd : Int) (w : World) (hP : Pr en w b s) (hS : Sb w b sb p) :
    Calls Tryz.prog 93 #[.pointer (some ⟨b, 0, none⟩), .pointer (some ⟨sb, 0, none⟩), .int .i64 dd] w fun e w' => e = .returned (.bool (called en p dd s).1) ∧ St8 en w w' b sb (called en p dd s).2.2 (called en p dd s).2.1 := by
  obtain ⟨d, x, y, z, t, f, ag, n, bd, ot, ln, cl⟩ := p
  have H0 := Lib.hid (St8.mk0 hP hS)
  clear hP hS
  go_enter Tryz.func93, Tryz.ntmps93
  go_wp2_with fail
  refine (pSkip_any en b s [40] _ rfl _ H0.out.pr).mono ?_
  rintro e1 w1 ⟨rfl, h1, t1⟩
  have H1 := Lib.hid (H0.out.call h1 t1)
  clear h1 t1
  obtain ⟨s1, es1⟩ : ∃ q, (skip en [40] s).2 = q := ⟨_, rfl⟩
  rw [es1] at H1
  have Hes1 := Lib.hid es1
  clear es1
  cases hq1 : (skip en [40] s).1 with
  | true =>
    have HQ1 := Lib.hid hq1
    clear hq1
    obtain ⟨U1_1, U2_1, U3_1, hcc, hff⟩ := H1.out.ss.cells
    have c1_d : w1.cell? ⟨sb, 0, none⟩ = some (.int .i64 d) := hcc 0
    have g1_d : w1.frozen? ⟨sb, 0, none⟩ = false := hff 0
    clear hcc hff
    have H1s : Hid (St8 en w (w1.setCell ⟨sb, 0, none⟩ (.int .i64 dd)) b sb s1 ⟨dd, x, y, z, t, f, ag, n, bd, ot, ln, cl⟩) := Lib.hid (H1.out.set_d dd)
    go_wp2_with fail
    refine (seesN_any en b s1 [41] _ w1.heap.size (by simp) _ rfl H1s.out.pr).mono ?_
    rintro e2 w2 ⟨rfl, t2⟩
    have H2 := Lib.hid (H1s.out.up t2)
    clear t2
    cases hq2 : sees [41] s1 with
    | true =>
      have HQ2 := Lib.hid hq2
      clear hq2
      go_wp2_with fail
      refine (takeN_any en b s1 [41] _ w2.heap.size rfl _ rfl H2.out.pr).mono ?_
      rintro e3 w3 ⟨rfl, h3, t3⟩
      have H3 := Lib.hid (H2.out.call h3 t3)
      clear h3 t3
      obtain ⟨s3, es3⟩ : ∃ q, take en [41] s1 = q := ⟨_, rfl⟩
      rw [es3] at H3
      have Hes3 := Lib.hid es3
      clear es3
      go_wp2_with fail
      go_ret
      have EF : called en ⟨d, x, y, z, t, f, ag, n, bd, ot, ln, cl⟩ dd s = (true, ⟨dd, x, y, z, t, f, ag, n, bd, ot, ln, cl⟩, s3) := by
        refine Prod.ext ?_ (Prod.ext ?_ ?_) <;> (unfold called; simp only [Hes1.out, HQ1.out, HQ2.out, Hes3.out, if_true, if_false, Bool.false_eq_true, reduceIte])
      rw [EF]
      exact ⟨rfl, H3.out⟩
    | false =>
      have HQ2 := Lib.hid hq2
      clear hq2
      go_wp2_with fail
      refine (namesL_any en b s1 _ H2.out.pr).mono ?_
      rintro e3 w3 ⟨V3, rfl, hv3, h3, t3⟩
      have H3 := Lib.hid (H2.out.call h3 t3)
      clear h3 t3
      obtain ⟨l3, ea3⟩ : ∃ v, (namesL en s1).1 = v := ⟨_, rfl⟩
      rw [ea3] at hv3
      obtain ⟨P3, q3, rfl, _, _⟩ := id hv3
      obtain ⟨s3, es3⟩ : ∃ q, (namesL en s1).2 = q := ⟨_, rfl⟩
      rw [es3] at H3
      have Hes3 := Lib.hid es3
      clear es3
      have HV3 := Lib.hid (hv3.mono (B := fun g => sb < g) goodT (fun g hg _ => Nat.lt_of_lt_of_le H2.out.ss.lt hg))
      clear hv3
      have Hea3 := Lib.hid ea3
      clear ea3
      obtain ⟨U1_3, U2_3, U3_3, hcc, hff⟩ := H3.out.ss.cells
      have c3_ag : w3.cell? ⟨sb, 6, none⟩ = some U1_3 := hcc 6
      have g3_ag : w3.frozen? ⟨sb, 6, none⟩ = false := hff 6
      clear hcc hff
      have H3s : Hid (St8 en w (w3.setCell ⟨sb, 6, none⟩ (.slice P3 l3.length q3)) b sb s3 ⟨dd, x, y, z, t, f, l3, n, bd, ot, ln, cl⟩) := Lib.hid (H3.out.set_ag HV3.out)
      go_wp2_with fail
      refine (takeN_any en b s3 [41] _ w3.heap.size (by simp) _ rfl H3s.out.pr).mono ?_
      rintro e4 w4 ⟨rfl, h4, t4⟩
      have H4 := Lib.hid (H3s.out.call h4 t4)
      clear h4 t4
      obtain ⟨s4, es4⟩ : ∃ q, take en [41] s3 = q := ⟨_, rfl⟩
      rw [es4] at H4
      have Hes4 := Lib.hid es4
      clear es4
      go_wp2_with fail
      go_ret
      have EF : called en ⟨d, x, y, z, t, f, ag, n, bd, ot, ln, cl⟩ dd s = (true, ⟨dd, x, y, z, t, f, l3, n, bd, ot, ln, cl⟩, s4) := by
        refine Prod.ext ?_ (Prod.ext ?_ ?_) <;> (unfold called; simp only [Hes1.out, HQ1.out, HQ2.out, Hes3.out, Hea3.out, Hes4.out, if_true, if_false, Bool.false_eq_true, reduceIte])
      rw [EF]
      exact ⟨rfl, H4.out⟩
  | false =>
    have HQ1 := Lib.hid hq1
    clear hq1
    go_wp2_with fail
    go_ret
    have EF : called en ⟨d, x, y, z, t, f, ag, n, bd, ot, ln, cl⟩ dd s = (false, ⟨d, x, y, z, t, f, ag, n, bd, ot, ln, cl⟩, s1) := by
      refine Prod.ext ?_ (Prod.ext ?_ ?_) <;> (unfold called; simp only [Hes1.out, HQ1.out, if_true, if_false, Bool.false_eq_true, reduceIte])
    rw [EF]
    exact ⟨rfl, H1.out⟩

end Go.Proofs.YtnmhcgkccchacaaGreatDoor

/- Walks of the parser's functions, printed by gen7.py: ofVariable. -/
set_option linter.unusedSimpArgs false
set_option linter.unusedVariables false
set_option maxRecDepth 100000
namespace Go.Proofs.YtnmhcgkccchacaaGreatDoor
open Go.RowKit

set_option maxHeartbeats 6400000 in
theorem ofVariable_any (en : Nat × Nat) (b sb : Nat) (s : RS) (p : Sf) (nm : ByteArray) (w : World) (hP : Pr en w b s) (hS : Sb w b sb p) :
    Calls Tryz.prog 95 #[.pointer (some ⟨b, 0, none⟩), .pointer (some ⟨sb, 0, none⟩), .string nm] w fun e w' => e = .returned (.tuple #[]) ∧ St8 en w w' b sb (ofVariable en p nm s).2 (ofVariable en p nm s).1 := by
  obtain ⟨d, x, y, z, t, f, ag, n, bd, ot, ln, cl⟩ := p
  have H0 := Lib.hid (St8.mk0 hP hS)
  clear hP hS
  go_enter Tryz.func95, Tryz.ntmps95
  go_wp2_with fail
  refine (pName_any en b s _ H0.out.pr).mono ?_
  rintro e1 w1 ⟨rfl, h1, t1⟩
  have H1 := Lib.hid (H0.out.call h1 t1)
  clear h1 t1
  obtain ⟨v1, ea1⟩ : ∃ v, (name en s).1 = v := ⟨_, rfl⟩
  rw [ea1]
  obtain ⟨s1, es1⟩ : ∃ q, (name en s).2 = q := ⟨_, rfl⟩
  rw [es1] at H1
  have Hes1 := Lib.hid es1
  clear es1
  have Hea1 := Lib.hid ea1
  clear ea1
  obtain ⟨U1_1, U2_1, U3_1, hcc, hff⟩ := H1.out.ss.cells
  have c1_f : w1.cell? ⟨sb, 5, none⟩ = some (.string f) := hcc 5
  have g1_f : w1.frozen? ⟨sb, 5, none⟩ = false := hff 5
  have c1_y : w1.cell? ⟨sb, 2, none⟩ = some (.string y) := hcc 2
  have g1_y : w1.frozen? ⟨sb, 2, none⟩ = false := hff 2
  clear hcc hff
  have H1s : Hid (St8 en w ((w1.setCell ⟨sb, 2, none⟩ (.string nm)).setCell ⟨sb, 5, none⟩ (.string v1)) b sb s1 ⟨d, x, nm, z, t, v1, ag, n, bd, ot, ln, cl⟩) := Lib.hid ((H1.out.set_y nm).set_f v1)
  go_wp2_with fail
  refine (pSkip_any en b s1 [58, 58] _ rfl _ H1s.out.pr).mono ?_
  rintro e2 w2 ⟨rfl, h2, t2⟩
  have H2 := Lib.hid (H1s.out.call h2 t2)
  clear h2 t2
  obtain ⟨s2, es2⟩ : ∃ q, (skip en [58, 58] s1).2 = q := ⟨_, rfl⟩
  rw [es2] at H2
  have Hes2 := Lib.hid es2
  clear es2
  cases hq2 : (skip en [58, 58] s1).1 with
  | true =>
    have HQ2 := Lib.hid hq2
    clear hq2
    obtain ⟨U1_3, U2_3, U3_3, hcc, hff⟩ := H2.out.ss.cells
    have c3_f : w2.cell? ⟨sb, 5, none⟩ = some (.string v1) := hcc 5
    have g3_f : w2.frozen? ⟨sb, 5, none⟩ = false := hff 5
    have c3_t : w2.cell? ⟨sb, 4, none⟩ = some (.string t) := hcc 4
    have g3_t : w2.frozen? ⟨sb, 4, none⟩ = false := hff 4
    clear hcc hff
    have H3d : Hid (St8 en w w2.drew b sb s2 ⟨d, x, nm, z, t, v1, ag, n, bd, ot, ln, cl⟩) := Lib.hid (H2.out.up (Turn.refl [] w2).drew)
    go_upto_region 2 with (fail)
    refine wp_region_held_drew (S := fun w' => True) (by kernel_rfl) ?_ (fun hHeld => ?_)
    · trivial
    refine wpAnyH_take (i := 0) (oi := { dst := some 17, op := Op.move (Operand.tmp 1), type := 117, pos := _, after := #[], guard := none }) (v := ?_) rfl (by kernel_rfl) (by kernel_rfl) (by kernel_rfl) (fun _ _ _ h => h) (Or.inl ⟨by rfl, ?_⟩) (by assumption) ?_
    rotate_left
    · intro w hSw; (try dsimp only at hSw); go_simp; (try with_reducible rfl)
    try simp only [Act.put, List.setIfInBounds_toArray, List.set_cons_zero, List.set_cons_succ]
    refine wpAnyH_take (i := 1) (oi := { dst := some 18, op := Op.move (Operand.tmp 1), type := 117, pos := _, after := #[{ on := 10, ground := Ground.gcOnly Departure.lateStores }], guard := none }) (v := ?_) rfl (by kernel_rfl) (by kernel_rfl) (by kernel_rfl) (fun _ _ _ h => h) (Or.inl ⟨by rfl, ?_⟩) (by assumption) ?_
    rotate_left
    · intro w hSw; (try dsimp only at hSw); go_simp; (try with_reducible rfl)
    try simp only [Act.put, List.setIfInBounds_toArray, List.set_cons_zero, List.set_cons_succ]
    refine wpAnyH_take (i := 2) (oi := { dst := some 19, op := Op.move (Operand.tmp 1), type := 117, pos := _, after := #[], guard := none }) (v := ?_) rfl (by kernel_rfl) (by kernel_rfl) (by kernel_rfl) (fun _ _ _ h => h) (Or.inl ⟨by rfl, ?_⟩) (by assumption) ?_
    rotate_left
    · intro w hSw; (try dsimp only at hSw); go_simp; (try with_reducible rfl)
    try simp only [Act.put, List.setIfInBounds_toArray, List.set_cons_zero, List.set_cons_succ]
    refine wpAnyH_take (i := 3) (oi := { dst := some 20, op := Op.nilCheck (Operand.tmp 19), type := 0, pos := _, after := #[{ on := 2, ground := Ground.data }], guard := none }) (v := ?_) rfl (by kernel_rfl) (by kernel_rfl) (by kernel_rfl) (fun _ _ _ h => h) (Or.inl ⟨by rfl, ?_⟩) (by assumption) ?_
    rotate_left
    · intro w hSw; (try dsimp only at hSw); go_simp; (try with_reducible rfl)
    try simp only [Act.put, List.setIfInBounds_toArray, List.set_cons_zero, List.set_cons_succ]
    refine wpAnyH_take (i := 4) (oi := { dst := some 21, op := Op.fieldAddr 41 (Operand.tmp 20) 5, type := 0, pos := _, after := #[{ on := 3, ground := Ground.data }], guard := none }) (v := ?_) rfl (by kernel_rfl) (by kernel_rfl) (by kernel_rfl) (fun _ _ _ h => h) (Or.inl ⟨by rfl, ?_⟩) (by assumption) ?_
    rotate_left
    · intro w hSw; (try dsimp only at hSw); go_simp; (try with_reducible rfl)
    try simp only [Act.put, List.setIfInBounds_toArray, List.set_cons_zero, List.set_cons_succ]
    refine wpAnyH_take (i := 6) (oi := { dst := some 23, op := Op.move (Operand.tmp 0), type := 57, pos := _, after := #[], guard := none }) (v := ?_) rfl (by kernel_rfl) (by kernel_rfl) (by kernel_rfl) (fun _ _ _ h => h) (Or.inl ⟨by rfl, ?_⟩) (by assumption) ?_
    rotate_left
    · intro w hSw; (try dsimp only at hSw); go_simp; (try with_reducible rfl)
    try simp only [Act.put, List.setIfInBounds_toArray, List.set_cons_zero, List.set_cons_succ]
    refine wpAnyH_ready (rs := [5, 7]) (by kernel_rfl) (by simp) ?_
    refine AllReadyH.cons (o := { dst := some 22, op := Op.load 9 (Operand.tmp 21), type := 9, pos := _, after := #[{ on := 4, ground := Ground.data }], guard := none }) rfl (fun K hK => ?_) (AllReadyH.cons (o := { dst := some 24, op := Op.call { callee := Callee.value (Operand.func 62), args := #[Operand.tmp 23], argTypes := #[57] }, type := 9, pos := _, after := #[{ on := 6, ground := Ground.data }], guard := none }) rfl (fun K hK => ?_) AllReadyH.nil)
    · go_simp
      refine hK.out _ _ ?_ (fun hHeld => ?_)
      · trivial
      clear hK K
      try simp only [Act.put, List.setIfInBounds_toArray, List.set_cons_zero, List.set_cons_succ]
      refine wpAnyH_ready (rs := [7]) (by kernel_rfl) (by simp) ?_
      refine AllReadyH.cons (o := { dst := some 24, op := Op.call { callee := Callee.value (Operand.func 62), args := #[Operand.tmp 23], argTypes := #[57] }, type := 9, pos := _, after := #[{ on := 6, ground := Ground.data }], guard := none }) rfl (fun K hK => ?_) AllReadyH.nil
      go_simp
      go_at_call 62
      (with_reducible refine (pName_any en b s2 _ H3d.out.pr).mono ?_)
      rintro e3 w3 ⟨rfl, h3, t3⟩
      have H3 := Lib.hid (H3d.out.call h3 t3)
      clear h3 t3
      obtain ⟨v3, ea3⟩ : ∃ v, (name en s2).1 = v := ⟨_, rfl⟩
      rw [ea3]
      obtain ⟨s3, es3⟩ : ∃ q, (name en s2).2 = q := ⟨_, rfl⟩
      rw [es3] at H3
      have Hes3 := Lib.hid es3
      clear es3
      have Hea3 := Lib.hid ea3
      clear ea3
      obtain ⟨U1_3, U2_3, U3_3, hcc, hff⟩ := H3.out.ss.cells
      have c3_f : w3.cell? ⟨sb, 5, none⟩ = some (.string v1) := hcc 5
      have g3_f : w3.frozen? ⟨sb, 5, none⟩ = false := hff 5
      have c3_t : w3.cell? ⟨sb, 4, none⟩ = some (.string t) := hcc 4
      have g3_t : w3.frozen? ⟨sb, 4, none⟩ = false := hff 4
      clear hcc hff
      try go_wp2_with fail
      refine hK.out _ _ ?_ (fun hHeld => ?_)
      · trivial
      clear hK K
      try simp only [Act.put, List.setIfInBounds_toArray, List.set_cons_zero, List.set_cons_succ]
      refine wpAnyH_take (i := 8) (oi := { dst := some 25, op := Op.nilCheck (Operand.tmp 17), type := 0, pos := _, after := #[{ on := 0, ground := Ground.data }, { on := 0, ground := Ground.phase }, { on := 1, ground := Ground.textOnly Departure.lateStores }, { on := 2, ground := Ground.phase }, { on := 3, ground := Ground.phase }, { on := 4, ground := Ground.phase }, { on := 5, ground := Ground.phase }, { on := 6, ground := Ground.textOnly Departure.lateStores }, { on := 7, ground := Ground.phase }], guard := none }) (v := ?_) rfl (by kernel_rfl) (by kernel_rfl) (by kernel_rfl) (fun _ _ _ h => h) (Or.inl ⟨by rfl, ?_⟩) (by assumption) ?_
      rotate_left
      · intro w hSw; (try dsimp only at hSw); go_simp; (try with_reducible rfl)
      try simp only [Act.put, List.setIfInBounds_toArray, List.set_cons_zero, List.set_cons_succ]
      refine wpAnyH_take (i := 9) (oi := { dst := some 26, op := Op.fieldAddr 41 (Operand.tmp 25) 4, type := 0, pos := _, after := #[{ on := 8, ground := Ground.data }, { on := 0, ground := Ground.phase }, { on := 1, ground := Ground.textOnly Departure.lateStores }, { on := 2, ground := Ground.phase }, { on := 3, ground := Ground.phase }, { on := 4, ground := Ground.phase }, { on := 5, ground := Ground.phase }, { on := 6, ground := Ground.textOnly Departure.lateStores }, { on := 7, ground := Ground.phase }], guard := none }) (v := ?_) rfl (by kernel_rfl) (by kernel_rfl) (by kernel_rfl) (fun _ _ _ h => h) (Or.inl ⟨by rfl, ?_⟩) (by assumption) ?_
      rotate_left
      · intro w hSw; (try dsimp only at hSw); go_simp; (try with_reducible rfl)
      try simp only [Act.put, List.setIfInBounds_toArray, List.set_cons_zero, List.set_cons_succ]
      refine wpAnyH_ready (rs := [10]) (by kernel_rfl) (by simp) ?_
      refine AllReadyH.cons (o := { dst := none, op := Op.store 9 (Operand.tmp 26) (Operand.tmp 22), type := 0, pos := _, after := #[{ on := 9, ground := Ground.data }, { on := 5, ground := Ground.data }, { on := 7, ground := Ground.chain }, { on := 0, ground := Ground.phase }, { on := 1, ground := Ground.textOnly Departure.lateStores }, { on := 2, ground := Ground.phase }, { on := 3, ground := Ground.phase }, { on := 4, ground := Ground.phase }, { on := 5, ground := Ground.phase }, { on := 6, ground := Ground.textOnly Departure.lateStores }, { on := 7, ground := Ground.phase }], guard := none }) rfl (fun K hK => ?_) AllReadyH.nil
      go_simp
      refine hK.out _ _ ?_ (fun hHeld => ?_)
      · trivial
      clear hK K
      try simp only [Act.put, List.setIfInBounds_toArray, List.set_cons_zero, List.set_cons_succ]
      refine wpAnyH_take (i := 11) (oi := { dst := some 27, op := Op.nilCheck (Operand.tmp 18), type := 0, pos := _, after := #[{ on := 1, ground := Ground.data }, { on := 0, ground := Ground.phase }, { on := 1, ground := Ground.phase }, { on := 2, ground := Ground.phase }, { on := 3, ground := Ground.phase }, { on := 4, ground := Ground.phase }, { on := 5, ground := Ground.phase }, { on := 6, ground := Ground.phase }, { on := 7, ground := Ground.phase }, { on := 8, ground := Ground.phase }, { on := 9, ground := Ground.phase }, { on := 10, ground := Ground.phase }], guard := none }) (v := ?_) rfl (by kernel_rfl) (by kernel_rfl) (by kernel_rfl) (fun _ _ _ h => h) (Or.inl ⟨by rfl, ?_⟩) (by assumption) ?_
      rotate_left
      · intro w hSw; (try dsimp only at hSw); go_simp; (try with_reducible rfl)
      try simp only [Act.put, List.setIfInBounds_toArray, List.set_cons_zero, List.set_cons_succ]
      refine wpAnyH_take (i := 12) (oi := { dst := some 28, op := Op.fieldAddr 41 (Operand.tmp 27) 5, type := 0, pos := _, after := #[{ on := 11, ground := Ground.data }, { on := 0, ground := Ground.phase }, { on := 1, ground := Ground.phase }, { on := 2, ground := Ground.phase }, { on := 3, ground := Ground.phase }, { on := 4, ground := Ground.phase }, { on := 5, ground := Ground.phase }, { on := 6, ground := Ground.phase }, { on := 7, ground := Ground.phase }, { on := 8, ground := Ground.phase }, { on := 9, ground := Ground.phase }, { on := 10, ground := Ground.phase }], guard := none }) (v := ?_) rfl (by kernel_rfl) (by kernel_rfl) (by kernel_rfl) (fun _ _ _ h => h) (Or.inl ⟨by rfl, ?_⟩) (by assumption) ?_
      rotate_left
      · intro w hSw; (try dsimp only at hSw); go_simp; (try with_reducible rfl)
      try simp only [Act.put, List.setIfInBounds_toArray, List.set_cons_zero, List.set_cons_succ]
      refine wpAnyH_ready (rs := [13]) (by kernel_rfl) (by simp) ?_
      refine AllReadyH.cons (o := { dst := none, op := Op.store 9 (Operand.tmp 28) (Operand.tmp 24), type := 0, pos := _, after := #[{ on := 12, ground := Ground.data }, { on := 7, ground := Ground.data }, { on := 10, ground := Ground.chain }, { on := 0, ground := Ground.phase }, { on := 1, ground := Ground.phase }, { on := 2, ground := Ground.phase }, { on := 3, ground := Ground.phase }, { on := 4, ground := Ground.phase }, { on := 5, ground := Ground.phase }, { on := 6, ground := Ground.phase }, { on := 7, ground := Ground.phase }, { on := 8, ground := Ground.phase }, { on := 9, ground := Ground.phase }, { on := 10, ground := Ground.phase }], guard := none }) rfl (fun K hK => ?_) AllReadyH.nil
      go_simp
      refine hK.out _ _ ?_ (fun hHeld => ?_)
      · trivial
      clear hK K
      try simp only [Act.put, List.setIfInBounds_toArray, List.set_cons_zero, List.set_cons_succ]
      refine wpAnyH_done (by kernel_rfl) ?_ _
      have H3s : Hid (St8 en w ((w3.setCell ⟨sb, 4, none⟩ (.string v1)).setCell ⟨sb, 5, none⟩ (.string v3)) b sb s3 ⟨d, x, nm, z, v1, v3, ag, n, bd, ot, ln, cl⟩) := Lib.hid ((H3.out.set_t v1).set_f v3)
      go_wp2_with fail
      refine (called_any en b sb s3 ⟨d, x, nm, z, v1, v3, ag, n, bd, ot, ln, cl⟩ 12 _ H3s.out.pr H3s.out.ss).mono ?_
      rintro e4 w4 ⟨rfl, h4⟩
      have H4 := Lib.hid (H3s.out.callS h4)
      clear h4
      obtain ⟨p4, eb4⟩ : ∃ q, (called en ⟨d, x, nm, z, v1, v3, ag, n, bd, ot, ln, cl⟩ 12 s3).2.1 = q := ⟨_, rfl⟩
      rw [eb4] at H4
      obtain ⟨s4, ec4⟩ : ∃ q, (called en ⟨d, x, nm, z, v1, v3, ag, n, bd, ot, ln, cl⟩ 12 s3).2.2 = q := ⟨_, rfl⟩
      rw [ec4] at H4
      have Heb4 := Lib.hid eb4
      clear eb4
      have Hec4 := Lib.hid ec4
      clear ec4
      obtain ⟨d4, x4, y4, z4, t4, f4, ag4, n4, bd4, ot4, ln4, cl4⟩ := p4
      cases hq4 : (called en ⟨d, x, nm, z, v1, v3, ag, n, bd, ot, ln, cl⟩ 12 s3).1 with
      | true =>
        have HQ4 := Lib.hid hq4
        clear hq4
        go_wp2_with fail
        (first | go_end0 | refine bodyPost_ret (v := .tuple #[]) (by simp [results, Tryz.results95, go_sem]) rfl ?_)
        have EF : ofVariable en ⟨d, x, y, z, t, f, ag, n, bd, ot, ln, cl⟩ nm s = (⟨d4, x4, y4, z4, t4, f4, ag4, n4, bd4, ot4, ln4, cl4⟩, s4) := by
          refine Prod.ext ?_ ?_ <;> (unfold ofVariable; simp only [Hes1.out, Hea1.out, Hes2.out, HQ2.out, Hes3.out, Hea3.out, Heb4.out, Hec4.out, HQ4.out, if_true, if_false, Bool.false_eq_true, reduceIte])
        rw [EF]
        exact ⟨rfl, H4.out⟩
      | false =>
        have HQ4 := Lib.hid hq4
        clear hq4
        go_wp2_with fail
        refine (refuse_any en b 10 s4 _ H4.out.pr).mono ?_
        rintro e5 w5 ⟨rfl, h5, t5⟩
        have H5 := Lib.hid (H4.out.call h5 t5)
        clear h5 t5
        obtain ⟨s5, es5⟩ : ∃ q, refuse en 10 s4 = q := ⟨_, rfl⟩
        rw [es5] at H5
        have Hes5 := Lib.hid es5
        clear es5
        go_wp2_with fail
        (first | go_end0 | refine bodyPost_ret (v := .tuple #[]) (by simp [results, Tryz.results95, go_sem]) rfl ?_)
        have EF : ofVariable en ⟨d, x, y, z, t, f, ag, n, bd, ot, ln, cl⟩ nm s = (⟨d4, x4, y4, z4, t4, f4, ag4, n4, bd4, ot4, ln4, cl4⟩, s5) := by
          refine Prod.ext ?_ ?_ <;> (unfold ofVariable; simp only [Hes1.out, Hea1.out, Hes2.out, HQ2.out, Hes3.out, Hea3.out, Heb4.out, Hec4.out, HQ4.out, Hes5.out, if_true, if_false, Bool.false_eq_true, reduceIte])
        rw [EF]
        exact ⟨rfl, H5.out⟩
    · go_simp
      go_at_call 62
      (with_reducible refine (pName_any en b s2 _ H3d.out.pr).mono ?_)
      rintro e3 w3 ⟨rfl, h3, t3⟩
      have H3 := Lib.hid (H3d.out.call h3 t3)
      clear h3 t3
      obtain ⟨v3, ea3⟩ : ∃ v, (name en s2).1 = v := ⟨_, rfl⟩
      rw [ea3]
      obtain ⟨s3, es3⟩ : ∃ q, (name en s2).2 = q := ⟨_, rfl⟩
      rw [es3] at H3
      have Hes3 := Lib.hid es3
      clear es3
      have Hea3 := Lib.hid ea3
      clear ea3
      obtain ⟨U1_3, U2_3, U3_3, hcc, hff⟩ := H3.out.ss.cells
      have c3_f : w3.cell? ⟨sb, 5, none⟩ = some (.string v1) := hcc 5
      have g3_f : w3.frozen? ⟨sb, 5, none⟩ = false := hff 5
      have c3_t : w3.cell? ⟨sb, 4, none⟩ = some (.string t) := hcc 4
      have g3_t : w3.frozen? ⟨sb, 4, none⟩ = false := hff 4
      clear hcc hff
      try go_wp2_with fail
      refine hK.out _ _ ?_ (fun hHeld => ?_)
      · trivial
      clear hK K
      try simp only [Act.put, List.setIfInBounds_toArray, List.set_cons_zero, List.set_cons_succ]
      refine wpAnyH_ready (rs := [5]) (by kernel_rfl) (by simp) ?_
      refine AllReadyH.cons (o := { dst := some 22, op := Op.load 9 (Operand.tmp 21), type := 9, pos := _, after := #[{ on := 4, ground := Ground.data }], guard := none }) rfl (fun K hK => ?_) AllReadyH.nil
      go_simp
      refine hK.out _ _ ?_ (fun hHeld => ?_)
      · trivial
      clear hK K
      try simp only [Act.put, List.setIfInBounds_toArray, List.set_cons_zero, List.set_cons_succ]
      refine wpAnyH_take (i := 8) (oi := { dst := some 25, op := Op.nilCheck (Operand.tmp 17), type := 0, pos := _, after := #[{ on := 0, ground := Ground.data }, { on := 0, ground := Ground.phase }, { on := 1, ground := Ground.textOnly Departure.lateStores }, { on := 2, ground := Ground.phase }, { on := 3, ground := Ground.phase }, { on := 4, ground := Ground.phase }, { on := 5, ground := Ground.phase }, { on := 6, ground := Ground.textOnly Departure.lateStores }, { on := 7, ground := Ground.phase }], guard := none }) (v := ?_) rfl (by kernel_rfl) (by kernel_rfl) (by kernel_rfl) (fun _ _ _ h => h) (Or.inl ⟨by rfl, ?_⟩) (by assumption) ?_
      rotate_left
      · intro w hSw; (try dsimp only at hSw); go_simp; (try with_reducible rfl)
      try simp only [Act.put, List.setIfInBounds_toArray, List.set_cons_zero, List.set_cons_succ]
      refine wpAnyH_take (i := 9) (oi := { dst := some 26, op := Op.fieldAddr 41 (Operand.tmp 25) 4, type := 0, pos := _, after := #[{ on := 8, ground := Ground.data }, { on := 0, ground := Ground.phase }, { on := 1, ground := Ground.textOnly Departure.lateStores }, { on := 2, ground := Ground.phase }, { on := 3, ground := Ground.phase }, { on := 4, ground := Ground.phase }, { on := 5, ground := Ground.phase }, { on := 6, ground := Ground.textOnly Departure.lateStores }, { on := 7, ground := Ground.phase }], guard := none }) (v := ?_) rfl (by kernel_rfl) (by kernel_rfl) (by kernel_rfl) (fun _ _ _ h => h) (Or.inl ⟨by rfl, ?_⟩) (by assumption) ?_
      rotate_left
      · intro w hSw; (try dsimp only at hSw); go_simp; (try with_reducible rfl)
      try simp only [Act.put, List.setIfInBounds_toArray, List.set_cons_zero, List.set_cons_succ]
      refine wpAnyH_ready (rs := [10]) (by kernel_rfl) (by simp) ?_
      refine AllReadyH.cons (o := { dst := none, op := Op.store 9 (Operand.tmp 26) (Operand.tmp 22), type := 0, pos := _, after := #[{ on := 9, ground := Ground.data }, { on := 5, ground := Ground.data }, { on := 7, ground := Ground.chain }, { on := 0, ground := Ground.phase }, { on := 1, ground := Ground.textOnly Departure.lateStores }, { on := 2, ground := Ground.phase }, { on := 3, ground := Ground.phase }, { on := 4, ground := Ground.phase }, { on := 5, ground := Ground.phase }, { on := 6, ground := Ground.textOnly Departure.lateStores }, { on := 7, ground := Ground.phase }], guard := none }) rfl (fun K hK => ?_) AllReadyH.nil
      go_simp
      refine hK.out _ _ ?_ (fun hHeld => ?_)
      · trivial
      clear hK K
      try simp only [Act.put, List.setIfInBounds_toArray, List.set_cons_zero, List.set_cons_succ]
      refine wpAnyH_take (i := 11) (oi := { dst := some 27, op := Op.nilCheck (Operand.tmp 18), type := 0, pos := _, after := #[{ on := 1, ground := Ground.data }, { on := 0, ground := Ground.phase }, { on := 1, ground := Ground.phase }, { on := 2, ground := Ground.phase }, { on := 3, ground := Ground.phase }, { on := 4, ground := Ground.phase }, { on := 5, ground := Ground.phase }, { on := 6, ground := Ground.phase }, { on := 7, ground := Ground.phase }, { on := 8, ground := Ground.phase }, { on := 9, ground := Ground.phase }, { on := 10, ground := Ground.phase }], guard := none }) (v := ?_) rfl (by kernel_rfl) (by kernel_rfl) (by kernel_rfl) (fun _ _ _ h => h) (Or.inl ⟨by rfl, ?_⟩) (by assumption) ?_
      rotate_left
      · intro w hSw; (try dsimp only at hSw); go_simp; (try with_reducible rfl)
      try simp only [Act.put, List.setIfInBounds_toArray, List.set_cons_zero, List.set_cons_succ]
      refine wpAnyH_take (i := 12) (oi := { dst := some 28, op := Op.fieldAddr 41 (Operand.tmp 27) 5, type := 0, pos := _, after := #[{ on := 11, ground := Ground.data }, { on := 0, ground := Ground.phase }, { on := 1, ground := Ground.phase }, { on := 2, ground := Ground.phase }, { on := 3, ground := Ground.phase }, { on := 4, ground := Ground.phase }, { on := 5, ground := Ground.phase }, { on := 6, ground := Ground.phase }, { on := 7, ground := Ground.phase }, { on := 8, ground := Ground.phase }, { on := 9, ground := Ground.phase }, { on := 10, ground := Ground.phase }], guard := none }) (v := ?_) rfl (by kernel_rfl) (by kernel_rfl) (by kernel_rfl) (fun _ _ _ h => h) (Or.inl ⟨by rfl, ?_⟩) (by assumption) ?_
      rotate_left
      · intro w hSw; (try dsimp only at hSw); go_simp; (try with_reducible rfl)
      try simp only [Act.put, List.setIfInBounds_toArray, List.set_cons_zero, List.set_cons_succ]
      refine wpAnyH_ready (rs := [13]) (by kernel_rfl) (by simp) ?_
      refine AllReadyH.cons (o := { dst := none, op := Op.store 9 (Operand.tmp 28) (Operand.tmp 24), type := 0, pos := _, after := #[{ on := 12, ground := Ground.data }, { on := 7, ground := Ground.data }, { on := 10, ground := Ground.chain }, { on := 0, ground := Ground.phase }, { on := 1, ground := Ground.phase }, { on := 2, ground := Ground.phase }, { on := 3, ground := Ground.phase }, { on := 4, ground := Ground.phase }, { on := 5, ground := Ground.phase }, { on := 6, ground := Ground.phase }, { on := 7, ground := Ground.phase }, { on := 8, ground := Ground.phase }, { on := 9, ground := Ground.phase }, { on := 10, ground := Ground.phase }], guard := none }) rfl (fun K hK => ?_) AllReadyH.nil
      go_simp
      refine hK.out _ _ ?_ (fun hHeld => ?_)
      · trivial
      clear hK K
      try simp only [Act.put, List.setIfInBounds_toArray, List.set_cons_zero, List.set_cons_succ]
      refine wpAnyH_done (by kernel_rfl) ?_ _
      have H3s : Hid (St8 en w ((w3.setCell ⟨sb, 4, none⟩ (.string v1)).setCell ⟨sb, 5, none⟩ (.string v3)) b sb s3 ⟨d, x, nm, z, v1, v3, ag, n, bd, ot, ln, cl⟩) := Lib.hid ((H3.out.set_t v1).set_f v3)
      go_wp2_with fail
      refine (called_any en b sb s3 ⟨d, x, nm, z, v1, v3, ag, n, bd, ot, ln, cl⟩ 12 _ H3s.out.pr H3s.out.ss).mono ?_
      rintro e4 w4 ⟨rfl, h4⟩
      have H4 := Lib.hid (H3s.out.callS h4)
      clear h4
      obtain ⟨p4, eb4⟩ : ∃ q, (called en ⟨d, x, nm, z, v1, v3, ag, n, bd, ot, ln, cl⟩ 12 s3).2.1 = q := ⟨_, rfl⟩
      rw [eb4] at H4
      obtain ⟨s4, ec4⟩ : ∃ q, (called en ⟨d, x, nm, z, v1, v3, ag, n, bd, ot, ln, cl⟩ 12 s3).2.2 = q := ⟨_, rfl⟩
      rw [ec4] at H4
      have Heb4 := Lib.hid eb4
      clear eb4
      have Hec4 := Lib.hid ec4
      clear ec4
      obtain ⟨d4, x4, y4, z4, t4, f4, ag4, n4, bd4, ot4, ln4, cl4⟩ := p4
      cases hq4 : (called en ⟨d, x, nm, z, v1, v3, ag, n, bd, ot, ln, cl⟩ 12 s3).1 with
      | true =>
        have HQ4 := Lib.hid hq4
        clear hq4
        go_wp2_with fail
        (first | go_end0 | refine bodyPost_ret (v := .tuple #[]) (by simp [results, Tryz.results95, go_sem]) rfl ?_)
        have EF : ofVariable en ⟨d, x, y, z, t, f, ag, n, bd, ot, ln, cl⟩ nm s = (⟨d4, x4, y4, z4, t4, f4, ag4, n4, bd4, ot4, ln4, cl4⟩, s4) := by
          refine Prod.ext ?_ ?_ <;> (unfold ofVariable; simp only [Hes1.out, Hea1.out, Hes2.out, HQ2.out, Hes3.out, Hea3.out, Heb4.out, Hec4.out, HQ4.out, if_true, if_false, Bool.false_eq_true, reduceIte])
        rw [EF]
        exact ⟨rfl, H4.out⟩
      | false =>
        have HQ4 := Lib.hid hq4
        clear hq4
        go_wp2_with fail
        refine (refuse_any en b 10 s4 _ H4.out.pr).mono ?_
        rintro e5 w5 ⟨rfl, h5, t5⟩
        have H5 := Lib.hid (H4.out.call h5 t5)
        clear h5 t5
        obtain ⟨s5, es5⟩ : ∃ q, refuse en 10 s4 = q := ⟨_, rfl⟩
        rw [es5] at H5
        have Hes5 := Lib.hid es5
        clear es5
        go_wp2_with fail
        (first | go_end0 | refine bodyPost_ret (v := .tuple #[]) (by simp [results, Tryz.results95, go_sem]) rfl ?_)
        have EF : ofVariable en ⟨d, x, y, z, t, f, ag, n, bd, ot, ln, cl⟩ nm s = (⟨d4, x4, y4, z4, t4, f4, ag4, n4, bd4, ot4, ln4, cl4⟩, s5) := by
          refine Prod.ext ?_ ?_ <;> (unfold ofVariable; simp only [Hes1.out, Hea1.out, Hes2.out, HQ2.out, Hes3.out, Hea3.out, Heb4.out, Hec4.out, HQ4.out, Hes5.out, if_true, if_false, Bool.false_eq_true, reduceIte])
        rw [EF]
        exact ⟨rfl, H5.out⟩
  | false =>
    have HQ2 := Lib.hid hq2
    clear hq2
    go_wp2_with fail
    refine (called_any en b sb s2 ⟨d, x, nm, z, t, v1, ag, n, bd, ot, ln, cl⟩ 11 _ H2.out.pr H2.out.ss).mono ?_
    rintro e3 w3 ⟨rfl, h3⟩
    have H3 := Lib.hid (H2.out.callS h3)
    clear h3
    obtain ⟨p3, eb3⟩ : ∃ q, (called en ⟨d, x, nm, z, t, v1, ag, n, bd, ot, ln, cl⟩ 11 s2).2.1 = q := ⟨_, rfl⟩
    rw [eb3] at H3
    obtain ⟨s3, ec3⟩ : ∃ q, (called en ⟨d, x, nm, z, t, v1, ag, n, bd, ot, ln, cl⟩ 11 s2).2.2 = q := ⟨_, rfl⟩
    rw [ec3] at H3
    have Heb3 := Lib.hid eb3
    clear eb3
    have Hec3 := Lib.hid ec3
    clear ec3
    obtain ⟨d3, x3, y3, z3, t3, f3, ag3, n3, bd3, ot3, ln3, cl3⟩ := p3
    cases hq3 : (called en ⟨d, x, nm, z, t, v1, ag, n, bd, ot, ln, cl⟩ 11 s2).1 with
    | true =>
      have HQ3 := Lib.hid hq3
      clear hq3
      go_wp2_with fail
      (first | go_end0 | refine bodyPost_ret (v := .tuple #[]) (by simp [results, Tryz.results95, go_sem]) rfl ?_)
      have EF : ofVariable en ⟨d, x, y, z, t, f, ag, n, bd, ot, ln, cl⟩ nm s = (⟨d3, x3, y3, z3, t3, f3, ag3, n3, bd3, ot3, ln3, cl3⟩, s3) := by
        refine Prod.ext ?_ ?_ <;> (unfold ofVariable; simp only [Hes1.out, Hea1.out, Hes2.out, HQ2.out, Heb3.out, Hec3.out, HQ3.out, if_true, if_false, Bool.false_eq_true, reduceIte])
      rw [EF]
      exact ⟨rfl, H3.out⟩
    | false =>
      have HQ3 := Lib.hid hq3
      clear hq3
      obtain ⟨U1_3, U2_3, U3_3, hcc, hff⟩ := H3.out.ss.cells
      have c3_d : w3.cell? ⟨sb, 0, none⟩ = some (.int .i64 d3) := hcc 0
      have g3_d : w3.frozen? ⟨sb, 0, none⟩ = false := hff 0
      clear hcc hff
      have H3s : Hid (St8 en w (w3.setCell ⟨sb, 0, none⟩ (.int .i64 5)) b sb s3 ⟨5, x3, y3, z3, t3, f3, ag3, n3, bd3, ot3, ln3, cl3⟩) := Lib.hid (H3.out.set_d 5)
      go_wp2_with fail
      (first | go_end0 | refine bodyPost_ret (v := .tuple #[]) (by simp [results, Tryz.results95, go_sem]) rfl ?_)
      have EF : ofVariable en ⟨d, x, y, z, t, f, ag, n, bd, ot, ln, cl⟩ nm s = (⟨5, x3, y3, z3, t3, f3, ag3, n3, bd3, ot3, ln3, cl3⟩, s3) := by
        refine Prod.ext ?_ ?_ <;> (unfold ofVariable; simp only [Hes1.out, Hea1.out, Hes2.out, HQ2.out, Heb3.out, Hec3.out, HQ3.out, if_true, if_false, Bool.false_eq_true, reduceIte])
      rw [EF]
      exact ⟨rfl, H3s.out⟩

end Go.Proofs.YtnmhcgkccchacaaGreatDoor

/- Walks of the parser's functions, printed by gen7.py: worked. -/
set_option linter.unusedSimpArgs false
set_option linter.unusedVariables false
set_option maxRecDepth 100000
namespace Go.Proofs.YtnmhcgkccchacaaGreatDoor
open Go.RowKit

set_option maxHeartbeats 6400000 in
theorem worked_any (en : Nat × Nat) (b sb : Nat) (s : RS) (p : Sf) (nm : ByteArray) (w : World) (hP : Pr en w b s) (hS : Sb w b sb p) :
    Calls Tryz.prog 123 #[.pointer (some ⟨b, 0, none⟩), .pointer (some ⟨sb, 0, none⟩), .string nm] w fun e w' => e = .returned (.tuple #[]) ∧ St8 en w w' b sb (worked en p nm s).2 (worked en p nm s).1 := by
  obtain ⟨d, x, y, z, t, f, ag, n, bd, ot, ln, cl⟩ := p
  have H0 := Lib.hid (St8.mk0 hP hS)
  clear hP hS
  go_enter Tryz.func123, Tryz.ntmps123
  go_wp2_with fail
  refine (pSkip_any en b s [46] _ rfl _ H0.out.pr).mono ?_
  rintro e1 w1 ⟨rfl, h1, t1⟩
  have H1 := Lib.hid (H0.out.call h1 t1)
  clear h1 t1
  obtain ⟨s1, es1⟩ : ∃ q, (skip en [46] s).2 = q := ⟨_, rfl⟩
  rw [es1] at H1
  have Hes1 := Lib.hid es1
  clear es1
  cases hq1 : (skip en [46] s).1 with
  | true =>
    have HQ1 := Lib.hid hq1
    clear hq1
    go_wp2_with fail
    refine (ofVariable_any en b sb s1 ⟨d, x, y, z, t, f, ag, n, bd, ot, ln, cl⟩ nm _ H1.out.pr H1.out.ss).mono ?_
    rintro e2 w2 ⟨rfl, h2⟩
    have H2 := Lib.hid (H1.out.callS h2)
    clear h2
    obtain ⟨p2, eb2⟩ : ∃ q, (ofVariable en ⟨d, x, y, z, t, f, ag, n, bd, ot, ln, cl⟩ nm s1).1 = q := ⟨_, rfl⟩
    rw [eb2] at H2
    obtain ⟨s2, ec2⟩ : ∃ q, (ofVariable en ⟨d, x, y, z, t, f, ag, n, bd, ot, ln, cl⟩ nm s1).2 = q := ⟨_, rfl⟩
    rw [ec2] at H2
    have Heb2 := Lib.hid eb2
    clear eb2
    have Hec2 := Lib.hid ec2
    clear ec2
    obtain ⟨d2, x2, y2, z2, t2, f2, ag2, n2, bd2, ot2, ln2, cl2⟩ := p2
    go_wp2_with fail
    (first | go_end0 | refine bodyPost_ret (v := .tuple #[]) (by simp [results, Tryz.results123, go_sem]) rfl ?_)
    have EF : worked en ⟨d, x, y, z, t, f, ag, n, bd, ot, ln, cl⟩ nm s = (⟨d2, x2, y2, z2, t2, f2, ag2, n2, bd2, ot2, ln2, cl2⟩, s2) := by
      refine Prod.ext ?_ ?_ <;> (unfold worked; simp only [Hes1.out, HQ1.out, Heb2.out, Hec2.out, if_true, if_false, Bool.false_eq_true, reduceIte])
    rw [EF]
    exact ⟨rfl, H2.out⟩
  | false =>
    have HQ1 := Lib.hid hq1
    clear hq1
    go_wp2_with fail
    refine (pSkip_any en b s1 [58, 58] _ rfl _ H1.out.pr).mono ?_
    rintro e2 w2 ⟨rfl, h2, t2⟩
    have H2 := Lib.hid (H1.out.call h2 t2)
    clear h2 t2
    obtain ⟨s2, es2⟩ : ∃ q, (skip en [58, 58] s1).2 = q := ⟨_, rfl⟩
    rw [es2] at H2
    have Hes2 := Lib.hid es2
    clear es2
    cases hq2 : (skip en [58, 58] s1).1 with
    | true =>
      have HQ2 := Lib.hid hq2
      clear hq2
      go_wp2_with fail
      refine (pName_any en b s2 _ H2.out.pr).mono ?_
      rintro e3 w3 ⟨rfl, h3, t3⟩
      have H3 := Lib.hid (H2.out.call h3 t3)
      clear h3 t3
      obtain ⟨v3, ea3⟩ : ∃ v, (name en s2).1 = v := ⟨_, rfl⟩
      rw [ea3]
      obtain ⟨s3, es3⟩ : ∃ q, (name en s2).2 = q := ⟨_, rfl⟩
      rw [es3] at H3
      have Hes3 := Lib.hid es3
      clear es3
      have Hea3 := Lib.hid ea3
      clear ea3
      obtain ⟨U1_3, U2_3, U3_3, hcc, hff⟩ := H3.out.ss.cells
      have c3_f : w3.cell? ⟨sb, 5, none⟩ = some (.string f) := hcc 5
      have g3_f : w3.frozen? ⟨sb, 5, none⟩ = false := hff 5
      have c3_t : w3.cell? ⟨sb, 4, none⟩ = some (.string t) := hcc 4
      have g3_t : w3.frozen? ⟨sb, 4, none⟩ = false := hff 4
      clear hcc hff
      have H3s : Hid (St8 en w ((w3.setCell ⟨sb, 4, none⟩ (.string nm)).setCell ⟨sb, 5, none⟩ (.string v3)) b sb s3 ⟨d, x, y, z, nm, v3, ag, n, bd, ot, ln, cl⟩) := Lib.hid ((H3.out.set_t nm).set_f v3)
      go_wp2_with fail
      refine (called_any en b sb s3 ⟨d, x, y, z, nm, v3, ag, n, bd, ot, ln, cl⟩ 13 _ H3s.out.pr H3s.out.ss).mono ?_
      rintro e4 w4 ⟨rfl, h4⟩
      have H4 := Lib.hid (H3s.out.callS h4)
      clear h4
      obtain ⟨p4, eb4⟩ : ∃ q, (called en ⟨d, x, y, z, nm, v3, ag, n, bd, ot, ln, cl⟩ 13 s3).2.1 = q := ⟨_, rfl⟩
      rw [eb4] at H4
      obtain ⟨s4, ec4⟩ : ∃ q, (called en ⟨d, x, y, z, nm, v3, ag, n, bd, ot, ln, cl⟩ 13 s3).2.2 = q := ⟨_, rfl⟩
      rw [ec4] at H4
      have Heb4 := Lib.hid eb4
      clear eb4
      have Hec4 := Lib.hid ec4
      clear ec4
      obtain ⟨d4, x4, y4, z4, t4, f4, ag4, n4, bd4, ot4, ln4, cl4⟩ := p4
      cases hq4 : (called en ⟨d, x, y, z, nm, v3, ag, n, bd, ot, ln, cl⟩ 13 s3).1 with
      | true =>
        have HQ4 := Lib.hid hq4
        clear hq4
        go_wp2_with fail
        (first | go_end0 | refine bodyPost_ret (v := .tuple #[]) (by simp [results, Tryz.results123, go_sem]) rfl ?_)
        have EF : worked en ⟨d, x, y, z, t, f, ag, n, bd, ot, ln, cl⟩ nm s = (⟨d4, x4, y4, z4, t4, f4, ag4, n4, bd4, ot4, ln4, cl4⟩, s4) := by
          refine Prod.ext ?_ ?_ <;> (unfold worked; simp only [Hes1.out, HQ1.out, Hes2.out, HQ2.out, Hes3.out, Hea3.out, Heb4.out, Hec4.out, HQ4.out, if_true, if_false, Bool.false_eq_true, reduceIte])
        rw [EF]
        exact ⟨rfl, H4.out⟩
      | false =>
        have HQ4 := Lib.hid hq4
        clear hq4
        obtain ⟨U1_4, U2_4, U3_4, hcc, hff⟩ := H4.out.ss.cells
        have c4_d : w4.cell? ⟨sb, 0, none⟩ = some (.int .i64 d4) := hcc 0
        have g4_d : w4.frozen? ⟨sb, 0, none⟩ = false := hff 0
        clear hcc hff
        have H4s : Hid (St8 en w (w4.setCell ⟨sb, 0, none⟩ (.int .i64 7)) b sb s4 ⟨7, x4, y4, z4, t4, f4, ag4, n4, bd4, ot4, ln4, cl4⟩) := Lib.hid (H4.out.set_d 7)
        go_wp2_with fail
        (first | go_end0 | refine bodyPost_ret (v := .tuple #[]) (by simp [results, Tryz.results123, go_sem]) rfl ?_)
        have EF : worked en ⟨d, x, y, z, t, f, ag, n, bd, ot, ln, cl⟩ nm s = (⟨7, x4, y4, z4, t4, f4, ag4, n4, bd4, ot4, ln4, cl4⟩, s4) := by
          refine Prod.ext ?_ ?_ <;> (unfold worked; simp only [Hes1.out, HQ1.out, Hes2.out, HQ2.out, Hes3.out, Hea3.out, Heb4.out, Hec4.out, HQ4.out, if_true, if_false, Bool.false_eq_true, reduceIte])
        rw [EF]
        exact ⟨rfl, H4s.out⟩
    | false =>
      have HQ2 := Lib.hid hq2
      clear hq2
      go_wp2_with fail
      refine (pSkip_any en b s2 [91] _ rfl _ H2.out.pr).mono ?_
      rintro e3 w3 ⟨rfl, h3, t3⟩
      have H3 := Lib.hid (H2.out.call h3 t3)
      clear h3 t3
      obtain ⟨s3, es3⟩ : ∃ q, (skip en [91] s2).2 = q := ⟨_, rfl⟩
      rw [es3] at H3
      have Hes3 := Lib.hid es3
      clear es3
      cases hq3 : (skip en [91] s2).1 with
      | true =>
        have HQ3 := Lib.hid hq3
        clear hq3
        go_wp2_with fail
        refine (pName_any en b s3 _ H3.out.pr).mono ?_
        rintro e4 w4 ⟨rfl, h4, t4⟩
        have H4 := Lib.hid (H3.out.call h4 t4)
        clear h4 t4
        obtain ⟨v4, ea4⟩ : ∃ v, (name en s3).1 = v := ⟨_, rfl⟩
        rw [ea4]
        obtain ⟨s4, es4⟩ : ∃ q, (name en s3).2 = q := ⟨_, rfl⟩
        rw [es4] at H4
        have Hes4 := Lib.hid es4
        clear es4
        have Hea4 := Lib.hid ea4
        clear ea4
        obtain ⟨U1_4, U2_4, U3_4, hcc, hff⟩ := H4.out.ss.cells
        have c4_d : w4.cell? ⟨sb, 0, none⟩ = some (.int .i64 d) := hcc 0
        have g4_d : w4.frozen? ⟨sb, 0, none⟩ = false := hff 0
        have c4_y : w4.cell? ⟨sb, 2, none⟩ = some (.string y) := hcc 2
        have g4_y : w4.frozen? ⟨sb, 2, none⟩ = false := hff 2
        have c4_z : w4.cell? ⟨sb, 3, none⟩ = some (.string z) := hcc 3
        have g4_z : w4.frozen? ⟨sb, 3, none⟩ = false := hff 3
        clear hcc hff
        have H4s : Hid (St8 en w (((w4.setCell ⟨sb, 0, none⟩ (.int .i64 9)).setCell ⟨sb, 2, none⟩ (.string nm)).setCell ⟨sb, 3, none⟩ (.string v4)) b sb s4 ⟨9, x, nm, v4, t, f, ag, n, bd, ot, ln, cl⟩) := Lib.hid (((H4.out.set_d 9).set_y nm).set_z v4)
        go_wp2_with fail
        refine (takeN_any en b s4 [93] _ w4.heap.size (by simp) _ rfl H4s.out.pr).mono ?_
        rintro e5 w5 ⟨rfl, h5, t5⟩
        have H5 := Lib.hid (H4s.out.call h5 t5)
        clear h5 t5
        obtain ⟨s5, es5⟩ : ∃ q, take en [93] s4 = q := ⟨_, rfl⟩
        rw [es5] at H5
        have Hes5 := Lib.hid es5
        clear es5
        go_wp2_with fail
        (first | go_end0 | refine bodyPost_ret (v := .tuple #[]) (by simp [results, Tryz.results123, go_sem]) rfl ?_)
        have EF : worked en ⟨d, x, y, z, t, f, ag, n, bd, ot, ln, cl⟩ nm s = (⟨9, x, nm, v4, t, f, ag, n, bd, ot, ln, cl⟩, s5) := by
          refine Prod.ext ?_ ?_ <;> (unfold worked; simp only [Hes1.out, HQ1.out, Hes2.out, HQ2.out, Hes3.out, HQ3.out, Hes4.out, Hea4.out, Hes5.out, if_true, if_false, Bool.false_eq_true, reduceIte])
        rw [EF]
        exact ⟨rfl, H5.out⟩
      | false =>
        have HQ3 := Lib.hid hq3
        clear hq3
        go_wp2_with fail
        refine (pSkip_any en b s3 [43] _ rfl _ H3.out.pr).mono ?_
        rintro e4 w4 ⟨rfl, h4, t4⟩
        have H4 := Lib.hid (H3.out.call h4 t4)
        clear h4 t4
        obtain ⟨s4, es4⟩ : ∃ q, (skip en [43] s3).2 = q := ⟨_, rfl⟩
        rw [es4] at H4
        have Hes4 := Lib.hid es4
        clear es4
        cases hq4 : (skip en [43] s3).1 with
        | true =>
          have HQ4 := Lib.hid hq4
          clear hq4
          go_wp2_with fail
          refine (pName_any en b s4 _ H4.out.pr).mono ?_
          rintro e5 w5 ⟨rfl, h5, t5⟩
          have H5 := Lib.hid (H4.out.call h5 t5)
          clear h5 t5
          obtain ⟨v5, ea5⟩ : ∃ v, (name en s4).1 = v := ⟨_, rfl⟩
          rw [ea5]
          obtain ⟨s5, es5⟩ : ∃ q, (name en s4).2 = q := ⟨_, rfl⟩
          rw [es5] at H5
          have Hes5 := Lib.hid es5
          clear es5
          have Hea5 := Lib.hid ea5
          clear ea5
          obtain ⟨U1_5, U2_5, U3_5, hcc, hff⟩ := H5.out.ss.cells
          have c5_d : w5.cell? ⟨sb, 0, none⟩ = some (.int .i64 d) := hcc 0
          have g5_d : w5.frozen? ⟨sb, 0, none⟩ = false := hff 0
          have c5_y : w5.cell? ⟨sb, 2, none⟩ = some (.string y) := hcc 2
          have g5_y : w5.frozen? ⟨sb, 2, none⟩ = false := hff 2
          have c5_z : w5.cell? ⟨sb, 3, none⟩ = some (.string z) := hcc 3
          have g5_z : w5.frozen? ⟨sb, 3, none⟩ = false := hff 3
          clear hcc hff
          have H5s : Hid (St8 en w (((w5.setCell ⟨sb, 0, none⟩ (.int .i64 15)).setCell ⟨sb, 2, none⟩ (.string nm)).setCell ⟨sb, 3, none⟩ (.string v5)) b sb s5 ⟨15, x, nm, v5, t, f, ag, n, bd, ot, ln, cl⟩) := Lib.hid (((H5.out.set_d 15).set_y nm).set_z v5)
          go_wp2_with fail
          (first | go_end0 | refine bodyPost_ret (v := .tuple #[]) (by simp [results, Tryz.results123, go_sem]) rfl ?_)
          have EF : worked en ⟨d, x, y, z, t, f, ag, n, bd, ot, ln, cl⟩ nm s = (⟨15, x, nm, v5, t, f, ag, n, bd, ot, ln, cl⟩, s5) := by
            refine Prod.ext ?_ ?_ <;> (unfold worked; simp only [Hes1.out, HQ1.out, Hes2.out, HQ2.out, Hes3.out, HQ3.out, Hes4.out, HQ4.out, Hes5.out, Hea5.out, if_true, if_false, Bool.false_eq_true, reduceIte])
          rw [EF]
          exact ⟨rfl, H5s.out⟩
        | false =>
          have HQ4 := Lib.hid hq4
          clear hq4
          go_wp2_with fail
          refine (pSkip_any en b s4 [45] _ rfl _ H4.out.pr).mono ?_
          rintro e5 w5 ⟨rfl, h5, t5⟩
          have H5 := Lib.hid (H4.out.call h5 t5)
          clear h5 t5
          obtain ⟨s5, es5⟩ : ∃ q, (skip en [45] s4).2 = q := ⟨_, rfl⟩
          rw [es5] at H5
          have Hes5 := Lib.hid es5
          clear es5
          cases hq5 : (skip en [45] s4).1 with
          | true =>
            have HQ5 := Lib.hid hq5
            clear hq5
            go_wp2_with fail
            refine (pName_any en b s5 _ H5.out.pr).mono ?_
            rintro e6 w6 ⟨rfl, h6, t6⟩
            have H6 := Lib.hid (H5.out.call h6 t6)
            clear h6 t6
            obtain ⟨v6, ea6⟩ : ∃ v, (name en s5).1 = v := ⟨_, rfl⟩
            rw [ea6]
            obtain ⟨s6, es6⟩ : ∃ q, (name en s5).2 = q := ⟨_, rfl⟩
            rw [es6] at H6
            have Hes6 := Lib.hid es6
            clear es6
            have Hea6 := Lib.hid ea6
            clear ea6
            obtain ⟨U1_6, U2_6, U3_6, hcc, hff⟩ := H6.out.ss.cells
            have c6_d : w6.cell? ⟨sb, 0, none⟩ = some (.int .i64 d) := hcc 0
            have g6_d : w6.frozen? ⟨sb, 0, none⟩ = false := hff 0
            have c6_y : w6.cell? ⟨sb, 2, none⟩ = some (.string y) := hcc 2
            have g6_y : w6.frozen? ⟨sb, 2, none⟩ = false := hff 2
            have c6_z : w6.cell? ⟨sb, 3, none⟩ = some (.string z) := hcc 3
            have g6_z : w6.frozen? ⟨sb, 3, none⟩ = false := hff 3
            clear hcc hff
            have H6s : Hid (St8 en w (((w6.setCell ⟨sb, 0, none⟩ (.int .i64 16)).setCell ⟨sb, 2, none⟩ (.string nm)).setCell ⟨sb, 3, none⟩ (.string v6)) b sb s6 ⟨16, x, nm, v6, t, f, ag, n, bd, ot, ln, cl⟩) := Lib.hid (((H6.out.set_d 16).set_y nm).set_z v6)
            go_wp2_with fail
            (first | go_end0 | refine bodyPost_ret (v := .tuple #[]) (by simp [results, Tryz.results123, go_sem]) rfl ?_)
            have EF : worked en ⟨d, x, y, z, t, f, ag, n, bd, ot, ln, cl⟩ nm s = (⟨16, x, nm, v6, t, f, ag, n, bd, ot, ln, cl⟩, s6) := by
              refine Prod.ext ?_ ?_ <;> (unfold worked; simp only [Hes1.out, HQ1.out, Hes2.out, HQ2.out, Hes3.out, HQ3.out, Hes4.out, HQ4.out, Hes5.out, HQ5.out, Hes6.out, Hea6.out, if_true, if_false, Bool.false_eq_true, reduceIte])
            rw [EF]
            exact ⟨rfl, H6s.out⟩
          | false =>
            have HQ5 := Lib.hid hq5
            clear hq5
            obtain ⟨U1_5, U2_5, U3_5, hcc, hff⟩ := H5.out.ss.cells
            have c5_d : w5.cell? ⟨sb, 0, none⟩ = some (.int .i64 d) := hcc 0
            have g5_d : w5.frozen? ⟨sb, 0, none⟩ = false := hff 0
            have c5_y : w5.cell? ⟨sb, 2, none⟩ = some (.string y) := hcc 2
            have g5_y : w5.frozen? ⟨sb, 2, none⟩ = false := hff 2
            clear hcc hff
            have H5s : Hid (St8 en w ((w5.setCell ⟨sb, 0, none⟩ (.int .i64 3)).setCell ⟨sb, 2, none⟩ (.string nm)) b sb s5 ⟨3, x, nm, z, t, f, ag, n, bd, ot, ln, cl⟩) := Lib.hid ((H5.out.set_d 3).set_y nm)
            go_wp2_with fail
            (first | go_end0 | refine bodyPost_ret (v := .tuple #[]) (by simp [results, Tryz.results123, go_sem]) rfl ?_)
            have EF : worked en ⟨d, x, y, z, t, f, ag, n, bd, ot, ln, cl⟩ nm s = (⟨3, x, nm, z, t, f, ag, n, bd, ot, ln, cl⟩, s5) := by
              refine Prod.ext ?_ ?_ <;> (unfold worked; simp only [Hes1.out, HQ1.out, Hes2.out, HQ2.out, Hes3.out, HQ3.out, Hes4.out, HQ4.out, Hes5.out, HQ5.out, if_true, if_false, Bool.false_eq_true, reduceIte])
            rw [EF]
            exact ⟨rfl, H5s.out⟩

end Go.Proofs.YtnmhcgkccchacaaGreatDoor

/- The functions of Go's library that the program calls, found in it by their texts. -/
set_option linter.unusedVariables false
namespace Go.Proofs.YtnmhcgkccchacaaGreatDoor
open Go.Shelf
def lays244_ren : Go.Shelf.Ren := ⟨fun | 244 => 142 | 247 => 155 | 287 => 163 | 321 => 167 | 322 => 168 | n => n, fun | 9 => 9 | 3 => 3 | 75 => 162 | 4 => 4 | 5 => 5 | 167 => 185 | 37 => 167 | 0 => 0 | 85 => 186 | 2 => 2 | 53 => 166 | 175 => 192 | 46 => 194 | 21 => 21 | 80 => 114 | n => n, fun | n => n⟩
theorem lays244 : Go.Proofs.Lays.n244 Tryz.prog lays244_ren := {
  mixed := by kernel_rfl
  f244 := Tryz.func142.trans (congrArg some (by kernel_rfl))
  f247 := Tryz.func155.trans (congrArg some (by kernel_rfl))
  f287 := Tryz.func163.trans (congrArg some (by kernel_rfl))
  f321 := Tryz.func167.trans (congrArg some (by kernel_rfl))
  f322 := Tryz.func168.trans (congrArg some (by kernel_rfl))
  t0 := Tryz.underlying0
  a0 := Tryz.isAgg0
  z0 := Tryz.sizeOf0
  v0 := Tryz.zeroValue0
  t2 := Tryz.underlying2
  a2 := Tryz.isAgg2
  z2 := Tryz.sizeOf2
  v2 := Tryz.zeroValue2
  t3 := Tryz.underlying3
  a3 := Tryz.isAgg3
  z3 := Tryz.sizeOf3
  v3 := Tryz.zeroValue3
  t4 := Tryz.underlying4
  a4 := Tryz.isAgg4
  z4 := Tryz.sizeOf4
  v4 := Tryz.zeroValue4
  t5 := Tryz.underlying5
  a5 := Tryz.isAgg5
  z5 := Tryz.sizeOf5
  v5 := Tryz.zeroValue5
  t9 := Tryz.underlying9
  a9 := Tryz.isAgg9
  z9 := Tryz.sizeOf9
  v9 := Tryz.zeroValue9
  t21 := Tryz.underlying21
  a21 := Tryz.isAgg21
  z21 := Tryz.sizeOf21
  v21 := Tryz.zeroValue21
  t37 := Tryz.underlying167
  a37 := Tryz.isAgg167
  z37 := Tryz.sizeOf167
  v37 := Tryz.zeroValue167
  t46 := Tryz.underlying194
  a46 := Tryz.isAgg194
  z46 := Tryz.sizeOf194
  v46 := Tryz.zeroValue194
  t53 := Tryz.underlying166
  a53 := Tryz.isAgg166
  z53 := Tryz.sizeOf166
  v53 := Tryz.zeroValue166
  t75 := Tryz.underlying162
  a75 := Tryz.isAgg162
  z75 := Tryz.sizeOf162
  v75 := Tryz.zeroValue162
  t85 := Tryz.underlying186
  a85 := Tryz.isAgg186
  z85 := Tryz.sizeOf186
  v85 := Tryz.zeroValue186
  t167 := Tryz.underlying185
  a167 := Tryz.isAgg185
  z167 := Tryz.sizeOf185
  v167 := Tryz.zeroValue185
  t175 := Tryz.underlying192
  a175 := Tryz.isAgg192
  z175 := Tryz.sizeOf192
  v175 := Tryz.zeroValue192 }
def lays172_ren : Go.Shelf.Ren := ⟨fun | 172 => 121 | 244 => 142 | 245 => 143 | 247 => 155 | 279 => 156 | 280 => 157 | 281 => 158 | 282 => 159 | 287 => 163 | 316 => 151 | 171 => 165 | 205 => 164 | 321 => 167 | 322 => 168 | 243 => 169 | 246 => 170 | 283 => 171 | 284 => 172 | 285 => 173 | 286 => 174 | 129 => 176 | 317 => 175 | 318 => 177 | 319 => 178 | 320 => 179 | 337 => 180 | 338 => 181 | n => n, fun | 9 => 9 | 3 => 3 | 75 => 162 | 76 => 163 | 4 => 4 | 5 => 5 | 167 => 185 | 37 => 167 | 0 => 0 | 85 => 186 | 2 => 2 | 168 => 188 | 53 => 166 | 175 => 192 | 46 => 194 | 210 => 196 | 127 => 191 | 145 => 201 | 143 => 199 | 21 => 21 | 171 => 203 | 173 => 206 | 212 => 210 | 51 => 211 | 20 => 20 | 213 => 212 | 232 => 215 | 233 => 216 | 80 => 114 | n => n, fun | 15 => 2 | 16 => 3 | 17 => 5 | 18 => 6 | 19 => 7 | n => n⟩
theorem lays172 : Go.Proofs.Lays.n172 Tryz.prog lays172_ren := {
  mixed := by kernel_rfl
  f129 := Tryz.func176.trans (congrArg some (by kernel_rfl))
  f171 := Tryz.func165.trans (congrArg some (by kernel_rfl))
  f172 := Tryz.func121.trans (congrArg some (by kernel_rfl))
  f205 := Tryz.func164.trans (congrArg some (by kernel_rfl))
  f243 := Tryz.func169.trans (congrArg some (by kernel_rfl))
  f244 := Tryz.func142.trans (congrArg some (by kernel_rfl))
  f245 := Tryz.func143.trans (congrArg some (by kernel_rfl))
  f246 := Tryz.func170.trans (congrArg some (by kernel_rfl))
  f247 := Tryz.func155.trans (congrArg some (by kernel_rfl))
  f279 := Tryz.func156.trans (congrArg some (by kernel_rfl))
  f280 := Tryz.func157.trans (congrArg some (by kernel_rfl))
  f281 := Tryz.func158.trans (congrArg some (by kernel_rfl))
  f282 := Tryz.func159.trans (congrArg some (by kernel_rfl))
  f283 := Tryz.func171.trans (congrArg some (by kernel_rfl))
  f284 := Tryz.func172.trans (congrArg some (by kernel_rfl))
  f285 := Tryz.func173.trans (congrArg some (by kernel_rfl))
  f286 := Tryz.func174.trans (congrArg some (by kernel_rfl))
  f287 := Tryz.func163.trans (congrArg some (by kernel_rfl))
  f316 := Tryz.func151.trans (congrArg some (by kernel_rfl))
  f317 := Tryz.func175.trans (congrArg some (by kernel_rfl))
  f318 := Tryz.func177.trans (congrArg some (by kernel_rfl))
  f319 := Tryz.func178.trans (congrArg some (by kernel_rfl))
  f320 := Tryz.func179.trans (congrArg some (by kernel_rfl))
  f321 := Tryz.func167.trans (congrArg some (by kernel_rfl))
  f322 := Tryz.func168.trans (congrArg some (by kernel_rfl))
  f337 := Tryz.func180.trans (congrArg some (by kernel_rfl))
  f338 := Tryz.func181.trans (congrArg some (by kernel_rfl))
  t0 := Tryz.underlying0
  a0 := Tryz.isAgg0
  z0 := Tryz.sizeOf0
  v0 := Tryz.zeroValue0
  t2 := Tryz.underlying2
  a2 := Tryz.isAgg2
  z2 := Tryz.sizeOf2
  v2 := Tryz.zeroValue2
  t3 := Tryz.underlying3
  a3 := Tryz.isAgg3
  z3 := Tryz.sizeOf3
  v3 := Tryz.zeroValue3
  t4 := Tryz.underlying4
  a4 := Tryz.isAgg4
  z4 := Tryz.sizeOf4
  v4 := Tryz.zeroValue4
  t5 := Tryz.underlying5
  a5 := Tryz.isAgg5
  z5 := Tryz.sizeOf5
  v5 := Tryz.zeroValue5
  t9 := Tryz.underlying9
  a9 := Tryz.isAgg9
  z9 := Tryz.sizeOf9
  v9 := Tryz.zeroValue9
  t20 := Tryz.underlying20
  a20 := Tryz.isAgg20
  z20 := Tryz.sizeOf20
  v20 := Tryz.zeroValue20
  t21 := Tryz.underlying21
  a21 := Tryz.isAgg21
  z21 := Tryz.sizeOf21
  v21 := Tryz.zeroValue21
  t37 := Tryz.underlying167
  a37 := Tryz.isAgg167
  z37 := Tryz.sizeOf167
  v37 := Tryz.zeroValue167
  t46 := Tryz.underlying194
  a46 := Tryz.isAgg194
  z46 := Tryz.sizeOf194
  v46 := Tryz.zeroValue194
  t51 := Tryz.underlying211
  a51 := Tryz.isAgg211
  z51 := Tryz.sizeOf211
  v51 := Tryz.zeroValue211
  t53 := Tryz.underlying166
  a53 := Tryz.isAgg166
  z53 := Tryz.sizeOf166
  v53 := Tryz.zeroValue166
  t75 := Tryz.underlying162
  a75 := Tryz.isAgg162
  z75 := Tryz.sizeOf162
  v75 := Tryz.zeroValue162
  t76 := Tryz.underlying163
  a76 := Tryz.isAgg163
  z76 := Tryz.sizeOf163
  v76 := Tryz.zeroValue163
  t85 := Tryz.underlying186
  a85 := Tryz.isAgg186
  z85 := Tryz.sizeOf186
  v85 := Tryz.zeroValue186
  t127 := Tryz.underlying191
  a127 := Tryz.isAgg191
  z127 := Tryz.sizeOf191
  v127 := Tryz.zeroValue191
  t143 := Tryz.underlying199
  a143 := Tryz.isAgg199
  z143 := Tryz.sizeOf199
  v143 := Tryz.zeroValue199
  t145 := Tryz.underlying201
  a145 := Tryz.isAgg201
  z145 := Tryz.sizeOf201
  v145 := Tryz.zeroValue201
  t167 := Tryz.underlying185
  a167 := Tryz.isAgg185
  z167 := Tryz.sizeOf185
  v167 := Tryz.zeroValue185
  t168 := Tryz.underlying188
  a168 := Tryz.isAgg188
  z168 := Tryz.sizeOf188
  v168 := Tryz.zeroValue188
  t171 := Tryz.underlying203
  a171 := Tryz.isAgg203
  z171 := Tryz.sizeOf203
  v171 := Tryz.zeroValue203
  t173 := Tryz.underlying206
  a173 := Tryz.isAgg206
  z173 := Tryz.sizeOf206
  v173 := Tryz.zeroValue206
  t175 := Tryz.underlying192
  a175 := Tryz.isAgg192
  z175 := Tryz.sizeOf192
  v175 := Tryz.zeroValue192
  t210 := Tryz.underlying196
  a210 := Tryz.isAgg196
  z210 := Tryz.sizeOf196
  v210 := Tryz.zeroValue196
  t212 := Tryz.underlying210
  a212 := Tryz.isAgg210
  z212 := Tryz.sizeOf210
  v212 := Tryz.zeroValue210
  t213 := Tryz.underlying212
  a213 := Tryz.isAgg212
  z213 := Tryz.sizeOf212
  t232 := Tryz.underlying215
  a232 := Tryz.isAgg215
  z232 := Tryz.sizeOf215
  v232 := Tryz.zeroValue215
  t233 := Tryz.underlying216
  a233 := Tryz.isAgg216
  z233 := Tryz.sizeOf216
  v233 := Tryz.zeroValue216
  g15 := by kernel_rfl
  g16 := by kernel_rfl
  g17 := by kernel_rfl
  g18 := by kernel_rfl
  g19 := by kernel_rfl }
end Go.Proofs.YtnmhcgkccchacaaGreatDoor

/- A number's text as a number: strconv.Atoi. -/
set_option linter.unusedSimpArgs false
set_option linter.unusedVariables false
set_option maxRecDepth 100000
namespace Go.Proofs.YtnmhcgkccchacaaGreatDoor
open Go.RowKit

/-- Where the next token is one too many, none is left. -/
def Fr (s : RS) : Prop := s.full = true → s.l = []
theorem refuse_l (en : Nat × Nat) (x : Nat) (s : RS) : (refuse en x s).l = [] := by
  unfold refuse
  split <;> rfl
theorem pass_fr (en : Nat × Nat) (s : RS) : Fr (pass en s).2 := by
  unfold pass
  split
  · exact fun _ => refuse_l en 13 s
  · rename_i h
    split
    · exact fun h2 => absurd h2 h
    · exact fun h2 => absurd h2 h
theorem name_fr (en : Nat × Nat) (s : RS) : Fr (name en s).2 := by
  unfold name
  split
  · exact pass_fr en s
  · exact fun _ => refuse_l en 10 s
theorem skip_fr {en : Nat × Nat} {s : RS} (t : List UInt8) (h : Fr s) : Fr (skip en t s).2 := by
  unfold skip
  split
  · exact pass_fr en s
  · exact h

theorem decFrom_num : ∀ (l : List UInt8) (acc : Nat), (∀ c ∈ l, 48 ≤ c.toNat ∧ c.toNat ≤ 57) → Lib.decFrom acc l = some (l.foldl (fun n c => n * 10 + (c.toNat - 48)) acc)
  | [], acc, _ => rfl
  | c :: l, acc, h => by
    have hc := h c (by simp)
    have hd : Lib.digitVal c = some (c.toNat - 48) := by
      simp only [Lib.digitVal]
      first
      | (rw [if_pos (by simpa [UInt8.le_iff_toNat_le] using hc)])
      | (simp [UInt8.le_iff_toNat_le]; omega)
    unfold Lib.decFrom
    rw [hd]
    exact decFrom_num l _ (fun c hc => h c (by simp [hc]))
theorem atoi_num (l : List UInt8) (hn : l ≠ []) (h : ∀ c ∈ l, 48 ≤ c.toNat ∧ c.toNat ≤ 57) : Lib.atoi l = some (numN l : Int) := by
  cases l with
  | nil => exact absurd rfl hn
  | cons c r =>
    have hc := h c (by simp)
    have h1 : (c == 45) = false := by
      rw [beq_eq_false_iff_ne]
      rintro rfl
      simp at hc
    have h2 : (c == 43) = false := by
      rw [beq_eq_false_iff_ne]
      rintro rfl
      simp at hc
    have hd : Lib.decNat (c :: r) = some (numN (c :: r)) := by
      unfold Lib.decNat
      exact decFrom_num (c :: r) 0 h
    simp only [Lib.atoi, h1, h2, hd]
    rfl
theorem atoi_pass (en : Nat × Nat) (s : RS) (hT : ∀ t ∈ s.l, GoodTok t) (hF : Fr s) (hq : seesNum s = true) : (pass en s).1.size ≤ 18 ∧ Lib.atoi (pass en s).1.data.toList = some (numN (pass en s).1.data.toList : Int) := by
  unfold seesNum at hq
  cases hl : s.l with
  | nil => rw [hl] at hq; cases hq
  | cons t r =>
    rw [hl] at hq
    simp only [decide_eq_true_eq] at hq
    have hf : s.full = false := by
      cases hff : s.full with
      | false => rfl
      | true => have := hF hff; rw [hl] at this; cases this
    obtain ⟨h1, h2⟩ := hT t (by rw [hl]; simp)
    obtain ⟨h3, h4, h5⟩ := h2 hq
    have e : (pass en s).1 = ⟨t.text.toArray⟩ := by
      unfold pass
      rw [hf, hl]
      rfl
    rw [e]
    refine ⟨?_, atoi_num _ h3 h5⟩
    rw [Lib.size_eq]
    simp
    omega
theorem seesNum_ne {s : RS} (h : seesNum s = true) : s.l ≠ [] := fun e => by simp [seesNum, e] at h
theorem atoi_any (v : ByteArray) (w : World) (h : v.size ≤ 18 ∧ Lib.atoi v.data.toList = some (numN v.data.toList : Int)) :
    Calls Tryz.prog 121 #[.string v] w fun e w' => e = .returned (.tuple #[.int .i64 (numN v.data.toList : Int), .nilIface]) ∧ Turn [] w w' := by
  refine (show Calls Tryz.prog 121 _ w _ from Any.strconv_Atoi lays172 v (numN v.data.toList : Int) h.1 h.2 w).mono ?_
  rintro e w' ⟨rfl, t, rfl⟩
  exact ⟨rfl, ⟨rfl, rfl, rfl, by rw [Lib.bytesWorld_size]; omega, fun k hk _ => Lib.bytesWorld_at_old w 5 t k hk⟩⟩
end Go.Proofs.YtnmhcgkccchacaaGreatDoor

/- Walks of the parser's functions, printed by gen7.py: value. -/
set_option linter.unusedSimpArgs false
set_option linter.unusedVariables false
set_option maxRecDepth 100000
namespace Go.Proofs.YtnmhcgkccchacaaGreatDoor
open Go.RowKit

set_option maxHeartbeats 6400000 in
theorem value_any (en : Nat × Nat) (b sb : Nat) (s : RS) (p : Sf) (w : World) (hP : Pr en w b s) (hS : Sb w b sb p) (hF : Fr s) :
    Calls Tryz.prog 92 #[.pointer (some ⟨b, 0, none⟩), .pointer (some ⟨sb, 0, none⟩)] w fun e w' => e = .returned (.tuple #[]) ∧ St8 en w w' b sb (value en p s).2 (value en p s).1 := by
  obtain ⟨d, x, y, z, t, f, ag, n, bd, ot, ln, cl⟩ := p
  have H0 := Lib.hid (St8.mk0 hP hS)
  clear hP hS
  have HF0 := Lib.hid hF
  clear hF
  go_enter Tryz.func92, Tryz.ntmps92
  go_wp2_with fail
  refine (pSkip_any en b s kNew _ rfl _ H0.out.pr).mono ?_
  rintro e1 w1 ⟨rfl, h1, t1⟩
  have H1 := Lib.hid (H0.out.call h1 t1)
  clear h1 t1
  obtain ⟨s1, es1⟩ : ∃ q, (skip en kNew s).2 = q := ⟨_, rfl⟩
  rw [es1] at H1
  have HF1 := Lib.hid (show Fr s1 from es1 ▸ skip_fr _ HF0.out)
  have Hes1 := Lib.hid es1
  clear es1
  cases hq1 : (skip en kNew s).1 with
  | true =>
    have HQ1 := Lib.hid hq1
    clear hq1
    go_wp2_with fail
    refine (made_any en b sb s1 ⟨d, x, y, z, t, f, ag, n, bd, ot, ln, cl⟩ _ H1.out.pr H1.out.ss).mono ?_
    rintro e2 w2 ⟨rfl, h2⟩
    have H2 := Lib.hid (H1.out.callS h2)
    clear h2
    obtain ⟨p2, eb2⟩ : ∃ q, (made en ⟨d, x, y, z, t, f, ag, n, bd, ot, ln, cl⟩ s1).1 = q := ⟨_, rfl⟩
    rw [eb2] at H2
    obtain ⟨s2, ec2⟩ : ∃ q, (made en ⟨d, x, y, z, t, f, ag, n, bd, ot, ln, cl⟩ s1).2 = q := ⟨_, rfl⟩
    rw [ec2] at H2
    have Heb2 := Lib.hid eb2
    clear eb2
    have Hec2 := Lib.hid ec2
    clear ec2
    obtain ⟨d2, x2, y2, z2, t2, f2, ag2, n2, bd2, ot2, ln2, cl2⟩ := p2
    go_wp2_with fail
    (first | go_end0 | refine bodyPost_ret (v := .tuple #[]) (by simp [results, Tryz.results92, go_sem]) rfl ?_)
    have EF : value en ⟨d, x, y, z, t, f, ag, n, bd, ot, ln, cl⟩ s = (⟨d2, x2, y2, z2, t2, f2, ag2, n2, bd2, ot2, ln2, cl2⟩, s2) := by
      refine Prod.ext ?_ ?_ <;> (unfold value; simp only [Hes1.out, HQ1.out, Heb2.out, Hec2.out, if_true, if_false, Bool.false_eq_true, reduceIte])
    rw [EF]
    exact ⟨rfl, H2.out⟩
  | false =>
    have HQ1 := Lib.hid hq1
    clear hq1
    go_wp2_with fail
    refine (pSkip_any en b s1 kNull _ rfl _ H1.out.pr).mono ?_
    rintro e2 w2 ⟨rfl, h2, t2⟩
    have H2 := Lib.hid (H1.out.call h2 t2)
    clear h2 t2
    obtain ⟨s2, es2⟩ : ∃ q, (skip en kNull s1).2 = q := ⟨_, rfl⟩
    rw [es2] at H2
    have HF2 := Lib.hid (show Fr s2 from es2 ▸ skip_fr _ HF1.out)
    have Hes2 := Lib.hid es2
    clear es2
    cases hq2 : (skip en kNull s1).1 with
    | true =>
      have HQ2 := Lib.hid hq2
      clear hq2
      obtain ⟨U1_2, U2_2, U3_2, hcc, hff⟩ := H2.out.ss.cells
      have c2_d : w2.cell? ⟨sb, 0, none⟩ = some (.int .i64 d) := hcc 0
      have g2_d : w2.frozen? ⟨sb, 0, none⟩ = false := hff 0
      clear hcc hff
      have H2s : Hid (St8 en w (w2.setCell ⟨sb, 0, none⟩ (.int .i64 2)) b sb s2 ⟨2, x, y, z, t, f, ag, n, bd, ot, ln, cl⟩) := Lib.hid (H2.out.set_d 2)
      go_wp2_with fail
      (first | go_end0 | refine bodyPost_ret (v := .tuple #[]) (by simp [results, Tryz.results92, go_sem]) rfl ?_)
      have EF : value en ⟨d, x, y, z, t, f, ag, n, bd, ot, ln, cl⟩ s = (⟨2, x, y, z, t, f, ag, n, bd, ot, ln, cl⟩, s2) := by
        refine Prod.ext ?_ ?_ <;> (unfold value; simp only [Hes1.out, HQ1.out, Hes2.out, HQ2.out, if_true, if_false, Bool.false_eq_true, reduceIte])
      rw [EF]
      exact ⟨rfl, H2s.out⟩
    | false =>
      have HQ2 := Lib.hid hq2
      clear hq2
      go_wp2_with fail
      refine (pSkip_any en b s2 kInput _ rfl _ H2.out.pr).mono ?_
      rintro e3 w3 ⟨rfl, h3, t3⟩
      have H3 := Lib.hid (H2.out.call h3 t3)
      clear h3 t3
      obtain ⟨s3, es3⟩ : ∃ q, (skip en kInput s2).2 = q := ⟨_, rfl⟩
      rw [es3] at H3
      have HF3 := Lib.hid (show Fr s3 from es3 ▸ skip_fr _ HF2.out)
      have Hes3 := Lib.hid es3
      clear es3
      cases hq3 : (skip en kInput s2).1 with
      | true =>
        have HQ3 := Lib.hid hq3
        clear hq3
        obtain ⟨U1_3, U2_3, U3_3, hcc, hff⟩ := H3.out.ss.cells
        have c3_d : w3.cell? ⟨sb, 0, none⟩ = some (.int .i64 d) := hcc 0
        have g3_d : w3.frozen? ⟨sb, 0, none⟩ = false := hff 0
        clear hcc hff
        have H3s : Hid (St8 en w (w3.setCell ⟨sb, 0, none⟩ (.int .i64 17)) b sb s3 ⟨17, x, y, z, t, f, ag, n, bd, ot, ln, cl⟩) := Lib.hid (H3.out.set_d 17)
        go_wp2_with fail
        (first | go_end0 | refine bodyPost_ret (v := .tuple #[]) (by simp [results, Tryz.results92, go_sem]) rfl ?_)
        have EF : value en ⟨d, x, y, z, t, f, ag, n, bd, ot, ln, cl⟩ s = (⟨17, x, y, z, t, f, ag, n, bd, ot, ln, cl⟩, s3) := by
          refine Prod.ext ?_ ?_ <;> (unfold value; simp only [Hes1.out, HQ1.out, Hes2.out, HQ2.out, Hes3.out, HQ3.out, if_true, if_false, Bool.false_eq_true, reduceIte])
        rw [EF]
        exact ⟨rfl, H3s.out⟩
      | false =>
        have HQ3 := Lib.hid hq3
        clear hq3
        go_wp2_with fail
        refine (seesNum_any en b s3 _ H3.out.pr).mono ?_
        rintro e4 w4 ⟨rfl, rfl⟩
        cases hq4 : seesNum s3 with
        | true =>
          have HQ4 := Lib.hid hq4
          clear hq4
          obtain ⟨U1_4, U2_4, U3_4, hcc, hff⟩ := H3.out.ss.cells
          have c4_d : w3.cell? ⟨sb, 0, none⟩ = some (.int .i64 d) := hcc 0
          have g4_d : w3.frozen? ⟨sb, 0, none⟩ = false := hff 0
          clear hcc hff
          have H3s : Hid (St8 en w (w3.setCell ⟨sb, 0, none⟩ (.int .i64 14)) b sb s3 ⟨14, x, y, z, t, f, ag, n, bd, ot, ln, cl⟩) := Lib.hid (H3.out.set_d 14)
          go_wp2_with fail
          refine (pPass_any en b s3 _ H3s.out.pr (seesNum_ne HQ4.out)).mono ?_
          rintro e5 w5 ⟨rfl, h5, t5⟩
          have H5 := Lib.hid (H3s.out.call h5 t5)
          clear h5 t5
          obtain ⟨v5, ea5⟩ : ∃ v, (pass en s3).1 = v := ⟨_, rfl⟩
          rw [ea5]
          have HA5 := Lib.hid (show _ from ea5 ▸ atoi_pass en s3 H3s.out.pr.tok HF3.out HQ4.out)
          obtain ⟨s5, es5⟩ : ∃ q, (pass en s3).2 = q := ⟨_, rfl⟩
          rw [es5] at H5
          have HF5 := Lib.hid (show Fr s5 from es5 ▸ pass_fr en _)
          have Hes5 := Lib.hid es5
          clear es5
          have Hea5 := Lib.hid ea5
          clear ea5
          go_wp2_with fail
          refine (atoi_any v5 w5 HA5.out).mono ?_
          rintro e6 w6 ⟨rfl, t6⟩
          have H6 := Lib.hid (H5.out.up t6)
          clear t6
          obtain ⟨U1_6, U2_6, U3_6, hcc, hff⟩ := H6.out.ss.cells
          have c6_n : w6.cell? ⟨sb, 7, none⟩ = some (.int .i64 n) := hcc 7
          have g6_n : w6.frozen? ⟨sb, 7, none⟩ = false := hff 7
          clear hcc hff
          have H6s : Hid (St8 en w (w6.setCell ⟨sb, 7, none⟩ (.int .i64 (numN v5.data.toList : Int))) b sb s5 ⟨14, x, y, z, t, f, ag, (numN v5.data.toList : Int), bd, ot, ln, cl⟩) := Lib.hid (H6.out.set_n (numN v5.data.toList : Int))
          go_wp2_with fail
          (first | go_end0 | refine bodyPost_ret (v := .tuple #[]) (by simp [results, Tryz.results92, go_sem]) rfl ?_)
          have EF : value en ⟨d, x, y, z, t, f, ag, n, bd, ot, ln, cl⟩ s = (⟨14, x, y, z, t, f, ag, (numN v5.data.toList : Int), bd, ot, ln, cl⟩, s5) := by
            refine Prod.ext ?_ ?_ <;> (unfold value; simp only [Hes1.out, HQ1.out, Hes2.out, HQ2.out, Hes3.out, HQ3.out, HQ4.out, Hes5.out, Hea5.out, if_true, if_false, Bool.false_eq_true, reduceIte])
          rw [EF]
          exact ⟨rfl, H6s.out⟩
        | false =>
          have HQ4 := Lib.hid hq4
          clear hq4
          go_wp2_with fail
          refine (pSkip_any en b s3 [40] _ rfl _ H3.out.pr).mono ?_
          rintro e5 w5 ⟨rfl, h5, t5⟩
          have H5 := Lib.hid (H3.out.call h5 t5)
          clear h5 t5
          obtain ⟨s5, es5⟩ : ∃ q, (skip en [40] s3).2 = q := ⟨_, rfl⟩
          rw [es5] at H5
          have HF5 := Lib.hid (show Fr s5 from es5 ▸ skip_fr _ HF3.out)
          have Hes5 := Lib.hid es5
          clear es5
          cases hq5 : (skip en [40] s3).1 with
          | true =>
            have HQ5 := Lib.hid hq5
            clear hq5
            go_wp2_with fail
            refine (thingType_any en b s5 _ H5.out.pr).mono ?_
            rintro e6 w6 ⟨rfl, h6, t6⟩
            have H6 := Lib.hid (H5.out.call h6 t6)
            clear h6 t6
            obtain ⟨v6, ea6⟩ : ∃ v, (thingType en s5).1 = v := ⟨_, rfl⟩
            rw [ea6]
            obtain ⟨s6, es6⟩ : ∃ q, (thingType en s5).2 = q := ⟨_, rfl⟩
            rw [es6] at H6
            have Hes6 := Lib.hid es6
            clear es6
            have Hea6 := Lib.hid ea6
            clear ea6
            obtain ⟨U1_6, U2_6, U3_6, hcc, hff⟩ := H6.out.ss.cells
            have c6_d : w6.cell? ⟨sb, 0, none⟩ = some (.int .i64 d) := hcc 0
            have g6_d : w6.frozen? ⟨sb, 0, none⟩ = false := hff 0
            have c6_t : w6.cell? ⟨sb, 4, none⟩ = some (.string t) := hcc 4
            have g6_t : w6.frozen? ⟨sb, 4, none⟩ = false := hff 4
            clear hcc hff
            have H6s : Hid (St8 en w ((w6.setCell ⟨sb, 0, none⟩ (.int .i64 4)).setCell ⟨sb, 4, none⟩ (.string v6)) b sb s6 ⟨4, x, y, z, v6, f, ag, n, bd, ot, ln, cl⟩) := Lib.hid ((H6.out.set_d 4).set_t v6)
            go_wp2_with fail
            refine (takeN_any en b s6 [41] _ w6.heap.size (by simp) _ rfl H6s.out.pr).mono ?_
            rintro e7 w7 ⟨rfl, h7, t7⟩
            have H7 := Lib.hid (H6s.out.call h7 t7)
            clear h7 t7
            obtain ⟨s7, es7⟩ : ∃ q, take en [41] s6 = q := ⟨_, rfl⟩
            rw [es7] at H7
            have Hes7 := Lib.hid es7
            clear es7
            go_wp2_with fail
            refine (pName_any en b s7 _ H7.out.pr).mono ?_
            rintro e8 w8 ⟨rfl, h8, t8⟩
            have H8 := Lib.hid (H7.out.call h8 t8)
            clear h8 t8
            obtain ⟨v8, ea8⟩ : ∃ v, (name en s7).1 = v := ⟨_, rfl⟩
            rw [ea8]
            obtain ⟨s8, es8⟩ : ∃ q, (name en s7).2 = q := ⟨_, rfl⟩
            rw [es8] at H8
            have HF8 := Lib.hid (show Fr s8 from es8 ▸ name_fr en _)
            have Hes8 := Lib.hid es8
            clear es8
            have Hea8 := Lib.hid ea8
            clear ea8
            obtain ⟨U1_8, U2_8, U3_8, hcc, hff⟩ := H8.out.ss.cells
            have c8_y : w8.cell? ⟨sb, 2, none⟩ = some (.string y) := hcc 2
            have g8_y : w8.frozen? ⟨sb, 2, none⟩ = false := hff 2
            clear hcc hff
            have H8s : Hid (St8 en w (w8.setCell ⟨sb, 2, none⟩ (.string v8)) b sb s8 ⟨4, x, v8, z, v6, f, ag, n, bd, ot, ln, cl⟩) := Lib.hid (H8.out.set_y v8)
            go_wp2_with fail
            (first | go_end0 | refine bodyPost_ret (v := .tuple #[]) (by simp [results, Tryz.results92, go_sem]) rfl ?_)
            have EF : value en ⟨d, x, y, z, t, f, ag, n, bd, ot, ln, cl⟩ s = (⟨4, x, v8, z, v6, f, ag, n, bd, ot, ln, cl⟩, s8) := by
              refine Prod.ext ?_ ?_ <;> (unfold value; simp only [Hes1.out, HQ1.out, Hes2.out, HQ2.out, Hes3.out, HQ3.out, HQ4.out, Hes5.out, HQ5.out, Hes6.out, Hea6.out, Hes7.out, Hes8.out, Hea8.out, if_true, if_false, Bool.false_eq_true, reduceIte])
            rw [EF]
            exact ⟨rfl, H8s.out⟩
          | false =>
            have HQ5 := Lib.hid hq5
            clear hq5
            go_wp2_with fail
            refine (pName_any en b s5 _ H5.out.pr).mono ?_
            rintro e6 w6 ⟨rfl, h6, t6⟩
            have H6 := Lib.hid (H5.out.call h6 t6)
            clear h6 t6
            obtain ⟨v6, ea6⟩ : ∃ v, (name en s5).1 = v := ⟨_, rfl⟩
            rw [ea6]
            obtain ⟨s6, es6⟩ : ∃ q, (name en s5).2 = q := ⟨_, rfl⟩
            rw [es6] at H6
            have HF6 := Lib.hid (show Fr s6 from es6 ▸ name_fr en _)
            have Hes6 := Lib.hid es6
            clear es6
            have Hea6 := Lib.hid ea6
            clear ea6
            go_wp2_with fail
            refine (worked_any en b sb s6 ⟨d, x, y, z, t, f, ag, n, bd, ot, ln, cl⟩ v6 _ H6.out.pr H6.out.ss).mono ?_
            rintro e7 w7 ⟨rfl, h7⟩
            have H7 := Lib.hid (H6.out.callS h7)
            clear h7
            obtain ⟨p7, eb7⟩ : ∃ q, (worked en ⟨d, x, y, z, t, f, ag, n, bd, ot, ln, cl⟩ v6 s6).1 = q := ⟨_, rfl⟩
            rw [eb7] at H7
            obtain ⟨s7, ec7⟩ : ∃ q, (worked en ⟨d, x, y, z, t, f, ag, n, bd, ot, ln, cl⟩ v6 s6).2 = q := ⟨_, rfl⟩
            rw [ec7] at H7
            have Heb7 := Lib.hid eb7
            clear eb7
            have Hec7 := Lib.hid ec7
            clear ec7
            obtain ⟨d7, x7, y7, z7, t7, f7, ag7, n7, bd7, ot7, ln7, cl7⟩ := p7
            go_wp2_with fail
            (first | go_end0 | refine bodyPost_ret (v := .tuple #[]) (by simp [results, Tryz.results92, go_sem]) rfl ?_)
            have EF : value en ⟨d, x, y, z, t, f, ag, n, bd, ot, ln, cl⟩ s = (⟨d7, x7, y7, z7, t7, f7, ag7, n7, bd7, ot7, ln7, cl7⟩, s7) := by
              refine Prod.ext ?_ ?_ <;> (unfold value; simp only [Hes1.out, HQ1.out, Hes2.out, HQ2.out, Hes3.out, HQ3.out, HQ4.out, Hes5.out, HQ5.out, Hes6.out, Hea6.out, Heb7.out, Hec7.out, if_true, if_false, Bool.false_eq_true, reduceIte])
            rw [EF]
            exact ⟨rfl, H7.out⟩

end Go.Proofs.YtnmhcgkccchacaaGreatDoor

/- Walks of the parser's functions, printed by gen7.py: named. -/
set_option linter.unusedSimpArgs false
set_option linter.unusedVariables false
set_option maxRecDepth 100000
namespace Go.Proofs.YtnmhcgkccchacaaGreatDoor
open Go.RowKit

set_option maxHeartbeats 6400000 in
theorem named_any (en : Nat × Nat) (b sb : Nat) (s : RS) (p : Sf) (w : World) (hP : Pr en w b s) (hS : Sb w b sb p) :
    Calls Tryz.prog 68 #[.pointer (some ⟨b, 0, none⟩), .pointer (some ⟨sb, 0, none⟩)] w fun e w' => e = .returned (.tuple #[]) ∧ St8 en w w' b sb (named en p s).2 (named en p s).1 := by
  obtain ⟨d, x, y, z, t, f, ag, n, bd, ot, ln, cl⟩ := p
  have H0 := Lib.hid (St8.mk0 hP hS)
  clear hP hS
  go_enter Tryz.func68, Tryz.ntmps68
  go_wp2_with fail
  refine (pName_any en b s _ H0.out.pr).mono ?_
  rintro e1 w1 ⟨rfl, h1, t1⟩
  have H1 := Lib.hid (H0.out.call h1 t1)
  clear h1 t1
  obtain ⟨v1, ea1⟩ : ∃ v, (name en s).1 = v := ⟨_, rfl⟩
  rw [ea1]
  obtain ⟨s1, es1⟩ : ∃ q, (name en s).2 = q := ⟨_, rfl⟩
  rw [es1] at H1
  have HF1 := Lib.hid (show Fr s1 from es1 ▸ name_fr en _)
  have Hes1 := Lib.hid es1
  clear es1
  have Hea1 := Lib.hid ea1
  clear ea1
  go_wp2_with fail
  refine (pSkip_any en b s1 [61] _ rfl _ H1.out.pr).mono ?_
  rintro e2 w2 ⟨rfl, h2, t2⟩
  have H2 := Lib.hid (H1.out.call h2 t2)
  clear h2 t2
  obtain ⟨s2, es2⟩ : ∃ q, (skip en [61] s1).2 = q := ⟨_, rfl⟩
  rw [es2] at H2
  have HF2 := Lib.hid (show Fr s2 from es2 ▸ skip_fr _ HF1.out)
  have Hes2 := Lib.hid es2
  clear es2
  cases hq2 : (skip en [61] s1).1 with
  | true =>
    have HQ2 := Lib.hid hq2
    clear hq2
    obtain ⟨U1_2, U2_2, U3_2, hcc, hff⟩ := H2.out.ss.cells
    have c2_x : w2.cell? ⟨sb, 1, none⟩ = some (.string x) := hcc 1
    have g2_x : w2.frozen? ⟨sb, 1, none⟩ = false := hff 1
    clear hcc hff
    have H2s : Hid (St8 en w (w2.setCell ⟨sb, 1, none⟩ (.string v1)) b sb s2 ⟨d, v1, y, z, t, f, ag, n, bd, ot, ln, cl⟩) := Lib.hid (H2.out.set_x v1)
    go_wp2_with fail
    refine (value_any en b sb s2 ⟨d, v1, y, z, t, f, ag, n, bd, ot, ln, cl⟩ _ H2s.out.pr H2s.out.ss HF2.out).mono ?_
    rintro e3 w3 ⟨rfl, h3⟩
    have H3 := Lib.hid (H2s.out.callS h3)
    clear h3
    obtain ⟨p3, eb3⟩ : ∃ q, (value en ⟨d, v1, y, z, t, f, ag, n, bd, ot, ln, cl⟩ s2).1 = q := ⟨_, rfl⟩
    rw [eb3] at H3
    obtain ⟨s3, ec3⟩ : ∃ q, (value en ⟨d, v1, y, z, t, f, ag, n, bd, ot, ln, cl⟩ s2).2 = q := ⟨_, rfl⟩
    rw [ec3] at H3
    have Heb3 := Lib.hid eb3
    clear eb3
    have Hec3 := Lib.hid ec3
    clear ec3
    obtain ⟨d3, x3, y3, z3, t3, f3, ag3, n3, bd3, ot3, ln3, cl3⟩ := p3
    go_wp2_with fail
    refine (takeN_any en b s3 [59] _ w3.heap.size rfl _ rfl H3.out.pr).mono ?_
    rintro e4 w4 ⟨rfl, h4, t4⟩
    have H4 := Lib.hid (H3.out.call h4 t4)
    clear h4 t4
    obtain ⟨s4, es4⟩ : ∃ q, take en [59] s3 = q := ⟨_, rfl⟩
    rw [es4] at H4
    have Hes4 := Lib.hid es4
    clear es4
    go_wp2_with fail
    (first | go_end0 | refine bodyPost_ret (v := .tuple #[]) (by simp [results, Tryz.results68, go_sem]) rfl ?_)
    have EF : named en ⟨d, x, y, z, t, f, ag, n, bd, ot, ln, cl⟩ s = (⟨d3, x3, y3, z3, t3, f3, ag3, n3, bd3, ot3, ln3, cl3⟩, s4) := by
      refine Prod.ext ?_ ?_ <;> (unfold named; simp only [Hes1.out, Hea1.out, Hes2.out, HQ2.out, Heb3.out, Hec3.out, Hes4.out, if_true, if_false, Bool.false_eq_true, reduceIte])
    rw [EF]
    exact ⟨rfl, H4.out⟩
  | false =>
    have HQ2 := Lib.hid hq2
    clear hq2
    go_wp2_with fail
    refine (pSkip_any en b s2 [91] _ rfl _ H2.out.pr).mono ?_
    rintro e3 w3 ⟨rfl, h3, t3⟩
    have H3 := Lib.hid (H2.out.call h3 t3)
    clear h3 t3
    obtain ⟨s3, es3⟩ : ∃ q, (skip en [91] s2).2 = q := ⟨_, rfl⟩
    rw [es3] at H3
    have HF3 := Lib.hid (show Fr s3 from es3 ▸ skip_fr _ HF2.out)
    have Hes3 := Lib.hid es3
    clear es3
    cases hq3 : (skip en [91] s2).1 with
    | true =>
      have HQ3 := Lib.hid hq3
      clear hq3
      go_wp2_with fail
      refine (pName_any en b s3 _ H3.out.pr).mono ?_
      rintro e4 w4 ⟨rfl, h4, t4⟩
      have H4 := Lib.hid (H3.out.call h4 t4)
      clear h4 t4
      obtain ⟨v4, ea4⟩ : ∃ v, (name en s3).1 = v := ⟨_, rfl⟩
      rw [ea4]
      obtain ⟨s4, es4⟩ : ∃ q, (name en s3).2 = q := ⟨_, rfl⟩
      rw [es4] at H4
      have HF4 := Lib.hid (show Fr s4 from es4 ▸ name_fr en _)
      have Hes4 := Lib.hid es4
      clear es4
      have Hea4 := Lib.hid ea4
      clear ea4
      obtain ⟨U1_4, U2_4, U3_4, hcc, hff⟩ := H4.out.ss.cells
      have c4_d : w4.cell? ⟨sb, 0, none⟩ = some (.int .i64 d) := hcc 0
      have g4_d : w4.frozen? ⟨sb, 0, none⟩ = false := hff 0
      have c4_x : w4.cell? ⟨sb, 1, none⟩ = some (.string x) := hcc 1
      have g4_x : w4.frozen? ⟨sb, 1, none⟩ = false := hff 1
      have c4_z : w4.cell? ⟨sb, 3, none⟩ = some (.string z) := hcc 3
      have g4_z : w4.frozen? ⟨sb, 3, none⟩ = false := hff 3
      clear hcc hff
      have H4s : Hid (St8 en w (((w4.setCell ⟨sb, 0, none⟩ (.int .i64 10)).setCell ⟨sb, 1, none⟩ (.string v1)).setCell ⟨sb, 3, none⟩ (.string v4)) b sb s4 ⟨10, v1, y, v4, t, f, ag, n, bd, ot, ln, cl⟩) := Lib.hid (((H4.out.set_d 10).set_x v1).set_z v4)
      go_wp2_with fail
      refine (take2N_any en b s4 [93] [61] _ w4.heap.size (by simp) _ rfl H4s.out.pr).mono ?_
      rintro e5 w5 ⟨rfl, h5, t5⟩
      have H5 := Lib.hid (H4s.out.call h5 t5)
      clear h5 t5
      obtain ⟨s5, es5⟩ : ∃ q, takes en [[93], [61]] s4 = q := ⟨_, rfl⟩
      rw [es5] at H5
      have Hes5 := Lib.hid es5
      clear es5
      go_wp2_with fail
      refine (pName_any en b s5 _ H5.out.pr).mono ?_
      rintro e6 w6 ⟨rfl, h6, t6⟩
      have H6 := Lib.hid (H5.out.call h6 t6)
      clear h6 t6
      obtain ⟨v6, ea6⟩ : ∃ v, (name en s5).1 = v := ⟨_, rfl⟩
      rw [ea6]
      obtain ⟨s6, es6⟩ : ∃ q, (name en s5).2 = q := ⟨_, rfl⟩
      rw [es6] at H6
      have HF6 := Lib.hid (show Fr s6 from es6 ▸ name_fr en _)
      have Hes6 := Lib.hid es6
      clear es6
      have Hea6 := Lib.hid ea6
      clear ea6
      obtain ⟨U1_6, U2_6, U3_6, hcc, hff⟩ := H6.out.ss.cells
      have c6_y : w6.cell? ⟨sb, 2, none⟩ = some (.string y) := hcc 2
      have g6_y : w6.frozen? ⟨sb, 2, none⟩ = false := hff 2
      clear hcc hff
      have H6s : Hid (St8 en w (w6.setCell ⟨sb, 2, none⟩ (.string v6)) b sb s6 ⟨10, v1, v6, v4, t, f, ag, n, bd, ot, ln, cl⟩) := Lib.hid (H6.out.set_y v6)
      go_wp2_with fail
      refine (takeN_any en b s6 [59] _ w6.heap.size (by simp) _ rfl H6s.out.pr).mono ?_
      rintro e7 w7 ⟨rfl, h7, t7⟩
      have H7 := Lib.hid (H6s.out.call h7 t7)
      clear h7 t7
      obtain ⟨s7, es7⟩ : ∃ q, take en [59] s6 = q := ⟨_, rfl⟩
      rw [es7] at H7
      have Hes7 := Lib.hid es7
      clear es7
      go_wp2_with fail
      (first | go_end0 | refine bodyPost_ret (v := .tuple #[]) (by simp [results, Tryz.results68, go_sem]) rfl ?_)
      have EF : named en ⟨d, x, y, z, t, f, ag, n, bd, ot, ln, cl⟩ s = (⟨10, v1, v6, v4, t, f, ag, n, bd, ot, ln, cl⟩, s7) := by
        refine Prod.ext ?_ ?_ <;> (unfold named; simp only [Hes1.out, Hea1.out, Hes2.out, HQ2.out, Hes3.out, HQ3.out, Hes4.out, Hea4.out, Hes5.out, Hes6.out, Hea6.out, Hes7.out, if_true, if_false, Bool.false_eq_true, reduceIte])
      rw [EF]
      exact ⟨rfl, H7.out⟩
    | false =>
      have HQ3 := Lib.hid hq3
      clear hq3
      go_wp2_with fail
      refine (pSkip_any en b s3 [58, 58] _ rfl _ H3.out.pr).mono ?_
      rintro e4 w4 ⟨rfl, h4, t4⟩
      have H4 := Lib.hid (H3.out.call h4 t4)
      clear h4 t4
      obtain ⟨s4, es4⟩ : ∃ q, (skip en [58, 58] s3).2 = q := ⟨_, rfl⟩
      rw [es4] at H4
      have HF4 := Lib.hid (show Fr s4 from es4 ▸ skip_fr _ HF3.out)
      have Hes4 := Lib.hid es4
      clear es4
      cases hq4 : (skip en [58, 58] s3).1 with
      | true =>
        have HQ4 := Lib.hid hq4
        clear hq4
        go_wp2_with fail
        refine (pName_any en b s4 _ H4.out.pr).mono ?_
        rintro e5 w5 ⟨rfl, h5, t5⟩
        have H5 := Lib.hid (H4.out.call h5 t5)
        clear h5 t5
        obtain ⟨v5, ea5⟩ : ∃ v, (name en s4).1 = v := ⟨_, rfl⟩
        rw [ea5]
        obtain ⟨s5, es5⟩ : ∃ q, (name en s4).2 = q := ⟨_, rfl⟩
        rw [es5] at H5
        have HF5 := Lib.hid (show Fr s5 from es5 ▸ name_fr en _)
        have Hes5 := Lib.hid es5
        clear es5
        have Hea5 := Lib.hid ea5
        clear ea5
        obtain ⟨U1_5, U2_5, U3_5, hcc, hff⟩ := H5.out.ss.cells
        have c5_f : w5.cell? ⟨sb, 5, none⟩ = some (.string f) := hcc 5
        have g5_f : w5.frozen? ⟨sb, 5, none⟩ = false := hff 5
        have c5_t : w5.cell? ⟨sb, 4, none⟩ = some (.string t) := hcc 4
        have g5_t : w5.frozen? ⟨sb, 4, none⟩ = false := hff 4
        clear hcc hff
        have H5s : Hid (St8 en w ((w5.setCell ⟨sb, 4, none⟩ (.string v1)).setCell ⟨sb, 5, none⟩ (.string v5)) b sb s5 ⟨d, x, y, z, v1, v5, ag, n, bd, ot, ln, cl⟩) := Lib.hid ((H5.out.set_t v1).set_f v5)
        go_wp2_with fail
        refine (called_any en b sb s5 ⟨d, x, y, z, v1, v5, ag, n, bd, ot, ln, cl⟩ 13 _ H5s.out.pr H5s.out.ss).mono ?_
        rintro e6 w6 ⟨rfl, h6⟩
        have H6 := Lib.hid (H5s.out.callS h6)
        clear h6
        obtain ⟨p6, eb6⟩ : ∃ q, (called en ⟨d, x, y, z, v1, v5, ag, n, bd, ot, ln, cl⟩ 13 s5).2.1 = q := ⟨_, rfl⟩
        rw [eb6] at H6
        obtain ⟨s6, ec6⟩ : ∃ q, (called en ⟨d, x, y, z, v1, v5, ag, n, bd, ot, ln, cl⟩ 13 s5).2.2 = q := ⟨_, rfl⟩
        rw [ec6] at H6
        have Heb6 := Lib.hid eb6
        clear eb6
        have Hec6 := Lib.hid ec6
        clear ec6
        obtain ⟨d6, x6, y6, z6, t6, f6, ag6, n6, bd6, ot6, ln6, cl6⟩ := p6
        cases hq6 : (called en ⟨d, x, y, z, v1, v5, ag, n, bd, ot, ln, cl⟩ 13 s5).1 with
        | true =>
          have HQ6 := Lib.hid hq6
          clear hq6
          go_wp2_with fail
          refine (takeN_any en b s6 [59] _ w6.heap.size rfl _ rfl H6.out.pr).mono ?_
          rintro e7 w7 ⟨rfl, h7, t7⟩
          have H7 := Lib.hid (H6.out.call h7 t7)
          clear h7 t7
          obtain ⟨s7, es7⟩ : ∃ q, take en [59] s6 = q := ⟨_, rfl⟩
          rw [es7] at H7
          have Hes7 := Lib.hid es7
          clear es7
          go_wp2_with fail
          (first | go_end0 | refine bodyPost_ret (v := .tuple #[]) (by simp [results, Tryz.results68, go_sem]) rfl ?_)
          have EF : named en ⟨d, x, y, z, t, f, ag, n, bd, ot, ln, cl⟩ s = (⟨d6, x6, y6, z6, t6, f6, ag6, n6, bd6, ot6, ln6, cl6⟩, s7) := by
            refine Prod.ext ?_ ?_ <;> (unfold named; simp only [Hes1.out, Hea1.out, Hes2.out, HQ2.out, Hes3.out, HQ3.out, Hes4.out, HQ4.out, Hes5.out, Hea5.out, Heb6.out, Hec6.out, HQ6.out, Hes7.out, if_true, if_false, Bool.false_eq_true, reduceIte])
          rw [EF]
          exact ⟨rfl, H7.out⟩
        | false =>
          have HQ6 := Lib.hid hq6
          clear hq6
          go_wp2_with fail
          refine (put_any en b sb s6 ⟨d6, x6, y6, z6, t6, f6, ag6, n6, bd6, ot6, ln6, cl6⟩ 8 _ H6.out.pr H6.out.ss).mono ?_
          rintro e7 w7 ⟨rfl, h7⟩
          have H7 := Lib.hid (H6.out.callS h7)
          clear h7
          obtain ⟨p7, eb7⟩ : ∃ q, (put en ⟨d6, x6, y6, z6, t6, f6, ag6, n6, bd6, ot6, ln6, cl6⟩ 8 s6).1 = q := ⟨_, rfl⟩
          rw [eb7] at H7
          obtain ⟨s7, ec7⟩ : ∃ q, (put en ⟨d6, x6, y6, z6, t6, f6, ag6, n6, bd6, ot6, ln6, cl6⟩ 8 s6).2 = q := ⟨_, rfl⟩
          rw [ec7] at H7
          have Heb7 := Lib.hid eb7
          clear eb7
          have Hec7 := Lib.hid ec7
          clear ec7
          obtain ⟨d7, x7, y7, z7, t7, f7, ag7, n7, bd7, ot7, ln7, cl7⟩ := p7
          go_wp2_with fail
          refine (takeN_any en b s7 [59] _ w7.heap.size rfl _ rfl H7.out.pr).mono ?_
          rintro e8 w8 ⟨rfl, h8, t8⟩
          have H8 := Lib.hid (H7.out.call h8 t8)
          clear h8 t8
          obtain ⟨s8, es8⟩ : ∃ q, take en [59] s7 = q := ⟨_, rfl⟩
          rw [es8] at H8
          have Hes8 := Lib.hid es8
          clear es8
          go_wp2_with fail
          (first | go_end0 | refine bodyPost_ret (v := .tuple #[]) (by simp [results, Tryz.results68, go_sem]) rfl ?_)
          have EF : named en ⟨d, x, y, z, t, f, ag, n, bd, ot, ln, cl⟩ s = (⟨d7, x7, y7, z7, t7, f7, ag7, n7, bd7, ot7, ln7, cl7⟩, s8) := by
            refine Prod.ext ?_ ?_ <;> (unfold named; simp only [Hes1.out, Hea1.out, Hes2.out, HQ2.out, Hes3.out, HQ3.out, Hes4.out, HQ4.out, Hes5.out, Hea5.out, Heb6.out, Hec6.out, HQ6.out, Heb7.out, Hec7.out, Hes8.out, if_true, if_false, Bool.false_eq_true, reduceIte])
          rw [EF]
          exact ⟨rfl, H8.out⟩
      | false =>
        have HQ4 := Lib.hid hq4
        clear hq4
        go_wp2_with fail
        refine (takeN_any en b s4 [46] _ w4.heap.size rfl _ rfl H4.out.pr).mono ?_
        rintro e5 w5 ⟨rfl, h5, t5⟩
        have H5 := Lib.hid (H4.out.call h5 t5)
        clear h5 t5
        obtain ⟨s5, es5⟩ : ∃ q, take en [46] s4 = q := ⟨_, rfl⟩
        rw [es5] at H5
        have Hes5 := Lib.hid es5
        clear es5
        go_wp2_with fail
        refine (ofVariable_any en b sb s5 ⟨d, x, y, z, t, f, ag, n, bd, ot, ln, cl⟩ v1 _ H5.out.pr H5.out.ss).mono ?_
        rintro e6 w6 ⟨rfl, h6⟩
        have H6 := Lib.hid (H5.out.callS h6)
        clear h6
        obtain ⟨p6, eb6⟩ : ∃ q, (ofVariable en ⟨d, x, y, z, t, f, ag, n, bd, ot, ln, cl⟩ v1 s5).1 = q := ⟨_, rfl⟩
        rw [eb6] at H6
        obtain ⟨s6, ec6⟩ : ∃ q, (ofVariable en ⟨d, x, y, z, t, f, ag, n, bd, ot, ln, cl⟩ v1 s5).2 = q := ⟨_, rfl⟩
        rw [ec6] at H6
        have Heb6 := Lib.hid eb6
        clear eb6
        have Hec6 := Lib.hid ec6
        clear ec6
        obtain ⟨d6, x6, y6, z6, t6, f6, ag6, n6, bd6, ot6, ln6, cl6⟩ := p6
        obtain ⟨U1_6, U2_6, U3_6, hcc, hff⟩ := H6.out.ss.cells
        have c6_d : w6.cell? ⟨sb, 0, none⟩ = some (.int .i64 d6) := hcc 0
        have g6_d : w6.frozen? ⟨sb, 0, none⟩ = false := hff 0
        have c6_x : w6.cell? ⟨sb, 1, none⟩ = some (.string x6) := hcc 1
        have g6_x : w6.frozen? ⟨sb, 1, none⟩ = false := hff 1
        clear hcc hff
        by_cases hd6 : d6 = 5
        · have hdb6 : decide (d6 = 5) = true := by simpa using hd6
          have hdc6 : (d6 == 5) = true := by simpa using hd6
          have HD6 := Lib.hid hd6
          have H6t : Hid (St8 en w (w6.setCell ⟨sb, 1, none⟩ (.string v1)) b sb s6 ⟨d6, v1, y6, z6, t6, f6, ag6, n6, bd6, ot6, ln6, cl6⟩) := Lib.hid (H6.out.set_x v1)
          go_wp2_with fail
          refine (put_any en b sb s6 ⟨d6, v1, y6, z6, t6, f6, ag6, n6, bd6, ot6, ln6, cl6⟩ 6 _ H6t.out.pr H6t.out.ss).mono ?_
          rintro e7 w7 ⟨rfl, h7⟩
          have H7 := Lib.hid (H6t.out.callS h7)
          clear h7
          obtain ⟨p7, eb7⟩ : ∃ q, (put en ⟨d6, v1, y6, z6, t6, f6, ag6, n6, bd6, ot6, ln6, cl6⟩ 6 s6).1 = q := ⟨_, rfl⟩
          rw [eb7] at H7
          obtain ⟨s7, ec7⟩ : ∃ q, (put en ⟨d6, v1, y6, z6, t6, f6, ag6, n6, bd6, ot6, ln6, cl6⟩ 6 s6).2 = q := ⟨_, rfl⟩
          rw [ec7] at H7
          have Heb7 := Lib.hid eb7
          clear eb7
          have Hec7 := Lib.hid ec7
          clear ec7
          obtain ⟨d7, x7, y7, z7, t7, f7, ag7, n7, bd7, ot7, ln7, cl7⟩ := p7
          go_wp2_with fail
          refine (takeN_any en b s7 [59] _ w7.heap.size rfl _ rfl H7.out.pr).mono ?_
          rintro e8 w8 ⟨rfl, h8, t8⟩
          have H8 := Lib.hid (H7.out.call h8 t8)
          clear h8 t8
          obtain ⟨s8, es8⟩ : ∃ q, take en [59] s7 = q := ⟨_, rfl⟩
          rw [es8] at H8
          have Hes8 := Lib.hid es8
          clear es8
          go_wp2_with fail
          (first | go_end0 | refine bodyPost_ret (v := .tuple #[]) (by simp [results, Tryz.results68, go_sem]) rfl ?_)
          have EF : named en ⟨d, x, y, z, t, f, ag, n, bd, ot, ln, cl⟩ s = (⟨d7, x7, y7, z7, t7, f7, ag7, n7, bd7, ot7, ln7, cl7⟩, s8) := by
            refine Prod.ext ?_ ?_ <;> (unfold named; simp only [Hes1.out, Hea1.out, Hes2.out, HQ2.out, Hes3.out, HQ3.out, Hes4.out, HQ4.out, Hes5.out, Heb6.out, Hec6.out, if_pos HD6.out, Heb7.out, Hec7.out, Hes8.out, if_true, if_false, Bool.false_eq_true, reduceIte])
          rw [EF]
          exact ⟨rfl, H8.out⟩
        · have hdb6 : decide (d6 = 5) = false := by simpa using hd6
          have hdc6 : (d6 == 5) = false := by simpa using hd6
          have HD6 := Lib.hid hd6
          go_wp2_with fail
          refine (takeN_any en b s6 [59] _ w6.heap.size rfl _ rfl H6.out.pr).mono ?_
          rintro e7 w7 ⟨rfl, h7, t7⟩
          have H7 := Lib.hid (H6.out.call h7 t7)
          clear h7 t7
          obtain ⟨s7, es7⟩ : ∃ q, take en [59] s6 = q := ⟨_, rfl⟩
          rw [es7] at H7
          have Hes7 := Lib.hid es7
          clear es7
          go_wp2_with fail
          (first | go_end0 | refine bodyPost_ret (v := .tuple #[]) (by simp [results, Tryz.results68, go_sem]) rfl ?_)
          have EF : named en ⟨d, x, y, z, t, f, ag, n, bd, ot, ln, cl⟩ s = (⟨d6, x6, y6, z6, t6, f6, ag6, n6, bd6, ot6, ln6, cl6⟩, s7) := by
            refine Prod.ext ?_ ?_ <;> (unfold named; simp only [Hes1.out, Hea1.out, Hes2.out, HQ2.out, Hes3.out, HQ3.out, Hes4.out, HQ4.out, Hes5.out, Heb6.out, Hec6.out, if_neg HD6.out, Hes7.out, if_true, if_false, Bool.false_eq_true, reduceIte])
          rw [EF]
          exact ⟨rfl, H7.out⟩

end Go.Proofs.YtnmhcgkccchacaaGreatDoor

/- What begins: beginsStmt, begins and what it answers. -/
set_option linter.unusedSimpArgs false
set_option linter.unusedVariables false
set_option maxRecDepth 100000
namespace Go.Proofs.YtnmhcgkccchacaaGreatDoor
open Go.RowKit

structure MRel {α : Type} (f : Nat → List α → RS → List α × RS) (acc : List α) (s1 : RS) (R : List α × RS) : Prop where
  le : acc.length + s1.l.length ≤ 900000
  ex : ∃ n, s1.l.length < n ∧ f n acc s1 = R

def stmtWords : List (List UInt8) := [kThrow, kTry, kIf, kWhile, kReturn]
set_option maxHeartbeats 3200000 in
theorem beginsStmt_any (en : Nat × Nat) (b : Nat) (s : RS) (w : World) (h : Pr en w b s) :
    Calls Tryz.prog 140 #[.pointer (some ⟨b, 0, none⟩)] w fun e w' => e = .returned (.bool (beginsStmt s)) ∧ Turn [] w w' := by
  have HP := Lib.hid h
  have HS := Lib.hid (seesName_any en b s w h)
  have HB : Hid (beginsStmt s = (seesName s || seesAny stmtWords s)) := Lib.hid rfl
  clear h
  go_enter Tryz.func140, Tryz.ntmps140
  go_wp2_with fail
  refine HS.out.mono ?_
  rintro e w1 ⟨rfl, t1⟩
  have HP1 := Lib.hid (HP.out.up t1)
  have HT1 := Lib.hid t1
  clear t1
  cases hq : seesName s with
  | true =>
    rw [hq] at HB
    clear hq
    go_wp2_with fail
    go_ret
    exact ⟨ret_bool (by rw [HB.out]; rfl), HT1.out⟩
  | false =>
    rw [hq] at HB
    have HQ := Lib.hid (sees_any en b s (w1.alloc (.cells #[.string (mk kThrow), .string (mk kTry), .string (mk kIf), .string (mk kWhile), .string (mk kReturn)] 9)) (HP1.out.up ((Turn.refl [] w1).alloc _)) (some ⟨w1.heap.size, 0, none⟩) 5 stmtWords (sts_new w1 stmtWords _ rfl) (by decide))
    clear hq
    go_wp2_with fail
    refine HQ.out.mono ?_
    rintro e w2 ⟨rfl, t2⟩
    have HT2 := Lib.hid (((HT1.out).alloc _).trans' t2)
    clear t2
    obtain ⟨q, hq⟩ : ∃ q, seesAny stmtWords s = q := ⟨_, rfl⟩
    rw [hq] at HB ⊢
    clear hq
    go_wp2_with fail
    go_ret
    exact ⟨ret_bool (by rw [HB.out]; simp), HT2.out⟩

/-- What r.begins answered: its boxes lie at g1, g2. -/
def Bgn (w : World) (b g1 g2 : Nat) (ts : List (List UInt8)) : Prop :=
  b < g1 ∧ g1 < w.heap.size ∧ b < g2 ∧ g2 < w.heap.size ∧ w.cell? ⟨g1, 0, none⟩ = some (.pointer (some ⟨b, 0, none⟩)) ∧ ∃ A c, w.cell? ⟨g2, 0, none⟩ = some (.slice A ts.length c) ∧ Sts w A ts ∧ (∀ g off, A = some ⟨g, off, none⟩ → b < g ∧ g < w.heap.size)
theorem Bgn.turn {w w' : World} {b g1 g2 : Nat} {ts : List (List UInt8)} {F : List Nat} (h : Bgn w b g1 g2 ts) (t : Turn F w w') (hF : ∀ g ∈ F, g ≤ b ∨ w.heap.size ≤ g) : Bgn w' b g1 g2 ts := by
  obtain ⟨a1, a2, a3, a4, a5, A, c, a6, a7, a8⟩ := h
  refine ⟨a1, Nat.lt_of_lt_of_le a2 t.size, a3, Nat.lt_of_lt_of_le a4 t.size, (t.cell (p := ⟨g1, 0, none⟩) a2 (fun hg => by have := hF g1 hg; omega)).trans a5, A, c, (t.cell (p := ⟨g2, 0, none⟩) a4 (fun hg => by have := hF g2 hg; omega)).trans a6, a7.turn t (fun g off e hg => by have := hF g hg; have := a8 g off e; omega), fun g off e => ⟨(a8 g off e).1, Nat.lt_of_lt_of_le (a8 g off e).2 t.size⟩⟩

set_option maxHeartbeats 1600000 in
theorem begins1_any (en : Nat × Nat) (b g1 g2 : Nat) (ts : List (List UInt8)) (s : RS) (w : World) (h : Pr en w b s) (hB : Bgn w b g1 g2 ts) (hn : ts.length ≤ 1000) :
    Calls Tryz.prog 81 #[.pointer (some ⟨g1, 0, none⟩), .pointer (some ⟨g2, 0, none⟩)] w fun e w' => e = .returned (.bool (seesAny ts s)) ∧ Turn [] w w' := by
  obtain ⟨a1, a2, a3, a4, a5, A, c, a6, a7, a8⟩ := hB
  have HS := Lib.hid (sees_any en b s w h A c ts a7 hn)
  clear h a7 a8
  go_enter Tryz.func81, Tryz.ntmps81
  go_wp2_with fail
  refine HS.out.mono ?_
  rintro e w1 ⟨rfl, t1⟩
  have HT := Lib.hid t1
  clear t1
  go_wp2_with fail
  go_ret
  exact ⟨rfl, HT.out⟩

set_option maxHeartbeats 1600000 in
theorem begins_any (b : Nat) (ts : List (List UInt8)) (w : World) (A : Option Addr) (c : Nat) (hb : b < w.heap.size) (hS : Sts w A ts) (hA : ∀ g off, A = some ⟨g, off, none⟩ → b < g ∧ g < w.heap.size) :
    Calls Tryz.prog 49 #[.pointer (some ⟨b, 0, none⟩), .slice A ts.length c] w fun e w' => ∃ g1 g2, e = .returned (.func (.func 81) #[] #[.pointer (some ⟨g1, 0, none⟩), .pointer (some ⟨g2, 0, none⟩)]) ∧ Bgn w' b g1 g2 ts ∧ Turn [] w w' := by
  have hmf := mf
  have HS := Lib.hid hS
  have HA := Lib.hid hA
  clear hS hA
  go_enter Tryz.func49, Tryz.ntmps49
  go_wp2_with fail
  go_ret
  have t : Turn [] w ((w.alloc (.cells #[.pointer (some ⟨b, 0, none⟩)] 57)).alloc (.cells #[.slice A ts.length c] 39)) := ((Turn.refl [] w).alloc _).alloc _
  refine ⟨w.heap.size, w.heap.size + 1, rfl, ⟨hb, by simp; omega, by omega, by simp, by simp, A, c, by simp, HS.out.turn t (by simp), fun g off e => ⟨(HA.out g off e).1, Nat.lt_of_lt_of_le (HA.out g off e).2 t.size⟩⟩, t⟩
end Go.Proofs.YtnmhcgkccchacaaGreatDoor

/- many, of statements. -/
set_option linter.unusedSimpArgs false
set_option linter.unusedVariables false
set_option maxRecDepth 100000
namespace Go.Proofs.YtnmhcgkccchacaaGreatDoor
open Go.RowKit

theorem stmt_info : (Tryz.prog.info? 41).map (fun i => (i.zero, i.size, i.bytes)) = some (some (.agg #[.int .i64 0, .string ⟨#[]⟩, .string ⟨#[]⟩, .string ⟨#[]⟩, .string ⟨#[]⟩, .string ⟨#[]⟩, .slice none 0 0, .int .i64 0, .slice none 0 0, .slice none 0 0, .int .i64 0, .int .i64 0]), 12, 184) := by kernel_rfl
/-- What stmt does, so many blocks from the innermost. -/
def StSaid (en : Nat × Nat) (n : Nat) : Prop := ∀ (b : Nat) (s : RS) (w : World), Pr en w b s → s.deep ≤ 8 → 9 ≤ s.deep + n →
    Calls Tryz.prog 35 #[.pointer (some ⟨b, 0, none⟩)] w fun e w' => ∃ cs : List Value, e = .returned (.agg cs.toArray) ∧ RdS (fun g => w.heap.size ≤ g) w' cs (stmtN en n s).1 ∧ Pr en w' b (stmtN en n s).2 ∧ Turn [b] w w'

set_option maxHeartbeats 6400000 in
theorem manyS_any (en : Nat × Nat) (b : Nat) (s : RS) (k : Nat) (w : World) (hP : Pr en w b s) (hst : StSaid en k) (hdeep : 9 ≤ s.deep → s.l = []) (hk : 9 ≤ s.deep + k) :
    Calls Tryz.prog 139 #[.pointer (some ⟨b, 0, none⟩), .int .i64 40, .func (.func 140) #[.pointer (some ⟨b, 0, none⟩)] #[], .func (.func 35) #[.pointer (some ⟨b, 0, none⟩)] #[]] w fun e w' =>
      ∃ V, e = .returned V ∧ RdV 12 RdS (fun g => w.heap.size ≤ g) w' V (many beginsStmt (stmtN en k) 40 (s.l.length + 1) [] s).1 ∧ Pr en w' b (many beginsStmt (stmtN en k) 40 (s.l.length + 1) [] s).2 ∧ Turn [b] w w' := by
  have HP0 := Lib.hid hP
  have hl := hP.len
  have hbl := hP.lt
  have hgt := hP.gt
  obtain ⟨R, hR⟩ : ∃ R, many beginsStmt (stmtN en k) 40 (s.l.length + 1) [] s = R := ⟨_, rfl⟩
  rw [hR]
  have HR0 := Lib.hid hR
  have HST := Lib.hid hst
  have HDP := Lib.hid hdeep
  clear hst hdeep
  clear hP hR
  go_enter Tryz.func139, Tryz.ntmps139
  go_wp2_with fail
  go_loopw [9] (fun v wr => ∃ (acc : List St) (s1 : RS), Hid (OwnL 41 12 RdS (fun g => w.heap.size ≤ g) wr v acc) ∧ Hid (Pr en wr b s1) ∧ Hid (Turn [b] w wr) ∧ Hid (s1.deep = s.deep ∧ (9 ≤ s.deep → s1.l = [])) ∧ MRel (many beginsStmt (stmtN en k) 40) acc s1 R) (fun v wr => lenAt wr b)
  case atStart => exact ⟨[], s, Lib.hid (OwnL.nil _ _ _), Lib.hid HP0.out, Lib.hid (Turn.refl _ _), Lib.hid ⟨rfl, HDP.out⟩, ⟨by simpa using hl, s.l.length + 1, by omega, HR0.out⟩⟩
  case round =>
    obtain ⟨acc, s1, HO, HP, HT, HD, HR⟩ := hrel
    obtain ⟨A0, c0, rfl, hc0⟩ := HO.out.form
    obtain ⟨hle, n, hn, hmany⟩ := HR
    obtain ⟨m, rfl⟩ : ∃ m, n = m + 1 := ⟨n - 1, by omega⟩
    unfold many at hmany
    have HM := Lib.hid hmany
    clear hmany
    have HBG := Lib.hid (beginsStmt_any en b s1 wr HP.out)
    go_wp2_with fail
    refine HBG.out.mono ?_
    rintro e1 w1 ⟨rfl, t1⟩
    have HP1 := Lib.hid (HP.out.up t1)
    have HO1 := Lib.hid (HO.out.turn goodS t1 (by simp))
    have HT1 := Lib.hid (HT.out.trans' t1)
    clear t1 HBG
    cases hq : beginsStmt s1 with
    | false =>
      have HQ := Lib.hid hq
      clear hq
      go_wp2_with fail
      go_ret
      have e1 := HM.out
      rw [HQ.out] at e1
      simp only [Bool.false_eq_true, if_false] at e1
      subst e1
      exact ⟨.slice A0 acc.length c0, rfl, HO1.out.rdv goodS, HP1.out, HT1.out⟩
    | true =>
      have HQ := Lib.hid hq
      have hne : s1.l ≠ [] := beginsStmt_ne hq
      clear hq
      have HD3 : Hid (s.deep ≤ 8) := Lib.hid (by
        rcases Nat.lt_or_ge s.deep 9 with h | h
        · omega
        · exact absurd (HD.out.2 h) hne)
      have hm := HM.out
      rw [HQ.out] at hm
      simp only [if_true] at hm
      have HMM := Lib.hid hm
      clear hm
      go_wp2_with fail
      refine (room_any en b acc.length 40 s1 w1 HP1.out).mono ?_
      rintro e2 w2 ⟨rfl, h2, t2⟩
      have HP2 := Lib.hid h2
      have HO2 := Lib.hid (HO1.out.turn goodS t2 (by simp; omega))
      have HT2 := Lib.hid (HT1.out.trans t2 (fun g hg => .inl hg))
      obtain ⟨s2, es2⟩ : ∃ q, room (decide (40 ≤ acc.length)) s1 = q := ⟨_, rfl⟩
      rw [es2] at HP2
      have hl2 : s2.l = s1.l := by rw [← es2]; rfl
      have hd2 : s2.deep = s1.deep := by rw [← es2]; rfl
      have hne2 : s2.l ≠ [] := by rw [hl2]; exact hne
      have hlt2 : Lt s2 ((stmtN en k) s2).2 := by
        have hk0 : 0 < k := by have := HD3.out; omega
        obtain ⟨k0, rfl⟩ : ∃ k0, k = k0 + 1 := ⟨k - 1, by omega⟩
        exact stmtN_lt k0 hne2
      have HES2 := Lib.hid es2
      have HD2 := Lib.hid hd2
      have HL2 := Lib.hid (congrArg List.length hl2)
      clear h2 t2 es2 hl2 hd2 hne
      go_wp2_with fail
      refine (HST.out b s2 w2 HP2.out (by have := HD3.out; have := HD2.out; have := HD.out.1; omega) (by have := HD2.out; have := HD.out.1; omega)).mono ?_
      rintro e3 w3 ⟨cs, rfl, hr3, h3, t3⟩
      have HP3 := Lib.hid h3
      have HO3 := Lib.hid (HO2.out.turn goodS t3 (by simp; omega))
      have HT3 := Lib.hid (HT2.out.trans t3 (fun g hg => .inl hg))
      obtain ⟨x3, ex3⟩ : ∃ q, ((stmtN en k) s2).1 = q := ⟨_, rfl⟩
      obtain ⟨s3, es3⟩ : ∃ q, ((stmtN en k) s2).2 = q := ⟨_, rfl⟩
      rw [es3] at HP3 hlt2
      rw [ex3] at hr3
      have HLT := Lib.hid hlt2
      have HEX3 := Lib.hid ex3
      have HES3 := Lib.hid es3
      have hsz3 : w.heap.size ≤ w3.heap.size := HT3.out.size
      have hsz2 : w.heap.size ≤ w2.heap.size := HT2.out.size
      clear h3 t3 ex3 es3 hlt2 hne2
      obtain ⟨xd, xx, xy, xz, xt, xf, xag, xn, xbd, xot, xln, xcl⟩ := x3
      have hr3' := RdS.parts hr3
      obtain ⟨V1, V2, V3, rfl, k1, k2, k3⟩ := hr3'
      have o1 := rdv_one k1
      obtain ⟨P1, q1, rfl, _, _⟩ := k1
      obtain ⟨P2, q2, rfl, _, _⟩ := k2
      obtain ⟨P3, q3, rfl, _, _⟩ := k3
      have HR3 := Lib.hid (goodS.mono hr3 (B := fun g => w.heap.size ≤ g ∧ (Value.slice A0 acc.length c0).ownBlock ≠ some g) (fun g hg _ => ⟨Nat.le_trans hsz2 hg, fun e => by have := (HO2.out.lt e).1; omega⟩))
      clear hr3
      go_wp2_with (refine wpList_appL rfl (.tmp 17) (.tmp 20) 25 rfl w3 41 12 184 _ RdS goodS (fun g => w.heap.size ≤ g) Tryz.underlying25 stmt_info rfl (by omega) (by omega) (.slice A0 acc.length c0) acc rfl HO3.out _ [.int .i64 xd, .string xx, .string xy, .string xz, .string xt, .string xf, .slice P1 xag.length q1, .int .i64 xn, .slice P2 xbd.length q2, .slice P3 xot.length q3, .int .i64 xln, .int .i64 xcl] (.mk xd xx xy xz xt xf xag xn xbd xot xln xcl) _ rfl HR3.out rfl (by omega) (by show w.heap.size ≤ w3.heap.size + 1; omega) ?_)
      intro v4 w4 ho4 t4 hb4
      have hvb : ∀ g, (Value.slice A0 acc.length c0).ownBlock = some g → w.heap.size ≤ g := fun g hg => (HO3.out.lt hg).2
      have HP4 := Lib.hid (HP3.out.turn t4 (fun g hg => by have := hvb g (by simpa using hg); omega))
      have HO4 := Lib.hid ho4
      have HT4 := Lib.hid (HT3.out.trans t4 (fun g hg => .inr (hvb g (by simpa using hg))))
      clear ho4 t4 hb4 hvb
      go_wp2_with fail
      go_roundw
      case rel =>
        have h1 := HLT.out
        have h1b := h1.2
        have h2 := HL2.out
        refine ⟨acc ++ [(.mk xd xx xy xz xt xf xag xn xbd xot xln xcl)], s3, HO4, HP4, HT4, Lib.hid ⟨by rw [h1.1, HD2.out, HD.out.1], fun h => by have := HD3.out; omega⟩, ⟨by simp; omega, m, by omega, ?_⟩⟩
        have := HMM.out
        rw [HES2.out, HES3.out, HEX3.out] at this
        exact this
      case measure =>
        rw [HP4.out.lenAt, HP.out.lenAt]
        have h1 := HLT.out.2
        have h2 := HL2.out
        omega
end Go.Proofs.YtnmhcgkccchacaaGreatDoor

/- Blocks in a statement: stmts, braced, nested. -/
set_option linter.unusedSimpArgs false
set_option linter.unusedVariables false
set_option maxRecDepth 100000
namespace Go.Proofs.YtnmhcgkccchacaaGreatDoor
open Go.RowKit

set_option maxHeartbeats 1600000 in
theorem stmts_any (en : Nat × Nat) (b : Nat) (s : RS) (k : Nat) (w : World) (hP : Pr en w b s) (hst : StSaid en k) (hdeep : 9 ≤ s.deep → s.l = []) (hk : 9 ≤ s.deep + k) :
    Calls Tryz.prog 115 #[.pointer (some ⟨b, 0, none⟩)] w fun e w' =>
      ∃ V, e = .returned V ∧ RdV 12 RdS (fun g => w.heap.size ≤ g) w' V (stmtsW (stmtN en k) s).1 ∧ Pr en w' b (stmtsW (stmtN en k) s).2 ∧ Turn [b] w w' := by
  have hmf := mf
  have HM := Lib.hid (manyS_any en b s k w hP hst hdeep hk)
  clear hP hst hdeep
  go_enter Tryz.func115, Tryz.ntmps115
  go_wp2_with fail
  refine HM.out.mono ?_
  rintro e w1 ⟨V, rfl, hv, h1, t1⟩
  have HV := Lib.hid hv
  have H1 := Lib.hid h1
  have HT := Lib.hid t1
  obtain ⟨P, c, rfl, _, _⟩ := id hv
  clear hv h1 t1
  go_wp2_with fail
  go_ret
  exact ⟨_, rfl, HV.out, H1.out, HT.out⟩

set_option maxHeartbeats 1600000 in
/-- braced, of a function value that is known by what it does. -/
theorem braced_any (en : Nat × Nat) (b : Nat) (s s2 : RS) (k : Nat) (caps : List Value) (Q : World → Prop) (F : List Nat) (w : World) (hP : Pr en w b s)
    (hen : ∀ (args : Array Value) (W : World), (callFunc k args).run Tryz.prog W = .ok (.enter k args) W)
    (hin : ∀ w1, Pr en w1 b (take en [123] s) → Turn [b] w w1 → Calls Tryz.prog k caps.toArray w1 fun e w2 => e = .returned (.tuple #[]) ∧ Q w2 ∧ Pr en w2 b s2 ∧ Turn F w w2) :
    Calls Tryz.prog 106 #[.pointer (some ⟨b, 0, none⟩), .func (.func k) #[] caps.toArray] w fun e w' => e = .returned (.tuple #[]) ∧ ∃ w2, Q w2 ∧ Turn F w w2 ∧ Turn [b] w2 w' ∧ Pr en w' b (take en [125] s2) := by
  have HP := Lib.hid hP
  have HIN := Lib.hid hin
  clear hP hin
  go_enter Tryz.func106, Tryz.ntmps106
  go_wp2_with fail
  refine (takeN_any en b s [123] _ w.heap.size rfl _ rfl HP.out).mono ?_
  rintro e1 w1 ⟨rfl, h1, t1⟩
  have HC := Lib.hid (HIN.out w1 h1 t1)
  clear h1 t1 HIN
  go_wp2_with fail
  refine HC.out.mono ?_
  rintro e2 w2 ⟨rfl, q2, h2, t2⟩
  have HQ2 := Lib.hid q2
  have HP2 := Lib.hid h2
  have HT2 := Lib.hid t2
  clear q2 h2 t2 HC
  go_wp2_with fail
  refine (takeN_any en b s2 [125] _ w2.heap.size rfl _ rfl HP2.out).mono ?_
  rintro e3 w3 ⟨rfl, h3, t3⟩
  have HP3 := Lib.hid h3
  have HT3 := Lib.hid t3
  clear h3 t3
  go_wp2_with fail
  go_end0
  exact ⟨rfl, w2, HQ2.out, HT2.out, HT3.out, HP3.out⟩

theorem take_full (en : Nat × Nat) (t : List UInt8) (s : RS) : (take en t (room true s)).l = [] := by
  unfold take
  split
  · have : pass en (room true s) = (e0, refuse en 13 (room true s)) := by unfold pass; rfl
    rw [this]
    exact refuse_l en 13 _
  · exact refuse_l en 10 _
theorem RI.deep' {en : Nat × Nat} {w : World} {b : Nat} {s : RS} {v : Value} (h : RI en w b s v) (d : Nat) (hb : b < w.heap.size) : RI en (w.setCell ⟨b, 7, none⟩ (.int .i64 (d : Int))) b { s with deep := d } v := by
  have t : Turn [b] w (w.setCell ⟨b, 7, none⟩ (.int .i64 (d : Int))) := (Turn.refl [b] w).setCell (.inl (by simp)) _
  exact ⟨rset h.blk rfl, h.left.turn t (by simp) hb, h.kw.turn t (by have := h.gt; simp; omega), h.gt, h.len, h.tok⟩

set_option maxHeartbeats 3200000 in
theorem nested1_any (en : Nat × Nat) (b : Nat) (s : RS) (k g1 g3 : Nat) (u : Value) (w : World) (hP : Pr en w b s) (hg1 : b < g1) (hg3 : b < g3) (hne : g1 ≠ g3) (c1 : w.cell? ⟨g1, 0, none⟩ = some (.pointer (some ⟨b, 0, none⟩)))
    (c3 : w.heap[g3]? = some (.cells #[u] 25 (0, 0))) (hst : StSaid en k) (hd : s.deep ≤ 8) (hdeep : 8 ≤ s.deep → s.l = []) (hk : 9 ≤ s.deep + 1 + k) :
    Calls Tryz.prog 118 #[.pointer (some ⟨g1, 0, none⟩), .pointer (some ⟨g3, 0, none⟩)] w fun e w' => e = .returned (.tuple #[]) ∧
      (∃ V, w'.heap[g3]? = some (.cells #[V] 25 (0, 0)) ∧ RdV 12 RdS (fun g => w.heap.size ≤ g) w' V (stmtsW (stmtN en k) { s with deep := s.deep + 1 }).1) ∧
      Pr en w' b { (stmtsW (stmtN en k) { s with deep := s.deep + 1 }).2 with deep := s.deep } ∧ Turn [b, g3] w w' := by
  have hbl := hP.lt
  have hg3l : g3 < w.heap.size := (Array.getElem?_eq_some_iff.1 c3).1
  have hg1l := cell_lt c1
  have HST := Lib.hid hst
  obtain ⟨v, hI⟩ := hP
  have hI0 := hI
  obtain ⟨d, hdd⟩ : ∃ d, s.deep = d := ⟨_, rfl⟩
  have hle := stmtsW_le (st := stmtN en k) (stmtN_le k) (Le.refl { s with deep := s.deep + 1 })
  obtain ⟨s2, hs2⟩ : ∃ s2 : RS, { s with deep := s.deep + 1 } = s2 := ⟨_, rfl⟩
  rw [hs2] at hle ⊢
  obtain ⟨R, hR⟩ : ∃ R, stmtsW (stmtN en k) s2 = R := ⟨_, rfl⟩
  rw [hR] at hle ⊢
  have b7 : w.cell? ⟨b, 7, none⟩ = some (.int .i64 (d : Int)) := by
    rw [cell_of_row w b 7 _ 95 (0, 0) hI.blk, ← hdd]
    rfl
  have f7 : w.frozen? ⟨b, 7, none⟩ = false := frozen_of_row w b 7 _ 95 hI.blk
  have hI1 : RI en (w.setCell ⟨b, 7, none⟩ (.int .i64 ((d + 1 : Nat) : Int))) b s2 v := by
    rw [← hs2, ← hdd]
    exact hI.deep' (s.deep + 1) hbl
  have t1 : Turn [b] w (w.setCell ⟨b, 7, none⟩ (.int .i64 ((d + 1 : Nat) : Int))) := (Turn.refl [b] w).setCell (.inl (by simp)) _
  have hcall := stmts_any en b s2 k _ ⟨v, hI1⟩ hst (by rw [← hs2]; simp only; intro h; exact hdeep (by omega)) (by rw [← hs2]; exact hk)
  rw [hR] at hcall
  have HCALL := Lib.hid hcall
  have HT1 := Lib.hid t1
  have HLE : Hid (R.2.deep = d + 1) := Lib.hid (by rw [hle.1, ← hs2, ← hdd])
  have HG1 : Hid (∀ W, Turn [b] w W → W.cell? ⟨g1, 0, none⟩ = some (.pointer (some ⟨b, 0, none⟩)) ∧ W.heap[g3]? = some (.cells #[u] 25 (0, 0))) := Lib.hid fun W t => ⟨(t.cell (p := ⟨g1, 0, none⟩) hg1l (by simp; omega)).trans c1, t.heap c3 (by simp; omega)⟩
  have e1 : (d : Int) + 1 = ((d + 1 : Nat) : Int) := by omega
  have hn1 : ¬ b = g1 := by omega
  have hn2 : ¬ g1 = b := by omega
  have HD : Hid (d ≤ 8) := Lib.hid (by rw [← hdd]; exact hd)
  have i1 : (-9223372036854775808 : Int) ≤ (d : Int) + 1 := by omega
  have i2 : (d : Int) + 1 ≤ 9223372036854775807 := by have := HD.out; omega
  have HDD := Lib.hid hdd
  have HE1 := Lib.hid e1
  clear hI hI0 hI1 hle hs2 hR hst hdeep hcall t1 c3 e1 hdd
  go_enter Tryz.func118, Tryz.ntmps118
  go_upto_region 1 with (fail)
  rw [HE1.out]
  obtain ⟨W, hW⟩ : ∃ W, w.setCell ⟨b, 7, none⟩ (.int .i64 ((d + 1 : Nat) : Int)) = W := ⟨_, rfl⟩
  rw [hW] at HCALL HT1 ⊢
  obtain ⟨g1c, g3c⟩ := HG1.out W HT1.out
  have z3 : W.cell? ⟨g3, 0, none⟩ = some u := cell_of_row W g3 0 _ _ _ g3c
  have zf3 : W.frozen? ⟨g3, 0, none⟩ = false := frozen_of_row W g3 0 _ _ g3c
  clear g3c hW c1
  go_wp2_with fail
  refine HCALL.out.mono ?_
  rintro e w2 ⟨V, rfl, hv, h2, t2⟩
  have hT2 : Turn [b] w w2 := HT1.out.trans t2 (fun g hg => .inl hg)
  obtain ⟨g1d, g3d⟩ := HG1.out w2 hT2
  obtain ⟨v2, hI2⟩ := h2
  have HV := Lib.hid hv
  have HI2 := Lib.hid hI2
  have HT2 := Lib.hid hT2
  have HTW := Lib.hid t2
  obtain ⟨P, c, rfl, _, _⟩ := id hv
  have y3 : w2.cell? ⟨g3, 0, none⟩ = some u := cell_of_row w2 g3 0 _ _ _ g3d
  have yf3 : w2.frozen? ⟨g3, 0, none⟩ = false := frozen_of_row w2 g3 0 _ _ g3d
  have y7 : w2.cell? ⟨b, 7, none⟩ = some (.int .i64 ((d + 1 : Nat) : Int)) := by
    rw [cell_of_row w2 b 7 _ 95 (0, 0) hI2.blk, ← HLE.out]
    rfl
  have yf7 : w2.frozen? ⟨b, 7, none⟩ = false := frozen_of_row w2 b 7 _ 95 hI2.blk
  have hn3 : ¬ b = g3 := by omega
  have hn4 : ¬ g3 = b := by omega
  have hn5 : ¬ g3 = g1 := by omega
  have HG3D := Lib.hid g3d
  clear hv hI2 hT2 t2 g3d z3 zf3 g1c
  have i3 : ((d + 1 : Nat) : Int) - 1 = (d : Int) := by omega
  have i4 : (-9223372036854775808 : Int) ≤ ((d + 1 : Nat) : Int) - 1 := by omega
  have i5 : ((d + 1 : Nat) : Int) - 1 ≤ 9223372036854775807 := by have := HD.out; omega
  go_wp2_with fail
  go_end0
  have tA : Turn [b, g3] w2 ((w2.setCell ⟨g3, 0, none⟩ (.slice P R.1.length c)).setCell ⟨b, 7, none⟩ (.int .i64 (d : Int))) := ((Turn.refl [b, g3] w2).setCell (.inl (by simp)) _).setCell (.inl (by simp)) _
  have tB : Turn [g3] w2 (w2.setCell ⟨g3, 0, none⟩ (.slice P R.1.length c)) := (Turn.refl [g3] w2).setCell (.inl (by simp)) _
  refine ⟨rfl, ⟨.slice P R.1.length c, ?_, ?_⟩, ⟨v2, ?_⟩, ((HT2.out).more (by simp)).trans tA (fun g hg => .inl hg)⟩
  · rw [heap_setCell_other _ _ _ _ (by simp; omega)]
    exact rset HG3D.out rfl
  · have := HV.out.turn goodS tA (fun g hg h => by have h1 := HT1.out.size; simp at hg; omega)
    exact this.mono goodS (fun g hg _ => Nat.le_trans HT1.out.size hg)
  · have := (HI2.out.turn tB (by simp; omega)).deep' d (by have := HI2.out.lt; simpa using this)
    rw [HDD.out]
    exact this
end Go.Proofs.YtnmhcgkccchacaaGreatDoor

/- nested. -/
set_option linter.unusedSimpArgs false
set_option linter.unusedVariables false
set_option maxRecDepth 100000
namespace Go.Proofs.YtnmhcgkccchacaaGreatDoor
open Go.RowKit

set_option maxHeartbeats 6400000 in
theorem nested_any (en : Nat × Nat) (b : Nat) (s : RS) (k : Nat) (w : World) (hP : Pr en w b s) (hst : StSaid en k) (hd : s.deep ≤ 8) (hk : 9 ≤ s.deep + 1 + k) :
    Calls Tryz.prog 90 #[.pointer (some ⟨b, 0, none⟩)] w fun e w' =>
      ∃ V, e = .returned V ∧ RdV 12 RdS (fun g => w.heap.size ≤ g) w' V (nestedW en (stmtN en k) s).1 ∧ Pr en w' b (nestedW en (stmtN en k) s).2 ∧ Turn [b] w w' := by
  have hmf := mf
  have hbl := hP.lt
  have HST := Lib.hid hst
  have t0 : Turn [] w ((w.alloc (.cells #[.pointer (some ⟨b, 0, none⟩)] 57)).alloc (.cells #[.slice none 0 0] 25)) := ((Turn.refl [] w).alloc _).alloc _
  have hg1 : ((w.alloc (.cells #[.pointer (some ⟨b, 0, none⟩)] 57)).alloc (.cells #[.slice none 0 0] 25)).heap[w.heap.size]? = some (.cells #[.pointer (some ⟨b, 0, none⟩)] 57 (0, 0)) :=
    ((Turn.refl [] _).alloc _).heap (heap_alloc_new w _) (by simp)
  have hg3 : ((w.alloc (.cells #[.pointer (some ⟨b, 0, none⟩)] 57)).alloc (.cells #[.slice none 0 0] 25)).heap[w.heap.size + 1]? = some (.cells #[.slice none 0 0] 25 (0, 0)) := by
    have := heap_alloc_new (w.alloc (.cells #[.pointer (some ⟨b, 0, none⟩)] 57)) (.cells #[.slice none 0 0] 25)
    rwa [World.size_alloc] at this
  have hsz : ((w.alloc (.cells #[.pointer (some ⟨b, 0, none⟩)] 57)).alloc (.cells #[.slice none 0 0] 25)).heap.size = w.heap.size + 2 := by simp
  obtain ⟨W, hW⟩ : ∃ W, (w.alloc (.cells #[.pointer (some ⟨b, 0, none⟩)] 57)).alloc (.cells #[.slice none 0 0] 25) = W := ⟨_, rfl⟩
  rw [hW] at t0 hg1 hg3 hsz
  obtain ⟨r, hr⟩ : ∃ r, w.heap.size = r := ⟨_, rfl⟩
  rw [hr] at hg1 hg3 hsz
  have hP0 := hP.up t0
  obtain ⟨v, hI⟩ := id hP0
  obtain ⟨d, hdd⟩ : ∃ d, s.deep = d := ⟨_, rfl⟩
  have b7 : W.cell? ⟨b, 7, none⟩ = some (.int .i64 (d : Int)) := by
    rw [cell_of_row W b 7 _ 95 (0, 0) hI.blk, ← hdd]
    rfl
  have c1 : W.cell? ⟨r, 0, none⟩ = some (.pointer (some ⟨b, 0, none⟩)) := cell_of_row W r 0 _ _ _ hg1
  have HW := Lib.hid hW
  have HR := Lib.hid hr
  have HP0 := Lib.hid hP0
  have HT0 := Lib.hid t0
  have HG1 := Lib.hid hg1
  have HG3 := Lib.hid hg3
  have HD := Lib.hid hd
  have HDD := Lib.hid hdd
  have HK := Lib.hid hk
  -- what the room, the braces and the block inside make of it
  have hrm := room_any en b d 8 s W.drew (hP0.up (Turn.refl [] W).drew)
  rw [show (((8 : Nat)) : Int) = (8 : Int) from rfl] at hrm
  have HRM := Lib.hid hrm
  clear hrm
  obtain ⟨s1, hs1⟩ : ∃ q, room (decide (8 ≤ d)) s = q := ⟨_, rfl⟩
  rw [hs1] at HRM
  obtain ⟨s2, hs2⟩ : ∃ q, take en [123] s1 = q := ⟨_, rfl⟩
  have hle : Le s s2 := by
    rw [← hs2, ← hs1]
    exact take_le _ (room_le _ (Le.refl s))
  have hnil : 8 ≤ s2.deep → s2.l = [] := fun h => by
    have h8 : decide (8 ≤ d) = true := by
      have := hle.1
      simp
      omega
    rw [← hs2, ← hs1, h8]
    exact take_full en _ s
  obtain ⟨R, hR⟩ : ∃ R, stmtsW (stmtN en k) { s2 with deep := s2.deep + 1 } = R := ⟨_, rfl⟩
  have hRd : R.2.deep = s2.deep + 1 := by rw [← hR]; exact (stmtsW_le (stmtN_le k) (Le.refl { s2 with deep := s2.deep + 1 })).1
  have hEF : nestedW en (stmtN en k) s = (R.1, take en [125] { R.2 with deep := s2.deep }) := by
    unfold nestedW
    simp only [hdd, hs1, hs2, hR]
    congr 2
    rw [hRd]
    rfl
  have HEF := Lib.hid hEF
  have HS2 := Lib.hid hs2
  have HLE := Lib.hid hle
  have HNIL := Lib.hid hnil
  have HRR := Lib.hid hR
  have hbr : b < r := by omega
  clear hst hW hr hP0 t0 hg1 hg3 hd hdd hk hs1 hs2 hle hnil hR hRd hEF hI hP
  go_enter Tryz.func90, Tryz.ntmps90
  go_upto_region 2 with (fail)
  rw [HW.out, HR.out]
  go_region_held3 (fun w' => w'.cell? ⟨r, 0, none⟩ = some (.pointer (some ⟨b, 0, none⟩)) ∧ w'.cell? ⟨b, 7, none⟩ = some (.int .i64 (d : Int)))
    (first | exact ⟨c1, b7⟩ | exact ⟨c1', b7'⟩ | go_keep)
    (first
      | (go_at_call 80; (with_reducible refine HRM.out.mono ?_); rintro e1 w1 ⟨rfl, h1, t1⟩
         have hT1 : Turn [b] W w1 := ((Turn.refl [b] W).drew).trans t1 (fun g hg => .inl hg)
         have c1' : w1.cell? ⟨r, 0, none⟩ = some (.pointer (some ⟨b, 0, none⟩)) := cell_of_row w1 r 0 _ _ _ (hT1.heap HG1.out (by simp; omega))
         have hg3' := hT1.heap HG3.out (by simp; omega)
         obtain ⟨v1, hI1⟩ := id h1
         have b7' : w1.cell? ⟨b, 7, none⟩ = some (.int .i64 (d : Int)) := by
           have hd1 : s1.deep = d := by have := HLE.out.1; have := HDD.out; have e2 := HS2.out; have e3 := (take_le (en := en) (s := s1) [123] (Le.refl s1)).1; rw [e2] at e3; omega
           rw [cell_of_row w1 b 7 _ 95 (0, 0) hI1.blk, hd1]
           rfl
         have HP1 := Lib.hid h1
         have HT1 := Lib.hid hT1
         have HG3' := Lib.hid hg3'
         clear h1 t1 hT1 hg3' hI1)
      | fail)
  all_goals
    have HBR := Lib.hid (braced_any en b s1 { R.2 with deep := s2.deep } 118 [.pointer (some ⟨r, 0, none⟩), .pointer (some ⟨r + 1, 0, none⟩)]
      (fun w2 => ∃ V, w2.heap[r + 1]? = some (.cells #[V] 25 (0, 0)) ∧ RdV 12 RdS (fun g => r + 2 ≤ g) w2 V R.1) [b, r + 1] w1 HP1.out (enters_of Tryz.func118 (by kernel_rfl) rfl) (fun w2 h2 t2 => by
        rw [HS2.out] at h2
        have hsz1 : W.heap.size ≤ w1.heap.size := HT1.out.size
        have q1 : w2.cell? ⟨r, 0, none⟩ = some (.pointer (some ⟨b, 0, none⟩)) := (t2.cell (p := ⟨r, 0, none⟩) (by simp only; omega) (by simp; omega)).trans c1'
        have q3 := t2.heap HG3'.out (by simp; omega)
        refine (nested1_any en b s2 k r (r + 1) _ w2 h2 hbr (by omega) (by omega) q1 q3 HST.out (by rw [HLE.out.1]; exact HD.out) HNIL.out (by rw [HLE.out.1]; exact HK.out)).mono ?_
        rintro e3 w3 ⟨rfl, ⟨V, hV, hrd⟩, h3, t3⟩
        rw [HRR.out] at hrd h3
        have := t2.size
        exact ⟨rfl, ⟨V, hV, hrd.mono goodS (fun g hg _ => by omega)⟩, h3, (t2.more (by simp)).trans t3 (fun g hg => .inl hg)⟩))
    go_wp2_with fail
    refine HBR.out.mono ?_
    rintro e4 w4 ⟨rfl, w3, ⟨V, hV, hrd⟩, t3, t4, h4⟩
    have hV4 := t4.heap hV (by simp; omega)
    have hrd4 := hrd.turn goodS t4 (fun g hg h => by simp at hg; omega)
    have x3 : w4.cell? ⟨r + 1, 0, none⟩ = some V := cell_of_row w4 (r + 1) 0 _ _ _ hV4
    obtain ⟨P, c, rfl, _, _⟩ := id hrd4
    have HRD := Lib.hid hrd4
    have HP4 := Lib.hid h4
    have HT4 : Hid (Turn [b] w w4) := Lib.hid (((HT0.out.more (by simp)).trans HT1.out (fun g hg => .inl hg)).trans ((t3.trans t4 (fun g hg => by simp at hg; simp [hg]))) (fun g hg => by have := HR.out; simp at hg; rcases hg with rfl | rfl <;> simp; omega))
    clear hV hrd t3 t4 h4 hV4 hrd4
    go_wp2_with fail
    go_ret
    rw [HEF.out]
    exact ⟨_, rfl, HRD.out.mono goodS (fun g hg _ => by have := HR.out; omega), HP4.out, HT4.out⟩
end Go.Proofs.YtnmhcgkccchacaaGreatDoor
