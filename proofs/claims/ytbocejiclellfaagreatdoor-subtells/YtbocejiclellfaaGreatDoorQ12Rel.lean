import Derived.Test.YtbocejiclellfaaGreatDoorQ11Ssf
import Derived.Deep.RegionHeld3
import Derived.BigQuiet

/- The reference's Elem, Is, Ref: they answer what the program's do. -/
set_option linter.unusedSimpArgs false
set_option linter.unusedVariables false
set_option maxRecDepth 100000
namespace Go.Proofs.YtbocejiclellfaaGreatDoor
open Go.RowKit

set_option maxHeartbeats 6400000 in
theorem rElem_any (A : Option Addr) (c B : Nat) (l : List K8) (m0 m1 m2 m3 m4 m5 m6 m7 m8 : Value) (p : PlainL l) (t : ByteArray) (w : World) (hr : RdKs B w A l) (hl : l.length ≤ 1000) (ht : t.size ≤ 562949953421312) :
    Calls Tryz.prog 10 #[.agg #[.slice A l.length c, m0, m1, m2, m3, m4, m5, m6, m7, m8], .string t] w fun e w' => e = .returned (.string (elT l t)) ∧ Turn [] w w' := by
  obtain ⟨n, hn⟩ : ∃ n, l.length = n := ⟨_, rfl⟩
  obtain ⟨r, hrr⟩ : ∃ r, w.heap.size = r := ⟨_, rfl⟩
  obtain ⟨W0, hW0⟩ : ∃ W, w.alloc (.cells #[.slice A n c, m0, m1, m2, m3, m4, m5, m6, m7, m8] 30) = W := ⟨_, rfl⟩
  have t0 : Turn [] w W0 := by rw [← hW0]; exact (Turn.refl [] w).alloc _
  have b0 : W0.heap[r]? = some (.cells #[.slice A n c, m0, m1, m2, m3, m4, m5, m6, m7, m8] 30 (0, 0)) := by rw [← hW0, ← hrr]; exact heap_alloc_new w _
  have HP : Hid (∀ W, Turn [] W0 W → ∀ (i : Nat) (v : Value), (#[Value.slice A n c, m0, m1, m2, m3, m4, m5, m6, m7, m8] : Array Value)[i]? = some v → W.cell? ⟨r, i, none⟩ = some v) := Lib.hid fun W k i v hv => (cell_of_row W r i _ _ _ (k.heap b0 (by simp))).trans hv
  have HFd : Hid (∀ W, Turn [] W0 W → ∀ s, Calls Tryz.prog 9 #[.agg #[.slice A n c, m0, m1, m2, m3, m4, m5, m6, m7, m8], .string s] W fun e w' => e = .returned (.int .i64 (fndI l s)) ∧ Turn [] W w') := Lib.hid fun W k s => by
    rw [← hn]
    exact rfind_any A c B l m0 m1 m2 m3 m4 m5 m6 m7 m8 s W ((hr.turn t0 (by simp)).turn k (by simp)) hl
  have HT0 := Lib.hid t0
  have HW0 := Lib.hid hW0
  have HRR := Lib.hid hrr
  have HN := Lib.hid hn
  rw [hn]
  obtain ⟨z, hz⟩ : ∃ z, t.size = z := ⟨_, rfl⟩
  have hc : ∀ s, cutB t = some s → s = t.extract 0 (z - 2) := fun s h => by rw [← hz]; exact (cutB_size h).2
  clear hr hrr hW0 t0 b0 hn
  by_cases h2 : 2 < z
  · have g1 : decide ((z : Int) > 2) = true := by simp; omega
    have g2 : decide ((2 : Int) < (z : Int)) = true := by simp; omega
    have g3 : decide (2 < z) = true := by simp; omega
    have hw : IntKind.i64.wrap ((z : Int) - 2) = (z : Int) - 2 := by rw [IntKind.wrap_i64]; omega
    have k1 : (2 : Int) ≤ (z : Int) := by omega
    have k2 : (z : Int) - 2 ≤ (z : Int) := by omega
    have k3 : ((z : Int) - 2).toNat = z - 2 := by omega
    have k4 : (0 : Int) ≤ (z : Int) - 2 := by omega
    have hbl := br_list (a := t.extract (z - 2) z)
    by_cases e : t.extract (z - 2) z = tBr
    · have g4 : ((t.extract (z - 2) z).toList == [91, 93]) = true := by rw [hbl, e]; simp
      have hcut : cutB t = some (t.extract 0 (z - 2)) := by
        have := br_yes (t := t) (by omega) (by rw [hz]; exact e)
        rw [hz] at this
        exact this
      obtain ⟨s, hs⟩ : ∃ s, t.extract 0 (z - 2) = s := ⟨_, rfl⟩
      rw [hs] at hcut
      have hel : elI l t = fstF l l.length s := by unfold elI; rw [hcut]; rfl
      have HSS : Hid (∀ W, Turn [] W0 W → (∀ w', w' = W → (w'.cell? ⟨r, 0, none⟩ = some (.slice A n c) ∧ w'.cell? ⟨r, 1, none⟩ = some m0 ∧ w'.cell? ⟨r, 2, none⟩ = some m1 ∧ w'.cell? ⟨r, 3, none⟩ = some m2 ∧ w'.cell? ⟨r, 4, none⟩ = some m3 ∧ w'.cell? ⟨r, 5, none⟩ = some m4 ∧ w'.cell? ⟨r, 6, none⟩ = some m5 ∧ w'.cell? ⟨r, 7, none⟩ = some m6 ∧ w'.cell? ⟨r, 8, none⟩ = some m7 ∧ w'.cell? ⟨r, 9, none⟩ = some m8))) := Lib.hid fun W k w' e => by rw [e]; exact ⟨HP.out W k 0 _ rfl, HP.out W k 1 _ rfl, HP.out W k 2 _ rfl, HP.out W k 3 _ rfl, HP.out W k 4 _ rfl, HP.out W k 5 _ rfl, HP.out W k 6 _ rfl, HP.out W k 7 _ rfl, HP.out W k 8 _ rfl, HP.out W k 9 _ rfl⟩
      have HSS : Hid (∀ w', Turn [] W0 w' → (w'.cell? ⟨r, 0, none⟩ = some (.slice A n c) ∧ w'.cell? ⟨r, 1, none⟩ = some m0 ∧ w'.cell? ⟨r, 2, none⟩ = some m1 ∧ w'.cell? ⟨r, 3, none⟩ = some m2 ∧ w'.cell? ⟨r, 4, none⟩ = some m3 ∧ w'.cell? ⟨r, 5, none⟩ = some m4 ∧ w'.cell? ⟨r, 6, none⟩ = some m5 ∧ w'.cell? ⟨r, 7, none⟩ = some m6 ∧ w'.cell? ⟨r, 8, none⟩ = some m7 ∧ w'.cell? ⟨r, 9, none⟩ = some m8)) := Lib.hid fun W k => HSS.out W k W rfl
      obtain ⟨x, hx⟩ : ∃ x, fndI l s = x := ⟨_, rfl⟩
      have HX : Hid (decide (x ≥ 0) = (fstF l l.length s).isSome) := Lib.hid (by rw [← hx]; exact fnd_fst)
      have HFd : Hid (∀ W, Turn [] W0 W → ∀ s', s' = s → Calls Tryz.prog 9 #[.agg #[.slice A n c, m0, m1, m2, m3, m4, m5, m6, m7, m8], .string s'] W fun e w' => e = .returned (.int .i64 x) ∧ Turn [] W w') := Lib.hid fun W k s' e => by rw [e, ← hx]; exact HFd.out W k s
      have HFd : Hid (∀ W, Turn [] W0 W → ∀ _ : ByteArray, Calls Tryz.prog 9 #[.agg #[.slice A n c, m0, m1, m2, m3, m4, m5, m6, m7, m8], .string s] W fun e w' => e = .returned (.int .i64 x) ∧ Turn [] W w') := Lib.hid fun W k _ => HFd.out W k s rfl
      obtain ⟨ok, hok⟩ : ∃ ok, (fstF l l.length s).isSome = ok := ⟨_, rfl⟩
      rw [hok] at HX
      have HE : Hid (elT l t = if ok = true then s else ⟨#[]⟩) := Lib.hid (by
        rw [← hok]
        cases h : fstF l l.length s with
        | none => rw [elT_none l t (by rw [hel, h])]; rfl
        | some i =>
          rw [elT_nm l t (by rw [hel, h])]
          exact (pl_fst p h).2.2.2.2.1)
      have g5 := HX.out
      have g6 : decide (0 ≤ x) = ok := HX.out
      clear hx hok hel hcut e hbl hc
      go_enter Tryz.func10, Tryz.ntmps10
      go_upto_region 1 with fail
      rw [HRR.out, HW0.out]
      cases ok with
      | true =>
        refine wp_region_held_drew (S := fun w' => w'.cell? ⟨r, 0, none⟩ = some (.slice A n c) ∧ w'.cell? ⟨r, 1, none⟩ = some m0 ∧ w'.cell? ⟨r, 2, none⟩ = some m1 ∧ w'.cell? ⟨r, 3, none⟩ = some m2 ∧ w'.cell? ⟨r, 4, none⟩ = some m3 ∧ w'.cell? ⟨r, 5, none⟩ = some m4 ∧ w'.cell? ⟨r, 6, none⟩ = some m5 ∧ w'.cell? ⟨r, 7, none⟩ = some m6 ∧ w'.cell? ⟨r, 8, none⟩ = some m7 ∧ w'.cell? ⟨r, 9, none⟩ = some m8) (by kernel_rfl) ?_ (fun hHeld => ?_)
        · exact HSS.out _ (Turn.refl [] W0).drew
        refine wpAnyH_take (i := 0) (oi := { dst := some 5, op := Op.move (Operand.tmp 1), type := 9, pos := _, after := #[], guard := none }) (v := ?_) rfl (by kernel_rfl) (by kernel_rfl) (by kernel_rfl) (fun _ _ _ h => h) (Or.inl ⟨by rfl, ?_⟩) (by assumption) ?_
        rotate_left
        · intro w hSw; (try dsimp only at hSw); go_simp; (try with_reducible rfl)
        try simp only [Act.put, List.setIfInBounds_toArray, List.set_cons_zero, List.set_cons_succ]
        refine wpAnyH_take (i := 1) (oi := { dst := some 6, op := Op.call { callee := Callee.builtin Builtin.len, args := #[Operand.tmp 5], argTypes := #[9] }, type := 3, pos := _, after := #[{ on := 0, ground := Ground.data }], guard := none }) (v := ?_) rfl (by kernel_rfl) (by kernel_rfl) (by kernel_rfl) (fun _ _ _ h => h) (Or.inl ⟨by rfl, ?_⟩) (by assumption) ?_
        rotate_left
        · intro w hSw; (try dsimp only at hSw); go_simp; (try with_reducible rfl)
        try simp only [Act.put, List.setIfInBounds_toArray, List.set_cons_zero, List.set_cons_succ]
        refine wpAnyH_take (i := 2) (oi := { dst := some 7, op := Op.binOp BinOp.gtr 3 (Operand.tmp 6) (Operand.const (Value.int IntKind.i64 2)) 3, type := 4, pos := _, after := #[{ on := 1, ground := Ground.data }], guard := none }) (v := ?_) rfl (by kernel_rfl) (by kernel_rfl) (by kernel_rfl) (fun _ _ _ h => h) (Or.inl ⟨by rfl, ?_⟩) (by assumption) ?_
        rotate_left
        · intro w hSw; (try dsimp only at hSw); go_simp; (try with_reducible rfl)
        try simp only [Act.put, List.setIfInBounds_toArray, List.set_cons_zero, List.set_cons_succ]
        refine wpAnyH_take (i := 3) (oi := { dst := some 8, op := Op.move (Operand.tmp 7), type := 4, pos := _, after := #[{ on := 2, ground := Ground.data }], guard := none }) (v := ?_) rfl (by kernel_rfl) (by kernel_rfl) (by kernel_rfl) (fun _ _ _ h => h) (Or.inl ⟨by rfl, ?_⟩) (by assumption) ?_
        rotate_left
        · intro w hSw; (try dsimp only at hSw); go_simp; (try with_reducible rfl)
        try simp only [Act.put, List.setIfInBounds_toArray, List.set_cons_zero, List.set_cons_succ]
        refine wpAnyH_take (i := 4) (oi := { dst := some 9, op := Op.move (Operand.tmp 1), type := 9, pos := _, after := #[{ on := 3, ground := Ground.guard }], guard := some (3, true) }) (v := ?_) rfl (by kernel_rfl) (by kernel_rfl) (by kernel_rfl) (fun _ _ _ h => h) (Or.inl ⟨by rfl, ?_⟩) (by assumption) ?_
        rotate_left
        · intro w hSw; (try dsimp only at hSw); go_simp; (try with_reducible rfl)
        try simp only [Act.put, List.setIfInBounds_toArray, List.set_cons_zero, List.set_cons_succ]
        refine wpAnyH_take (i := 5) (oi := { dst := some 10, op := Op.move (Operand.tmp 1), type := 9, pos := _, after := #[{ on := 3, ground := Ground.guard }], guard := some (3, true) }) (v := ?_) rfl (by kernel_rfl) (by kernel_rfl) (by kernel_rfl) (fun _ _ _ h => h) (Or.inl ⟨by rfl, ?_⟩) (by assumption) ?_
        rotate_left
        · intro w hSw; (try dsimp only at hSw); go_simp; (try with_reducible rfl)
        try simp only [Act.put, List.setIfInBounds_toArray, List.set_cons_zero, List.set_cons_succ]
        refine wpAnyH_take (i := 6) (oi := { dst := some 11, op := Op.call { callee := Callee.builtin Builtin.len, args := #[Operand.tmp 10], argTypes := #[9] }, type := 3, pos := _, after := #[{ on := 5, ground := Ground.data }, { on := 3, ground := Ground.guard }], guard := some (3, true) }) (v := ?_) rfl (by kernel_rfl) (by kernel_rfl) (by kernel_rfl) (fun _ _ _ h => h) (Or.inl ⟨by rfl, ?_⟩) (by assumption) ?_
        rotate_left
        · intro w hSw; (try dsimp only at hSw); go_simp; (try with_reducible rfl)
        try simp only [Act.put, List.setIfInBounds_toArray, List.set_cons_zero, List.set_cons_succ]
        refine wpAnyH_take (i := 7) (oi := { dst := some 12, op := Op.binOp BinOp.sub 3 (Operand.tmp 11) (Operand.const (Value.int IntKind.i64 2)) 3, type := 3, pos := _, after := #[{ on := 6, ground := Ground.data }, { on := 3, ground := Ground.guard }], guard := some (3, true) }) (v := ?_) rfl (by kernel_rfl) (by kernel_rfl) (by kernel_rfl) (fun _ _ _ h => h) (Or.inl ⟨by rfl, ?_⟩) (by assumption) ?_
        rotate_left
        · intro w hSw; (try dsimp only at hSw); go_simp; (try with_reducible rfl)
        try simp only [Act.put, List.setIfInBounds_toArray, List.set_cons_zero, List.set_cons_succ]
        refine wpAnyH_take (i := 8) (oi := { dst := some 13, op := Op.slice 9 (Operand.tmp 9) (some (Operand.tmp 12)) none none, type := 9, pos := _, after := #[{ on := 4, ground := Ground.data }, { on := 7, ground := Ground.data }, { on := 3, ground := Ground.guard }], guard := some (3, true) }) (v := ?_) rfl (by kernel_rfl) (by kernel_rfl) (by kernel_rfl) (fun _ _ _ h => h) (Or.inl ⟨by rfl, ?_⟩) (by assumption) ?_
        rotate_left
        · intro w hSw; (try dsimp only at hSw); go_simp; (try with_reducible rfl)
        try simp only [Act.put, List.setIfInBounds_toArray, List.set_cons_zero, List.set_cons_succ]
        refine wpAnyH_take (i := 9) (oi := { dst := some 14, op := Op.binOp BinOp.eql 9 (Operand.tmp 13) (Operand.const (Value.string { data := #[91, 93] })) 9, type := 4, pos := _, after := #[{ on := 8, ground := Ground.data }, { on := 3, ground := Ground.guard }], guard := some (3, true) }) (v := ?_) rfl (by kernel_rfl) (by kernel_rfl) (by kernel_rfl) (fun _ _ _ h => h) (Or.inl ⟨by rfl, ?_⟩) (by assumption) ?_
        rotate_left
        · intro w hSw; (try dsimp only at hSw); go_simp; (try with_reducible rfl)
        try simp only [Act.put, List.setIfInBounds_toArray, List.set_cons_zero, List.set_cons_succ]
        refine wpAnyH_take (i := 10) (oi := { dst := some 15, op := Op.pick (Operand.tmp 8) (Operand.tmp 14) (Operand.const (Value.bool false)), type := 4, pos := _, after := #[{ on := 3, ground := Ground.data }, { on := 9, ground := Ground.data }], guard := none }) (v := ?_) rfl (by kernel_rfl) (by kernel_rfl) (by kernel_rfl) (fun _ _ _ h => h) (Or.inl ⟨by rfl, ?_⟩) (by assumption) ?_
        rotate_left
        · intro w hSw; (try dsimp only at hSw); go_simp; (try with_reducible rfl)
        try simp only [Act.put, List.setIfInBounds_toArray, List.set_cons_zero, List.set_cons_succ]
        refine wpAnyH_take (i := 11) (oi := { dst := some 16, op := Op.move (Operand.tmp 15), type := 4, pos := _, after := #[{ on := 10, ground := Ground.data }, { on := 3, ground := Ground.chain }], guard := none }) (v := ?_) rfl (by kernel_rfl) (by kernel_rfl) (by kernel_rfl) (fun _ _ _ h => h) (Or.inl ⟨by rfl, ?_⟩) (by assumption) ?_
        rotate_left
        · intro w hSw; (try dsimp only at hSw); go_simp; (try with_reducible rfl)
        try simp only [Act.put, List.setIfInBounds_toArray, List.set_cons_zero, List.set_cons_succ]
        refine wpAnyH_take (i := 12) (oi := { dst := some 17, op := Op.load 30 (Operand.tmp 2), type := 30, pos := _, after := #[{ on := 11, ground := Ground.guard }], guard := some (11, true) }) (v := ?_) rfl (by kernel_rfl) (by kernel_rfl) (by kernel_rfl) (fun _ _ _ h => h) (Or.inl ⟨by rfl, ?_⟩) (by assumption) ?_
        rotate_left
        · intro w hSw; (try dsimp only at hSw); go_simp; (try with_reducible rfl)
        try simp only [Act.put, List.setIfInBounds_toArray, List.set_cons_zero, List.set_cons_succ]
        refine wpAnyH_take (i := 13) (oi := { dst := some 18, op := Op.move (Operand.tmp 1), type := 9, pos := _, after := #[{ on := 11, ground := Ground.guard }], guard := some (11, true) }) (v := ?_) rfl (by kernel_rfl) (by kernel_rfl) (by kernel_rfl) (fun _ _ _ h => h) (Or.inl ⟨by rfl, ?_⟩) (by assumption) ?_
        rotate_left
        · intro w hSw; (try dsimp only at hSw); go_simp; (try with_reducible rfl)
        try simp only [Act.put, List.setIfInBounds_toArray, List.set_cons_zero, List.set_cons_succ]
        refine wpAnyH_take (i := 14) (oi := { dst := some 19, op := Op.move (Operand.tmp 1), type := 9, pos := _, after := #[{ on := 11, ground := Ground.guard }], guard := some (11, true) }) (v := ?_) rfl (by kernel_rfl) (by kernel_rfl) (by kernel_rfl) (fun _ _ _ h => h) (Or.inl ⟨by rfl, ?_⟩) (by assumption) ?_
        rotate_left
        · intro w hSw; (try dsimp only at hSw); go_simp; (try with_reducible rfl)
        try simp only [Act.put, List.setIfInBounds_toArray, List.set_cons_zero, List.set_cons_succ]
        refine wpAnyH_take (i := 15) (oi := { dst := some 20, op := Op.call { callee := Callee.builtin Builtin.len, args := #[Operand.tmp 19], argTypes := #[9] }, type := 3, pos := _, after := #[{ on := 14, ground := Ground.data }, { on := 11, ground := Ground.guard }], guard := some (11, true) }) (v := ?_) rfl (by kernel_rfl) (by kernel_rfl) (by kernel_rfl) (fun _ _ _ h => h) (Or.inl ⟨by rfl, ?_⟩) (by assumption) ?_
        rotate_left
        · intro w hSw; (try dsimp only at hSw); go_simp; (try with_reducible rfl)
        try simp only [Act.put, List.setIfInBounds_toArray, List.set_cons_zero, List.set_cons_succ]
        refine wpAnyH_take (i := 16) (oi := { dst := some 21, op := Op.binOp BinOp.sub 3 (Operand.tmp 20) (Operand.const (Value.int IntKind.i64 2)) 3, type := 3, pos := _, after := #[{ on := 15, ground := Ground.data }, { on := 11, ground := Ground.guard }], guard := some (11, true) }) (v := ?_) rfl (by kernel_rfl) (by kernel_rfl) (by kernel_rfl) (fun _ _ _ h => h) (Or.inl ⟨by rfl, ?_⟩) (by assumption) ?_
        rotate_left
        · intro w hSw; (try dsimp only at hSw); go_simp; (try with_reducible rfl)
        try simp only [Act.put, List.setIfInBounds_toArray, List.set_cons_zero, List.set_cons_succ]
        refine wpAnyH_take (i := 17) (oi := { dst := some 22, op := Op.slice 9 (Operand.tmp 18) none (some (Operand.tmp 21)) none, type := 9, pos := _, after := #[{ on := 13, ground := Ground.data }, { on := 16, ground := Ground.data }, { on := 11, ground := Ground.guard }], guard := some (11, true) }) (v := ?_) rfl (by kernel_rfl) (by kernel_rfl) (by kernel_rfl) (fun _ _ _ h => h) (Or.inl ⟨by rfl, ?_⟩) (by assumption) ?_
        rotate_left
        · intro w hSw; (try dsimp only at hSw); go_simp; (try with_reducible rfl)
        try simp only [Act.put, List.setIfInBounds_toArray, List.set_cons_zero, List.set_cons_succ]
        refine wpAnyH_ready (rs := [18]) (by kernel_rfl) (by simp) ?_
        refine AllReadyH.cons (o := { dst := some 23, op := Op.call { callee := Callee.value (Operand.func 9), args := #[Operand.tmp 17, Operand.tmp 22], argTypes := #[30, 9] }, type := 3, pos := _, after := #[{ on := 12, ground := Ground.data }, { on := 17, ground := Ground.data }, { on := 11, ground := Ground.chain }, { on := 11, ground := Ground.guard }], guard := some (11, true) }) rfl (fun K hK => ?_) AllReadyH.nil
        go_simp
        go_at_call 9
        (with_reducible refine (HFd.out W0.drew ((Turn.refl [] W0).drew) s).mono ?_)
        rintro e w11 ⟨rfl, t11⟩
        have HT11 := Lib.hid (((Turn.refl [] W0).drew).trans' t11)
        clear t11
        try go_wp2_with fail
        refine hK.out _ _ ?_ (fun hHeld => ?_)
        · exact HSS.out _ (HT11.out)
        clear hK K
        try simp only [Act.put, List.setIfInBounds_toArray, List.set_cons_zero, List.set_cons_succ]
        refine wpAnyH_take (i := 19) (oi := { dst := some 24, op := Op.binOp BinOp.geq 3 (Operand.tmp 23) (Operand.const (Value.int IntKind.i64 0)) 3, type := 4, pos := _, after := #[{ on := 18, ground := Ground.data }, { on := 11, ground := Ground.guard }], guard := some (11, true) }) (v := ?_) rfl (by kernel_rfl) (by kernel_rfl) (by kernel_rfl) (fun _ _ _ h => h) (Or.inl ⟨by rfl, ?_⟩) (by assumption) ?_
        rotate_left
        · intro w hSw; (try dsimp only at hSw); go_simp; (try with_reducible rfl)
        try simp only [Act.put, List.setIfInBounds_toArray, List.set_cons_zero, List.set_cons_succ]
        refine wpAnyH_take (i := 20) (oi := { dst := some 25, op := Op.pick (Operand.tmp 16) (Operand.tmp 24) (Operand.const (Value.bool false)), type := 4, pos := _, after := #[{ on := 11, ground := Ground.data }, { on := 19, ground := Ground.data }], guard := none }) (v := ?_) rfl (by kernel_rfl) (by kernel_rfl) (by kernel_rfl) (fun _ _ _ h => h) (Or.inl ⟨by rfl, ?_⟩) (by assumption) ?_
        rotate_left
        · intro w hSw; (try dsimp only at hSw); go_simp; (try with_reducible rfl)
        try simp only [Act.put, List.setIfInBounds_toArray, List.set_cons_zero, List.set_cons_succ]
        refine wpAnyH_done (by kernel_rfl) ?_ _
        go_wp2_with fail
        go_ret
        exact ⟨by rw [HE.out]; rfl, HT0.out.trans' (HT11.out)⟩
      | false =>
        refine wp_region_held_drew (S := fun w' => w'.cell? ⟨r, 0, none⟩ = some (.slice A n c) ∧ w'.cell? ⟨r, 1, none⟩ = some m0 ∧ w'.cell? ⟨r, 2, none⟩ = some m1 ∧ w'.cell? ⟨r, 3, none⟩ = some m2 ∧ w'.cell? ⟨r, 4, none⟩ = some m3 ∧ w'.cell? ⟨r, 5, none⟩ = some m4 ∧ w'.cell? ⟨r, 6, none⟩ = some m5 ∧ w'.cell? ⟨r, 7, none⟩ = some m6 ∧ w'.cell? ⟨r, 8, none⟩ = some m7 ∧ w'.cell? ⟨r, 9, none⟩ = some m8) (by kernel_rfl) ?_ (fun hHeld => ?_)
        · exact HSS.out _ (Turn.refl [] W0).drew
        refine wpAnyH_take (i := 0) (oi := { dst := some 5, op := Op.move (Operand.tmp 1), type := 9, pos := _, after := #[], guard := none }) (v := ?_) rfl (by kernel_rfl) (by kernel_rfl) (by kernel_rfl) (fun _ _ _ h => h) (Or.inl ⟨by rfl, ?_⟩) (by assumption) ?_
        rotate_left
        · intro w hSw; (try dsimp only at hSw); go_simp; (try with_reducible rfl)
        try simp only [Act.put, List.setIfInBounds_toArray, List.set_cons_zero, List.set_cons_succ]
        refine wpAnyH_take (i := 1) (oi := { dst := some 6, op := Op.call { callee := Callee.builtin Builtin.len, args := #[Operand.tmp 5], argTypes := #[9] }, type := 3, pos := _, after := #[{ on := 0, ground := Ground.data }], guard := none }) (v := ?_) rfl (by kernel_rfl) (by kernel_rfl) (by kernel_rfl) (fun _ _ _ h => h) (Or.inl ⟨by rfl, ?_⟩) (by assumption) ?_
        rotate_left
        · intro w hSw; (try dsimp only at hSw); go_simp; (try with_reducible rfl)
        try simp only [Act.put, List.setIfInBounds_toArray, List.set_cons_zero, List.set_cons_succ]
        refine wpAnyH_take (i := 2) (oi := { dst := some 7, op := Op.binOp BinOp.gtr 3 (Operand.tmp 6) (Operand.const (Value.int IntKind.i64 2)) 3, type := 4, pos := _, after := #[{ on := 1, ground := Ground.data }], guard := none }) (v := ?_) rfl (by kernel_rfl) (by kernel_rfl) (by kernel_rfl) (fun _ _ _ h => h) (Or.inl ⟨by rfl, ?_⟩) (by assumption) ?_
        rotate_left
        · intro w hSw; (try dsimp only at hSw); go_simp; (try with_reducible rfl)
        try simp only [Act.put, List.setIfInBounds_toArray, List.set_cons_zero, List.set_cons_succ]
        refine wpAnyH_take (i := 3) (oi := { dst := some 8, op := Op.move (Operand.tmp 7), type := 4, pos := _, after := #[{ on := 2, ground := Ground.data }], guard := none }) (v := ?_) rfl (by kernel_rfl) (by kernel_rfl) (by kernel_rfl) (fun _ _ _ h => h) (Or.inl ⟨by rfl, ?_⟩) (by assumption) ?_
        rotate_left
        · intro w hSw; (try dsimp only at hSw); go_simp; (try with_reducible rfl)
        try simp only [Act.put, List.setIfInBounds_toArray, List.set_cons_zero, List.set_cons_succ]
        refine wpAnyH_take (i := 4) (oi := { dst := some 9, op := Op.move (Operand.tmp 1), type := 9, pos := _, after := #[{ on := 3, ground := Ground.guard }], guard := some (3, true) }) (v := ?_) rfl (by kernel_rfl) (by kernel_rfl) (by kernel_rfl) (fun _ _ _ h => h) (Or.inl ⟨by rfl, ?_⟩) (by assumption) ?_
        rotate_left
        · intro w hSw; (try dsimp only at hSw); go_simp; (try with_reducible rfl)
        try simp only [Act.put, List.setIfInBounds_toArray, List.set_cons_zero, List.set_cons_succ]
        refine wpAnyH_take (i := 5) (oi := { dst := some 10, op := Op.move (Operand.tmp 1), type := 9, pos := _, after := #[{ on := 3, ground := Ground.guard }], guard := some (3, true) }) (v := ?_) rfl (by kernel_rfl) (by kernel_rfl) (by kernel_rfl) (fun _ _ _ h => h) (Or.inl ⟨by rfl, ?_⟩) (by assumption) ?_
        rotate_left
        · intro w hSw; (try dsimp only at hSw); go_simp; (try with_reducible rfl)
        try simp only [Act.put, List.setIfInBounds_toArray, List.set_cons_zero, List.set_cons_succ]
        refine wpAnyH_take (i := 6) (oi := { dst := some 11, op := Op.call { callee := Callee.builtin Builtin.len, args := #[Operand.tmp 10], argTypes := #[9] }, type := 3, pos := _, after := #[{ on := 5, ground := Ground.data }, { on := 3, ground := Ground.guard }], guard := some (3, true) }) (v := ?_) rfl (by kernel_rfl) (by kernel_rfl) (by kernel_rfl) (fun _ _ _ h => h) (Or.inl ⟨by rfl, ?_⟩) (by assumption) ?_
        rotate_left
        · intro w hSw; (try dsimp only at hSw); go_simp; (try with_reducible rfl)
        try simp only [Act.put, List.setIfInBounds_toArray, List.set_cons_zero, List.set_cons_succ]
        refine wpAnyH_take (i := 7) (oi := { dst := some 12, op := Op.binOp BinOp.sub 3 (Operand.tmp 11) (Operand.const (Value.int IntKind.i64 2)) 3, type := 3, pos := _, after := #[{ on := 6, ground := Ground.data }, { on := 3, ground := Ground.guard }], guard := some (3, true) }) (v := ?_) rfl (by kernel_rfl) (by kernel_rfl) (by kernel_rfl) (fun _ _ _ h => h) (Or.inl ⟨by rfl, ?_⟩) (by assumption) ?_
        rotate_left
        · intro w hSw; (try dsimp only at hSw); go_simp; (try with_reducible rfl)
        try simp only [Act.put, List.setIfInBounds_toArray, List.set_cons_zero, List.set_cons_succ]
        refine wpAnyH_take (i := 8) (oi := { dst := some 13, op := Op.slice 9 (Operand.tmp 9) (some (Operand.tmp 12)) none none, type := 9, pos := _, after := #[{ on := 4, ground := Ground.data }, { on := 7, ground := Ground.data }, { on := 3, ground := Ground.guard }], guard := some (3, true) }) (v := ?_) rfl (by kernel_rfl) (by kernel_rfl) (by kernel_rfl) (fun _ _ _ h => h) (Or.inl ⟨by rfl, ?_⟩) (by assumption) ?_
        rotate_left
        · intro w hSw; (try dsimp only at hSw); go_simp; (try with_reducible rfl)
        try simp only [Act.put, List.setIfInBounds_toArray, List.set_cons_zero, List.set_cons_succ]
        refine wpAnyH_take (i := 9) (oi := { dst := some 14, op := Op.binOp BinOp.eql 9 (Operand.tmp 13) (Operand.const (Value.string { data := #[91, 93] })) 9, type := 4, pos := _, after := #[{ on := 8, ground := Ground.data }, { on := 3, ground := Ground.guard }], guard := some (3, true) }) (v := ?_) rfl (by kernel_rfl) (by kernel_rfl) (by kernel_rfl) (fun _ _ _ h => h) (Or.inl ⟨by rfl, ?_⟩) (by assumption) ?_
        rotate_left
        · intro w hSw; (try dsimp only at hSw); go_simp; (try with_reducible rfl)
        try simp only [Act.put, List.setIfInBounds_toArray, List.set_cons_zero, List.set_cons_succ]
        refine wpAnyH_take (i := 10) (oi := { dst := some 15, op := Op.pick (Operand.tmp 8) (Operand.tmp 14) (Operand.const (Value.bool false)), type := 4, pos := _, after := #[{ on := 3, ground := Ground.data }, { on := 9, ground := Ground.data }], guard := none }) (v := ?_) rfl (by kernel_rfl) (by kernel_rfl) (by kernel_rfl) (fun _ _ _ h => h) (Or.inl ⟨by rfl, ?_⟩) (by assumption) ?_
        rotate_left
        · intro w hSw; (try dsimp only at hSw); go_simp; (try with_reducible rfl)
        try simp only [Act.put, List.setIfInBounds_toArray, List.set_cons_zero, List.set_cons_succ]
        refine wpAnyH_take (i := 11) (oi := { dst := some 16, op := Op.move (Operand.tmp 15), type := 4, pos := _, after := #[{ on := 10, ground := Ground.data }, { on := 3, ground := Ground.chain }], guard := none }) (v := ?_) rfl (by kernel_rfl) (by kernel_rfl) (by kernel_rfl) (fun _ _ _ h => h) (Or.inl ⟨by rfl, ?_⟩) (by assumption) ?_
        rotate_left
        · intro w hSw; (try dsimp only at hSw); go_simp; (try with_reducible rfl)
        try simp only [Act.put, List.setIfInBounds_toArray, List.set_cons_zero, List.set_cons_succ]
        refine wpAnyH_take (i := 12) (oi := { dst := some 17, op := Op.load 30 (Operand.tmp 2), type := 30, pos := _, after := #[{ on := 11, ground := Ground.guard }], guard := some (11, true) }) (v := ?_) rfl (by kernel_rfl) (by kernel_rfl) (by kernel_rfl) (fun _ _ _ h => h) (Or.inl ⟨by rfl, ?_⟩) (by assumption) ?_
        rotate_left
        · intro w hSw; (try dsimp only at hSw); go_simp; (try with_reducible rfl)
        try simp only [Act.put, List.setIfInBounds_toArray, List.set_cons_zero, List.set_cons_succ]
        refine wpAnyH_take (i := 13) (oi := { dst := some 18, op := Op.move (Operand.tmp 1), type := 9, pos := _, after := #[{ on := 11, ground := Ground.guard }], guard := some (11, true) }) (v := ?_) rfl (by kernel_rfl) (by kernel_rfl) (by kernel_rfl) (fun _ _ _ h => h) (Or.inl ⟨by rfl, ?_⟩) (by assumption) ?_
        rotate_left
        · intro w hSw; (try dsimp only at hSw); go_simp; (try with_reducible rfl)
        try simp only [Act.put, List.setIfInBounds_toArray, List.set_cons_zero, List.set_cons_succ]
        refine wpAnyH_take (i := 14) (oi := { dst := some 19, op := Op.move (Operand.tmp 1), type := 9, pos := _, after := #[{ on := 11, ground := Ground.guard }], guard := some (11, true) }) (v := ?_) rfl (by kernel_rfl) (by kernel_rfl) (by kernel_rfl) (fun _ _ _ h => h) (Or.inl ⟨by rfl, ?_⟩) (by assumption) ?_
        rotate_left
        · intro w hSw; (try dsimp only at hSw); go_simp; (try with_reducible rfl)
        try simp only [Act.put, List.setIfInBounds_toArray, List.set_cons_zero, List.set_cons_succ]
        refine wpAnyH_take (i := 15) (oi := { dst := some 20, op := Op.call { callee := Callee.builtin Builtin.len, args := #[Operand.tmp 19], argTypes := #[9] }, type := 3, pos := _, after := #[{ on := 14, ground := Ground.data }, { on := 11, ground := Ground.guard }], guard := some (11, true) }) (v := ?_) rfl (by kernel_rfl) (by kernel_rfl) (by kernel_rfl) (fun _ _ _ h => h) (Or.inl ⟨by rfl, ?_⟩) (by assumption) ?_
        rotate_left
        · intro w hSw; (try dsimp only at hSw); go_simp; (try with_reducible rfl)
        try simp only [Act.put, List.setIfInBounds_toArray, List.set_cons_zero, List.set_cons_succ]
        refine wpAnyH_take (i := 16) (oi := { dst := some 21, op := Op.binOp BinOp.sub 3 (Operand.tmp 20) (Operand.const (Value.int IntKind.i64 2)) 3, type := 3, pos := _, after := #[{ on := 15, ground := Ground.data }, { on := 11, ground := Ground.guard }], guard := some (11, true) }) (v := ?_) rfl (by kernel_rfl) (by kernel_rfl) (by kernel_rfl) (fun _ _ _ h => h) (Or.inl ⟨by rfl, ?_⟩) (by assumption) ?_
        rotate_left
        · intro w hSw; (try dsimp only at hSw); go_simp; (try with_reducible rfl)
        try simp only [Act.put, List.setIfInBounds_toArray, List.set_cons_zero, List.set_cons_succ]
        refine wpAnyH_take (i := 17) (oi := { dst := some 22, op := Op.slice 9 (Operand.tmp 18) none (some (Operand.tmp 21)) none, type := 9, pos := _, after := #[{ on := 13, ground := Ground.data }, { on := 16, ground := Ground.data }, { on := 11, ground := Ground.guard }], guard := some (11, true) }) (v := ?_) rfl (by kernel_rfl) (by kernel_rfl) (by kernel_rfl) (fun _ _ _ h => h) (Or.inl ⟨by rfl, ?_⟩) (by assumption) ?_
        rotate_left
        · intro w hSw; (try dsimp only at hSw); go_simp; (try with_reducible rfl)
        try simp only [Act.put, List.setIfInBounds_toArray, List.set_cons_zero, List.set_cons_succ]
        refine wpAnyH_ready (rs := [18]) (by kernel_rfl) (by simp) ?_
        refine AllReadyH.cons (o := { dst := some 23, op := Op.call { callee := Callee.value (Operand.func 9), args := #[Operand.tmp 17, Operand.tmp 22], argTypes := #[30, 9] }, type := 3, pos := _, after := #[{ on := 12, ground := Ground.data }, { on := 17, ground := Ground.data }, { on := 11, ground := Ground.chain }, { on := 11, ground := Ground.guard }], guard := some (11, true) }) rfl (fun K hK => ?_) AllReadyH.nil
        go_simp
        go_at_call 9
        (with_reducible refine (HFd.out W0.drew ((Turn.refl [] W0).drew) s).mono ?_)
        rintro e w11 ⟨rfl, t11⟩
        have HT11 := Lib.hid (((Turn.refl [] W0).drew).trans' t11)
        clear t11
        try go_wp2_with fail
        refine hK.out _ _ ?_ (fun hHeld => ?_)
        · exact HSS.out _ (HT11.out)
        clear hK K
        try simp only [Act.put, List.setIfInBounds_toArray, List.set_cons_zero, List.set_cons_succ]
        refine wpAnyH_take (i := 19) (oi := { dst := some 24, op := Op.binOp BinOp.geq 3 (Operand.tmp 23) (Operand.const (Value.int IntKind.i64 0)) 3, type := 4, pos := _, after := #[{ on := 18, ground := Ground.data }, { on := 11, ground := Ground.guard }], guard := some (11, true) }) (v := ?_) rfl (by kernel_rfl) (by kernel_rfl) (by kernel_rfl) (fun _ _ _ h => h) (Or.inl ⟨by rfl, ?_⟩) (by assumption) ?_
        rotate_left
        · intro w hSw; (try dsimp only at hSw); go_simp; (try with_reducible rfl)
        try simp only [Act.put, List.setIfInBounds_toArray, List.set_cons_zero, List.set_cons_succ]
        refine wpAnyH_take (i := 20) (oi := { dst := some 25, op := Op.pick (Operand.tmp 16) (Operand.tmp 24) (Operand.const (Value.bool false)), type := 4, pos := _, after := #[{ on := 11, ground := Ground.data }, { on := 19, ground := Ground.data }], guard := none }) (v := ?_) rfl (by kernel_rfl) (by kernel_rfl) (by kernel_rfl) (fun _ _ _ h => h) (Or.inl ⟨by rfl, ?_⟩) (by assumption) ?_
        rotate_left
        · intro w hSw; (try dsimp only at hSw); go_simp; (try with_reducible rfl)
        try simp only [Act.put, List.setIfInBounds_toArray, List.set_cons_zero, List.set_cons_succ]
        refine wpAnyH_done (by kernel_rfl) ?_ _
        go_wp2_with fail
        go_ret
        exact ⟨by rw [HE.out]; rfl, HT0.out.trans' (HT11.out)⟩
    · have g4 : ((t.extract (z - 2) z).toList == [91, 93]) = false := by rw [hbl]; simp [e]
      have HE : Hid (elT l t = ⟨#[]⟩) := Lib.hid (elT_none l t (by unfold elI; rw [br_no (t := t) (by rw [hz]; exact e)]; rfl))
      clear e hbl hc
      go_enter Tryz.func10, Tryz.ntmps10
      go_upto_region 1 with fail
      rw [HRR.out, HW0.out]
      go_quiet (fail)
      go_wp2_with fail
      go_ret
      exact ⟨by rw [HE.out]; rfl, HT0.out.trans' ((Turn.refl [] W0).drewN _)⟩
  · have g1 : decide ((z : Int) > 2) = false := by simp; omega
    have g2 : decide ((2 : Int) < (z : Int)) = false := by simp; omega
    have g3 : decide (2 < z) = false := by simp; omega
    have HE : Hid (elT l t = ⟨#[]⟩) := Lib.hid (elT_none l t (by
      unfold elI
      cases h : cutB t with
      | none => rfl
      | some s =>
        have h3 := hc s h
        have h4 := (cutB_size h).1
        have h5 : s = ⟨#[]⟩ := by
          rw [h3]
          apply ByteArray.ext
          rw [show z - 2 = 0 by omega]
          simp
        show fstF l l.length s = none
        cases h6 : fstF l l.length s with
        | none => rfl
        | some i => exact absurd h5 (pl_fst p h6).2.2.2.1))
    clear hc
    go_enter Tryz.func10, Tryz.ntmps10
    go_upto_region 1 with fail
    rw [HRR.out, HW0.out]
    go_quiet (fail)
    go_wp2_with fail
    go_ret
    exact ⟨by rw [HE.out]; rfl, HT0.out.trans' ((Turn.refl [] W0).drewN _)⟩
set_option maxHeartbeats 6400000 in
theorem rIs_any (A : Option Addr) (c B : Nat) (l : List K8) (m0 m1 m2 m3 m4 m5 m6 m7 m8 : Value) (p : PlainL l) (t : ByteArray) (w : World) (hr : RdKs B w A l) (hl : l.length ≤ 1000) (ht : t.size ≤ 562949953421312) :
    Calls Tryz.prog 12 #[.agg #[.slice A l.length c, m0, m1, m2, m3, m4, m5, m6, m7, m8], .string t] w fun e w' => e = .returned (.bool (tyB l t)) ∧ Turn [] w w' := by
  obtain ⟨n, hn⟩ : ∃ n, l.length = n := ⟨_, rfl⟩
  obtain ⟨r, hrr⟩ : ∃ r, w.heap.size = r := ⟨_, rfl⟩
  obtain ⟨W0, hW0⟩ : ∃ W, w.alloc (.cells #[.slice A n c, m0, m1, m2, m3, m4, m5, m6, m7, m8] 30) = W := ⟨_, rfl⟩
  have t0 : Turn [] w W0 := by rw [← hW0]; exact (Turn.refl [] w).alloc _
  have b0 : W0.heap[r]? = some (.cells #[.slice A n c, m0, m1, m2, m3, m4, m5, m6, m7, m8] 30 (0, 0)) := by rw [← hW0, ← hrr]; exact heap_alloc_new w _
  have HP : Hid (∀ W, Turn [] W0 W → ∀ (i : Nat) (v : Value), (#[Value.slice A n c, m0, m1, m2, m3, m4, m5, m6, m7, m8] : Array Value)[i]? = some v → W.cell? ⟨r, i, none⟩ = some v) := Lib.hid fun W k i v hv => (cell_of_row W r i _ _ _ (k.heap b0 (by simp))).trans hv
  have HFd : Hid (∀ W, Turn [] W0 W → ∀ s, Calls Tryz.prog 9 #[.agg #[.slice A n c, m0, m1, m2, m3, m4, m5, m6, m7, m8], .string s] W fun e w' => e = .returned (.int .i64 (fndI l s)) ∧ Turn [] W w') := Lib.hid fun W k s => by
    rw [← hn]
    exact rfind_any A c B l m0 m1 m2 m3 m4 m5 m6 m7 m8 s W ((hr.turn t0 (by simp)).turn k (by simp)) hl
  have HEl : Hid (∀ W, Turn [] W0 W → Calls Tryz.prog 10 #[.agg #[.slice A n c, m0, m1, m2, m3, m4, m5, m6, m7, m8], .string t] W fun e w' => e = .returned (.string (elT l t)) ∧ Turn [] W w') := Lib.hid fun W k => by
    rw [← hn]
    exact rElem_any A c B l m0 m1 m2 m3 m4 m5 m6 m7 m8 p t W ((hr.turn t0 (by simp)).turn k (by simp)) hl ht
  have HT0 := Lib.hid t0
  have HW0 := Lib.hid hW0
  have HRR := Lib.hid hrr
  have HN := Lib.hid hn
  rw [hn]
  obtain ⟨i, hi⟩ : ∃ i, decide (t = tInt) = i := ⟨_, rfl⟩
  obtain ⟨u, hu⟩ : ∃ u, decide (t = tNull) = u := ⟨_, rfl⟩
  obtain ⟨f, hf⟩ : ∃ f, (fstF l l.length t).isSome = f := ⟨_, rfl⟩
  obtain ⟨g, hg⟩ : ∃ g, (elI l t).isSome = g := ⟨_, rfl⟩
  have HE : Hid (tyB l t = (i || u || f || g)) := Lib.hid (by rw [ty_all p t, hi, hu, hf, hg])
  have e1 : (t.toList == [105, 110, 116]) = i := by rw [lit_list]; exact hi
  have e2 : (t.toList == [110, 117, 108, 108]) = u := by rw [lit_list]; exact hu
  have hel : (elT l t).toList.isEmpty = !g := by rw [emp_list, elT_iff p, hg]
  obtain ⟨x, hx⟩ : ∃ x, fndI l t = x := ⟨_, rfl⟩
  have g5 : decide (x ≥ 0) = f := by rw [← hx, ← hf]; exact fnd_fst
  have g6 : decide (0 ≤ x) = f := g5
  have HF0 : Hid (∀ W, Turn [] W0 W → Calls Tryz.prog 9 #[.agg #[.slice A n c, m0, m1, m2, m3, m4, m5, m6, m7, m8], .string t] W fun e w' => e = .returned (.int .i64 x) ∧ Turn [] W w') := Lib.hid fun W k => by rw [← hx]; exact HFd.out W k t
  obtain ⟨et, het⟩ : ∃ et, elT l t = et := ⟨_, rfl⟩
  rw [het] at HEl hel
  clear hr hrr hW0 t0 b0 hn hi hu hf hg hx het
  have q0 := HP.out W0 (Turn.refl _ _) 0 _ rfl
  have q1 := HP.out W0 (Turn.refl _ _) 1 _ rfl
  have q2 := HP.out W0 (Turn.refl _ _) 2 _ rfl
  have q3 := HP.out W0 (Turn.refl _ _) 3 _ rfl
  have q4 := HP.out W0 (Turn.refl _ _) 4 _ rfl
  have q5 := HP.out W0 (Turn.refl _ _) 5 _ rfl
  have q6 := HP.out W0 (Turn.refl _ _) 6 _ rfl
  have q7 := HP.out W0 (Turn.refl _ _) 7 _ rfl
  have q8 := HP.out W0 (Turn.refl _ _) 8 _ rfl
  have q9 := HP.out W0 (Turn.refl _ _) 9 _ rfl
  have HF1 := Lib.hid (HF0.out W0 (Turn.refl _ _))
  go_enter Tryz.func12, Tryz.ntmps12
  go_upto_region 1 with fail
  rw [HRR.out, HW0.out]
  cases i with
  | true =>
    go_wp2_with fail
    go_ret
    exact ⟨by rw [HE.out]; rfl, HT0.out⟩
  | false => cases u with
    | true =>
      go_wp2_with fail
      go_ret
      exact ⟨by rw [HE.out]; rfl, HT0.out⟩
    | false =>
      go_wp2_with fail
      refine HF1.out.mono ?_
      rintro e w1 ⟨rfl, t1⟩
      have HT1 := Lib.hid t1
      have HE1 := Lib.hid (HEl.out w1 t1)
      clear t1 HF1 q0 q1 q2 q3 q4 q5 q6 q7 q8 q9
      have q0 := HP.out w1 (HT1.out) 0 _ rfl
      have q1 := HP.out w1 (HT1.out) 1 _ rfl
      have q2 := HP.out w1 (HT1.out) 2 _ rfl
      have q3 := HP.out w1 (HT1.out) 3 _ rfl
      have q4 := HP.out w1 (HT1.out) 4 _ rfl
      have q5 := HP.out w1 (HT1.out) 5 _ rfl
      have q6 := HP.out w1 (HT1.out) 6 _ rfl
      have q7 := HP.out w1 (HT1.out) 7 _ rfl
      have q8 := HP.out w1 (HT1.out) 8 _ rfl
      have q9 := HP.out w1 (HT1.out) 9 _ rfl
      cases f with
      | true =>
        go_wp2_with fail
        go_ret
        exact ⟨by rw [HE.out]; rfl, HT0.out.trans' HT1.out⟩
      | false =>
        go_wp2_with fail
        refine HE1.out.mono ?_
        rintro e w2 ⟨rfl, t2⟩
        have HT2 := Lib.hid (HT1.out.trans' t2)
        clear t2
        cases g with
        | true =>
          have hel' : et.toList.isEmpty = false := hel
          go_wp2_with fail
          go_ret
          exact ⟨by rw [HE.out]; rfl, HT0.out.trans' HT2.out⟩
        | false =>
          have hel' : et.toList.isEmpty = true := hel
          go_wp2_with fail
          go_ret
          exact ⟨by rw [HE.out]; rfl, HT0.out.trans' HT2.out⟩
set_option maxHeartbeats 6400000 in
theorem rRef_any (A : Option Addr) (c B : Nat) (l : List K8) (m0 m1 m2 m3 m4 m5 m6 m7 m8 : Value) (p : PlainL l) (t : ByteArray) (w : World) (hr : RdKs B w A l) (hl : l.length ≤ 1000) (ht : t.size ≤ 562949953421312) :
    Calls Tryz.prog 14 #[.agg #[.slice A l.length c, m0, m1, m2, m3, m4, m5, m6, m7, m8], .string t] w fun e w' => e = .returned (.bool (refB l t)) ∧ Turn [] w w' := by
  obtain ⟨n, hn⟩ : ∃ n, l.length = n := ⟨_, rfl⟩
  obtain ⟨r, hrr⟩ : ∃ r, w.heap.size = r := ⟨_, rfl⟩
  obtain ⟨W0, hW0⟩ : ∃ W, w.alloc (.cells #[.slice A n c, m0, m1, m2, m3, m4, m5, m6, m7, m8] 30) = W := ⟨_, rfl⟩
  have t0 : Turn [] w W0 := by rw [← hW0]; exact (Turn.refl [] w).alloc _
  have b0 : W0.heap[r]? = some (.cells #[.slice A n c, m0, m1, m2, m3, m4, m5, m6, m7, m8] 30 (0, 0)) := by rw [← hW0, ← hrr]; exact heap_alloc_new w _
  have HP : Hid (∀ W, Turn [] W0 W → ∀ (i : Nat) (v : Value), (#[Value.slice A n c, m0, m1, m2, m3, m4, m5, m6, m7, m8] : Array Value)[i]? = some v → W.cell? ⟨r, i, none⟩ = some v) := Lib.hid fun W k i v hv => (cell_of_row W r i _ _ _ (k.heap b0 (by simp))).trans hv
  have HFd : Hid (∀ W, Turn [] W0 W → ∀ s, Calls Tryz.prog 9 #[.agg #[.slice A n c, m0, m1, m2, m3, m4, m5, m6, m7, m8], .string s] W fun e w' => e = .returned (.int .i64 (fndI l s)) ∧ Turn [] W w') := Lib.hid fun W k s => by
    rw [← hn]
    exact rfind_any A c B l m0 m1 m2 m3 m4 m5 m6 m7 m8 s W ((hr.turn t0 (by simp)).turn k (by simp)) hl
  have HIs : Hid (∀ W, Turn [] W0 W → Calls Tryz.prog 12 #[.agg #[.slice A n c, m0, m1, m2, m3, m4, m5, m6, m7, m8], .string t] W fun e w' => e = .returned (.bool (tyB l t)) ∧ Turn [] W w') := Lib.hid fun W k => by
    rw [← hn]
    exact rIs_any A c B l m0 m1 m2 m3 m4 m5 m6 m7 m8 p t W ((hr.turn t0 (by simp)).turn k (by simp)) hl ht
  have HT0 := Lib.hid t0
  have HW0 := Lib.hid hW0
  have HRR := Lib.hid hrr
  have HN := Lib.hid hn
  rw [hn]
  obtain ⟨i, hi⟩ : ∃ i, decide (t = tInt) = i := ⟨_, rfl⟩
  obtain ⟨u, hu⟩ : ∃ u, tyB l t = u := ⟨_, rfl⟩
  have HE : Hid (refB l t = (!i && u)) := Lib.hid (by rw [ref_all p t, hi, hu])
  have e1 : (t.toList == [105, 110, 116]) = i := by rw [lit_list]; exact hi
  rw [hu] at HIs
  clear hr hrr hW0 t0 b0 hn hi hu
  have q0 := HP.out W0 (Turn.refl _ _) 0 _ rfl
  have q1 := HP.out W0 (Turn.refl _ _) 1 _ rfl
  have q2 := HP.out W0 (Turn.refl _ _) 2 _ rfl
  have q3 := HP.out W0 (Turn.refl _ _) 3 _ rfl
  have q4 := HP.out W0 (Turn.refl _ _) 4 _ rfl
  have q5 := HP.out W0 (Turn.refl _ _) 5 _ rfl
  have q6 := HP.out W0 (Turn.refl _ _) 6 _ rfl
  have q7 := HP.out W0 (Turn.refl _ _) 7 _ rfl
  have q8 := HP.out W0 (Turn.refl _ _) 8 _ rfl
  have q9 := HP.out W0 (Turn.refl _ _) 9 _ rfl
  have HI1 := Lib.hid (HIs.out W0 (Turn.refl _ _))
  go_enter Tryz.func14, Tryz.ntmps14
  go_upto_region 1 with fail
  rw [HRR.out, HW0.out]
  cases i with
  | true =>
    go_wp2_with fail
    go_ret
    exact ⟨by rw [HE.out]; rfl, HT0.out⟩
  | false =>
    go_wp2_with fail
    refine HI1.out.mono ?_
    rintro e w1 ⟨rfl, t1⟩
    have HT1 := Lib.hid t1
    clear t1
    go_wp2_with fail
    go_ret
    exact ⟨by rw [HE.out]; rfl, HT0.out.trans' HT1.out⟩
end Go.Proofs.YtbocejiclellfaaGreatDoor

/- The reference's Below: it answers what the program's does. -/
set_option linter.unusedSimpArgs false
set_option linter.unusedVariables false
set_option maxRecDepth 100000
namespace Go.Proofs.YtbocejiclellfaaGreatDoor
open Go.RowKit

theorem bel_no1 {l : List K8} (p : PlainL l) {t u : ByteArray} (h : tyB l t = false) : belB l t u = false := by
  unfold belB
  by_cases e : t = u
  · rw [if_pos e, h]
  · rw [if_neg e]
    have ha := ty_all p t
    rw [h] at ha
    have hn : ¬ t = tNull := fun e => by rw [decide_eq_true e] at ha; simp at ha
    rw [if_neg hn, cl_fst p]
    have hf : fstF l l.length t = none := by
      cases hf : fstF l l.length t with
      | none => rfl
      | some i => rw [hf] at ha; simp at ha
    rw [hf]
    rfl
theorem bel_no2 {l : List K8} (p : PlainL l) {t u : ByteArray} (h : tyB l u = false) (ht : tyB l t = true) : belB l t u = false := by
  unfold belB
  by_cases e : t = u
  · rw [e, h] at ht; cases ht
  · rw [if_neg e]
    by_cases hn : t = tNull
    · rw [if_pos hn, ref_all p, h]; simp
    · rw [if_neg hn, cl_fst p u]
      have ha := ty_all p u
      rw [h] at ha
      have hf : fstF l l.length u = none := by
        cases hf : fstF l l.length u with
        | none => rfl
        | some i => rw [hf] at ha; simp at ha
      rw [hf]
      cases clI l t <;> rfl
theorem bel_cc {l : List K8} (g : Rgt l) (p : PlainL l) {t u : ByteArray} (e : ¬ t = u) (hn : ¬ t = tNull) {i k : Nat} (hi : fstF l l.length t = some i) (hk : fstF l l.length u = some k) : belB l t u = true ↔ Ab1 (esL l) i k := by
  unfold belB
  rw [if_neg e, if_neg hn, cl_fst p, cl_fst p, hi, hk]
  show hasB (abvL (esL l) [(i : Int)]) (k : Int) = true ↔ _
  rw [abv_up (by have := g.ok.n; omega), up_ab1]
  have hne : ¬ k = i := fun h => e (by rw [← (pl_fst p hi).2.2.2.2.1, ← (pl_fst p hk).2.2.2.2.1, h])
  constructor
  · rintro ⟨_, h | h⟩
    · exact absurd h hne
    · exact h
  · intro h
    exact ⟨by rw [esL_len]; exact (pl_fst p hi).2.2.2.2.2, .inr h⟩
theorem bel_cn {l : List K8} (p : PlainL l) {t u : ByteArray} (e : ¬ t = u) (hn : ¬ t = tNull) (h : ((fstF l l.length t).isSome && (fstF l l.length u).isSome) = false) : belB l t u = false := by
  unfold belB
  rw [if_neg e, if_neg hn, cl_fst p, cl_fst p]
  cases h1 : fstF l l.length t with
  | none => rfl
  | some i => cases h2 : fstF l l.length u with
    | none => rfl
    | some k =>
      rw [h1, h2] at h
      cases h
set_option maxHeartbeats 12800000 in
theorem rBelow_any (A : Option Addr) (c B : Nat) (l : List K8) (m0 m1 m2 m3 m4 m5 m6 m7 m8 : Value) (g : Rgt l) (p : PlainL l) (t u : ByteArray) (w : World) (hr : RdKs B w A l) (ht : t.size ≤ 562949953421312) (hu : u.size ≤ 562949953421312) :
    Calls Tryz.prog 16 #[.agg #[.slice A l.length c, m0, m1, m2, m3, m4, m5, m6, m7, m8], .string t, .string u] w fun e w' => e = .returned (.bool (belB l t u)) ∧ Turn [] w w' := by
  have hl := g.kok.len
  obtain ⟨n, hn⟩ : ∃ n, l.length = n := ⟨_, rfl⟩
  obtain ⟨r, hrr⟩ : ∃ r, w.heap.size = r := ⟨_, rfl⟩
  obtain ⟨W0, hW0⟩ : ∃ W, w.alloc (.cells #[.slice A n c, m0, m1, m2, m3, m4, m5, m6, m7, m8] 30) = W := ⟨_, rfl⟩
  have t0 : Turn [] w W0 := by rw [← hW0]; exact (Turn.refl [] w).alloc _
  have b0 : W0.heap[r]? = some (.cells #[.slice A n c, m0, m1, m2, m3, m4, m5, m6, m7, m8] 30 (0, 0)) := by rw [← hW0, ← hrr]; exact heap_alloc_new w _
  have HP : Hid (∀ W, Turn [] W0 W → ∀ (i : Nat) (v : Value), (#[Value.slice A n c, m0, m1, m2, m3, m4, m5, m6, m7, m8] : Array Value)[i]? = some v → W.cell? ⟨r, i, none⟩ = some v) := Lib.hid fun W k i v hv => (cell_of_row W r i _ _ _ (k.heap b0 (by simp))).trans hv
  have HFd : Hid (∀ W, Turn [] W0 W → ∀ s, Calls Tryz.prog 9 #[.agg #[.slice A n c, m0, m1, m2, m3, m4, m5, m6, m7, m8], .string s] W fun e w' => e = .returned (.int .i64 (fndI l s)) ∧ Turn [] W w') := Lib.hid fun W k s => by
    rw [← hn]
    exact rfind_any A c B l m0 m1 m2 m3 m4 m5 m6 m7 m8 s W ((hr.turn t0 (by simp)).turn k (by simp)) hl
  have HIt : Hid (∀ W, Turn [] W0 W → Calls Tryz.prog 12 #[.agg #[.slice A n c, m0, m1, m2, m3, m4, m5, m6, m7, m8], .string t] W fun e w' => e = .returned (.bool (tyB l t)) ∧ Turn [] W w') := Lib.hid fun W k => by
    rw [← hn]
    exact rIs_any A c B l m0 m1 m2 m3 m4 m5 m6 m7 m8 p t W ((hr.turn t0 (by simp)).turn k (by simp)) hl ht
  have HIu : Hid (∀ W, Turn [] W0 W → Calls Tryz.prog 12 #[.agg #[.slice A n c, m0, m1, m2, m3, m4, m5, m6, m7, m8], .string u] W fun e w' => e = .returned (.bool (tyB l u)) ∧ Turn [] W w') := Lib.hid fun W k => by
    rw [← hn]
    exact rIs_any A c B l m0 m1 m2 m3 m4 m5 m6 m7 m8 p u W ((hr.turn t0 (by simp)).turn k (by simp)) hl hu
  have HMk : Hid (∀ W (j : Nat), Turn [] W0 W → j < n → Calls Tryz.prog 29 #[.agg #[.slice A n c, m0, m1, m2, m3, m4, m5, m6, m7, m8], .int .i64 (j : Int)] W fun e w' => ∃ g ms, e = .returned (.slice (some ⟨g, 0, none⟩) n n) ∧ OwnB w' 0 (.slice (some ⟨g, 0, none⟩) n n) ms ∧ ms.length = n ∧ (∀ k : Nat, ms[k]? = some true ↔ Ab1 (esL l) j k) ∧ Turn [] W w') := Lib.hid fun W j k hj => by
    have := rmarks_any A c B l m0 m1 m2 m3 m4 m5 m6 m7 m8 j W ((hr.turn t0 (by simp)).turn k (by simp)) hl g.fcs g.rt (by omega)
    rw [hn] at this
    exact this
  have HT0 := Lib.hid t0
  have HW0 := Lib.hid hW0
  have HRR := Lib.hid hrr
  have HN := Lib.hid hn
  rw [hn]
  have hn1 : n ≤ 1000 := by omega
  have HG := Lib.hid g
  have HPl := Lib.hid p
  obtain ⟨a, ha⟩ : ∃ a, tyB l t = a := ⟨_, rfl⟩
  obtain ⟨b, hb⟩ : ∃ b, tyB l u = b := ⟨_, rfl⟩
  rw [ha] at HIt
  rw [hb] at HIu
  have HAB := Lib.hid (And.intro ha hb)
  have q0 := HP.out W0 (Turn.refl _ _) 0 _ rfl
  have q1 := HP.out W0 (Turn.refl _ _) 1 _ rfl
  have q2 := HP.out W0 (Turn.refl _ _) 2 _ rfl
  have q3 := HP.out W0 (Turn.refl _ _) 3 _ rfl
  have q4 := HP.out W0 (Turn.refl _ _) 4 _ rfl
  have q5 := HP.out W0 (Turn.refl _ _) 5 _ rfl
  have q6 := HP.out W0 (Turn.refl _ _) 6 _ rfl
  have q7 := HP.out W0 (Turn.refl _ _) 7 _ rfl
  have q8 := HP.out W0 (Turn.refl _ _) 8 _ rfl
  have q9 := HP.out W0 (Turn.refl _ _) 9 _ rfl
  have HI1 := Lib.hid (HIt.out W0 (Turn.refl _ _))
  clear hr hrr hW0 t0 b0 hn ha hb g p hl
  go_enter Tryz.func16, Tryz.ntmps16
  go_upto_region 1 with fail
  rw [HRR.out, HW0.out]
  go_wp2_with fail
  refine HI1.out.mono ?_
  rintro e w1 ⟨rfl, t1⟩
  have HT1 := Lib.hid t1
  have HI2 := Lib.hid (HIu.out w1 t1)
  clear t1 HI1 q0 q1 q2 q3 q4 q5 q6 q7 q8 q9
  have q0 := HP.out w1 (HT1.out) 0 _ rfl
  have q1 := HP.out w1 (HT1.out) 1 _ rfl
  have q2 := HP.out w1 (HT1.out) 2 _ rfl
  have q3 := HP.out w1 (HT1.out) 3 _ rfl
  have q4 := HP.out w1 (HT1.out) 4 _ rfl
  have q5 := HP.out w1 (HT1.out) 5 _ rfl
  have q6 := HP.out w1 (HT1.out) 6 _ rfl
  have q7 := HP.out w1 (HT1.out) 7 _ rfl
  have q8 := HP.out w1 (HT1.out) 8 _ rfl
  have q9 := HP.out w1 (HT1.out) 9 _ rfl
  cases a with
  | false =>
    have HE := Lib.hid (bel_no1 HPl.out (u := u) HAB.out.1)
    go_wp2_with fail
    go_ret
    exact ⟨by rw [HE.out]; rfl, HT0.out.trans' HT1.out⟩
  | true =>
    go_wp2_with fail
    refine HI2.out.mono ?_
    rintro e w2 ⟨rfl, t2⟩
    have HT2 := Lib.hid (HT1.out.trans' t2)
    clear t2 HI2 q0 q1 q2 q3 q4 q5 q6 q7 q8 q9
    cases b with
    | false =>
      have HE := Lib.hid (bel_no2 HPl.out HAB.out.2 HAB.out.1)
      go_wp2_with fail
      go_ret
      exact ⟨by rw [HE.out]; rfl, HT0.out.trans' HT2.out⟩
    | true =>
      by_cases htu : t = u
      · subst htu
        have e1 := tx_same t
        have HE : Hid (belB l t t = true) := Lib.hid (by unfold belB; rw [if_pos rfl]; exact HAB.out.1)
        go_wp2_with fail
        go_ret
        exact ⟨by rw [HE.out]; rfl, HT0.out.trans' HT2.out⟩
      · have e1 := tx_other htu
        by_cases htn : t = tNull
        · have e2 : (t.toList == [110, 117, 108, 108]) = true := by rw [lit_list]; exact decide_eq_true htn
          obtain ⟨i, hi⟩ : ∃ i, decide (u = tInt) = i := ⟨_, rfl⟩
          have e3 : (u.toList == [105, 110, 116]) = i := by rw [lit_list]; exact hi
          have HE : Hid (belB l t u = !i) := Lib.hid (by
            unfold belB
            rw [if_neg htu, if_pos htn, ref_all HPl.out, hi, HAB.out.2]
            simp)
          clear htu htn hi
          go_wp2_with fail
          go_ret
          exact ⟨by rw [HE.out]; rfl, HT0.out.trans' HT2.out⟩
        · have e2 : (t.toList == [110, 117, 108, 108]) = false := by rw [lit_list]; exact decide_eq_false htn
          obtain ⟨x, hx⟩ : ∃ x, fndI l t = x := ⟨_, rfl⟩
          obtain ⟨y, hy⟩ : ∃ y, fndI l u = y := ⟨_, rfl⟩
          have HFt : Hid (∀ W, Turn [] W0 W → Calls Tryz.prog 9 #[.agg #[.slice A n c, m0, m1, m2, m3, m4, m5, m6, m7, m8], .string t] W fun e w' => e = .returned (.int .i64 x) ∧ Turn [] W w') := Lib.hid fun W k => by rw [← hx]; exact HFd.out W k t
          have HFu : Hid (∀ W, Turn [] W0 W → Calls Tryz.prog 9 #[.agg #[.slice A n c, m0, m1, m2, m3, m4, m5, m6, m7, m8], .string u] W fun e w' => e = .returned (.int .i64 y) ∧ Turn [] W w') := Lib.hid fun W k => by rw [← hy]; exact HFd.out W k u
          have HSS : Hid (∀ w', Turn [] w2 w' → (w'.cell? ⟨r, 0, none⟩ = some (.slice A n c) ∧ w'.cell? ⟨r, 1, none⟩ = some m0 ∧ w'.cell? ⟨r, 2, none⟩ = some m1 ∧ w'.cell? ⟨r, 3, none⟩ = some m2 ∧ w'.cell? ⟨r, 4, none⟩ = some m3 ∧ w'.cell? ⟨r, 5, none⟩ = some m4 ∧ w'.cell? ⟨r, 6, none⟩ = some m5 ∧ w'.cell? ⟨r, 7, none⟩ = some m6 ∧ w'.cell? ⟨r, 8, none⟩ = some m7 ∧ w'.cell? ⟨r, 9, none⟩ = some m8)) := Lib.hid fun W k => ⟨HP.out W (HT2.out.trans' k) 0 _ rfl, HP.out W (HT2.out.trans' k) 1 _ rfl, HP.out W (HT2.out.trans' k) 2 _ rfl, HP.out W (HT2.out.trans' k) 3 _ rfl, HP.out W (HT2.out.trans' k) 4 _ rfl, HP.out W (HT2.out.trans' k) 5 _ rfl, HP.out W (HT2.out.trans' k) 6 _ rfl, HP.out W (HT2.out.trans' k) 7 _ rfl, HP.out W (HT2.out.trans' k) 8 _ rfl, HP.out W (HT2.out.trans' k) 9 _ rfl⟩
          have HXY := Lib.hid (And.intro hx hy)
          have HNE := Lib.hid (And.intro htu htn)
          clear hx hy htu htn
          go_upto_region 7 with fail
          refine wp_region_held_drew (S := fun w' => w'.cell? ⟨r, 0, none⟩ = some (.slice A n c) ∧ w'.cell? ⟨r, 1, none⟩ = some m0 ∧ w'.cell? ⟨r, 2, none⟩ = some m1 ∧ w'.cell? ⟨r, 3, none⟩ = some m2 ∧ w'.cell? ⟨r, 4, none⟩ = some m3 ∧ w'.cell? ⟨r, 5, none⟩ = some m4 ∧ w'.cell? ⟨r, 6, none⟩ = some m5 ∧ w'.cell? ⟨r, 7, none⟩ = some m6 ∧ w'.cell? ⟨r, 8, none⟩ = some m7 ∧ w'.cell? ⟨r, 9, none⟩ = some m8) (by kernel_rfl) ?_ (fun hHeld => ?_)
          · exact HSS.out _ (Turn.refl [] w2).drew
          refine wpAnyH_take (i := 0) (oi := { dst := some 26, op := Op.load 30 (Operand.tmp 3), type := 30, pos := _, after := #[], guard := none }) (v := ?_) rfl (by kernel_rfl) (by kernel_rfl) (by kernel_rfl) (fun _ _ _ h => h) (Or.inl ⟨by rfl, ?_⟩) (by assumption) ?_
          rotate_left
          · intro w hSw; (try dsimp only at hSw); go_simp; (try with_reducible rfl)
          try simp only [Act.put, List.setIfInBounds_toArray, List.set_cons_zero, List.set_cons_succ]
          refine wpAnyH_take (i := 1) (oi := { dst := some 27, op := Op.move (Operand.tmp 1), type := 9, pos := _, after := #[], guard := none }) (v := ?_) rfl (by kernel_rfl) (by kernel_rfl) (by kernel_rfl) (fun _ _ _ h => h) (Or.inl ⟨by rfl, ?_⟩) (by assumption) ?_
          rotate_left
          · intro w hSw; (try dsimp only at hSw); go_simp; (try with_reducible rfl)
          try simp only [Act.put, List.setIfInBounds_toArray, List.set_cons_zero, List.set_cons_succ]
          refine wpAnyH_take (i := 3) (oi := { dst := some 29, op := Op.load 30 (Operand.tmp 3), type := 30, pos := _, after := #[], guard := none }) (v := ?_) rfl (by kernel_rfl) (by kernel_rfl) (by kernel_rfl) (fun _ _ _ h => h) (Or.inl ⟨by rfl, ?_⟩) (by assumption) ?_
          rotate_left
          · intro w hSw; (try dsimp only at hSw); go_simp; (try with_reducible rfl)
          try simp only [Act.put, List.setIfInBounds_toArray, List.set_cons_zero, List.set_cons_succ]
          refine wpAnyH_take (i := 4) (oi := { dst := some 30, op := Op.move (Operand.tmp 2), type := 9, pos := _, after := #[], guard := none }) (v := ?_) rfl (by kernel_rfl) (by kernel_rfl) (by kernel_rfl) (fun _ _ _ h => h) (Or.inl ⟨by rfl, ?_⟩) (by assumption) ?_
          rotate_left
          · intro w hSw; (try dsimp only at hSw); go_simp; (try with_reducible rfl)
          try simp only [Act.put, List.setIfInBounds_toArray, List.set_cons_zero, List.set_cons_succ]
          refine wpAnyH_ready (rs := [2]) (by kernel_rfl) (by simp) ?_
          refine AllReadyH.cons (o := { dst := some 28, op := Op.call { callee := Callee.value (Operand.func 9), args := #[Operand.tmp 26, Operand.tmp 27], argTypes := #[30, 9] }, type := 3, pos := _, after := #[{ on := 0, ground := Ground.data }, { on := 1, ground := Ground.data }], guard := none }) rfl (fun K hK => ?_) AllReadyH.nil
          go_simp
          go_at_call 9
          (with_reducible refine (HFt.out w2.drew (HT2.out.trans' ((Turn.refl [] w2).drew))).mono ?_)
          rintro e w11 ⟨rfl, t11⟩
          have HT11 := Lib.hid (((Turn.refl [] w2).drew).trans' t11)
          clear t11
          try go_wp2_with fail
          refine hK.out _ _ ?_ (fun hHeld => ?_)
          · exact HSS.out _ (HT11.out)
          clear hK K
          try simp only [Act.put, List.setIfInBounds_toArray, List.set_cons_zero, List.set_cons_succ]
          refine wpAnyH_ready (rs := [5]) (by kernel_rfl) (by simp) ?_
          refine AllReadyH.cons (o := { dst := some 31, op := Op.call { callee := Callee.value (Operand.func 9), args := #[Operand.tmp 29, Operand.tmp 30], argTypes := #[30, 9] }, type := 3, pos := _, after := #[{ on := 3, ground := Ground.data }, { on := 4, ground := Ground.data }, { on := 2, ground := Ground.chain }], guard := none }) rfl (fun K hK => ?_) AllReadyH.nil
          go_simp
          go_at_call 9
          (with_reducible refine (HFu.out w11 (HT2.out.trans' (HT11.out))).mono ?_)
          rintro e w12 ⟨rfl, t12⟩
          have HT12 := Lib.hid ((HT11.out).trans' t12)
          clear t12
          try go_wp2_with fail
          refine hK.out _ _ ?_ (fun hHeld => ?_)
          · exact HSS.out _ (HT12.out)
          clear hK K
          try simp only [Act.put, List.setIfInBounds_toArray, List.set_cons_zero, List.set_cons_succ]
          refine wpAnyH_take (i := 6) (oi := { dst := some 7, op := Op.assign (Operand.tmp 28), type := 3, pos := _, after := #[{ on := 2, ground := Ground.data }, { on := 5, ground := Ground.chain }, { on := 0, ground := Ground.phase }, { on := 1, ground := Ground.phase }, { on := 2, ground := Ground.phase }, { on := 3, ground := Ground.textOnly Departure.lateStores }, { on := 4, ground := Ground.textOnly Departure.lateStores }, { on := 5, ground := Ground.textOnly Departure.lateStoresUnsure }], guard := none }) (v := ?_) rfl (by kernel_rfl) (by kernel_rfl) (by kernel_rfl) (fun _ _ _ h => h) (Or.inl ⟨by rfl, ?_⟩) (by assumption) ?_
          rotate_left
          · intro w hSw; (try dsimp only at hSw); go_simp; (try with_reducible rfl)
          try simp only [Act.put, List.setIfInBounds_toArray, List.set_cons_zero, List.set_cons_succ]
          refine wpAnyH_take (i := 7) (oi := { dst := some 8, op := Op.assign (Operand.tmp 31), type := 3, pos := _, after := #[{ on := 5, ground := Ground.data }, { on := 6, ground := Ground.chain }, { on := 0, ground := Ground.phase }, { on := 1, ground := Ground.phase }, { on := 2, ground := Ground.phase }, { on := 3, ground := Ground.phase }, { on := 4, ground := Ground.phase }, { on := 5, ground := Ground.phase }, { on := 6, ground := Ground.phase }], guard := none }) (v := ?_) rfl (by kernel_rfl) (by kernel_rfl) (by kernel_rfl) (fun _ _ _ h => h) (Or.inl ⟨by rfl, ?_⟩) (by assumption) ?_
          rotate_left
          · intro w hSw; (try dsimp only at hSw); go_simp; (try with_reducible rfl)
          try simp only [Act.put, List.setIfInBounds_toArray, List.set_cons_zero, List.set_cons_succ]
          refine wpAnyH_done (by kernel_rfl) ?_ _
          have HT4 : Hid (Turn [] W0 w12) := Lib.hid (HT2.out.trans' (HT12.out))
          have q0 := HP.out w12 (HT4.out) 0 _ rfl
          have q1 := HP.out w12 (HT4.out) 1 _ rfl
          have q2 := HP.out w12 (HT4.out) 2 _ rfl
          have q3 := HP.out w12 (HT4.out) 3 _ rfl
          have q4 := HP.out w12 (HT4.out) 4 _ rfl
          have q5 := HP.out w12 (HT4.out) 5 _ rfl
          have q6 := HP.out w12 (HT4.out) 6 _ rfl
          have q7 := HP.out w12 (HT4.out) 7 _ rfl
          have q8 := HP.out w12 (HT4.out) 8 _ rfl
          have q9 := HP.out w12 (HT4.out) 9 _ rfl
          cases hot : fstF l l.length t with
          | none =>
            have d1 : decide (x ≥ 0) = false := by rw [← HXY.out.1]; exact (fnd_fst (t := t)).trans (by rw [hot]; rfl)
            have d2 : decide (0 ≤ x) = false := d1
            have HE := Lib.hid (bel_cn HPl.out HNE.out.1 HNE.out.2 (by rw [hot]; rfl))
            clear hot
            go_wp2_with fail
            go_ret
            exact ⟨by rw [HE.out]; rfl, HT0.out.trans' HT4.out⟩
          | some i =>
            have d1 : decide (x ≥ 0) = true := by rw [← HXY.out.1]; exact (fnd_fst (t := t)).trans (by rw [hot]; rfl)
            have d2 : decide (0 ≤ x) = true := d1
            cases hou : fstF l l.length u with
            | none =>
              have d3 : decide (y ≥ 0) = false := by rw [← HXY.out.2]; exact (fnd_fst (t := u)).trans (by rw [hou]; rfl)
              have d4 : decide (0 ≤ y) = false := d3
              have HE := Lib.hid (bel_cn HPl.out HNE.out.1 HNE.out.2 (by rw [hou]; simp))
              clear hot hou
              go_wp2_with fail
              go_ret
              exact ⟨by rw [HE.out]; rfl, HT0.out.trans' HT4.out⟩
            | some k =>
              have hxi : x = (i : Int) := by rw [← HXY.out.1]; unfold fndI; rw [hot]
              have hyk : y = (k : Int) := by rw [← HXY.out.2]; unfold fndI; rw [hou]
              subst hxi
              subst hyk
              have d3 : decide ((k : Int) ≥ 0) = true := by simp
              have d4 : decide ((0 : Int) ≤ (k : Int)) = true := by simp
              have hin : i < n := by have := (pl_fst HPl.out hot).2.2.2.2.2; have := HN.out; omega
              have hkn : k < n := by have := (pl_fst HPl.out hou).2.2.2.2.2; have := HN.out; omega
              have d5 : (k : Int) < (n : Int) := by omega
              have HBC := Lib.hid (bel_cc HG.out HPl.out HNE.out.1 HNE.out.2 hot hou)
              have HMx := Lib.hid (HMk.out w12 i HT4.out hin)
              clear hot hou hin
              go_wp2_with fail
              refine HMx.out.mono ?_
              rintro e w5 ⟨gm, ms, rfl, hom, hml, hmi, t5⟩
              obtain ⟨mb, hmb⟩ := at_lt (show k < ms.length by omega)
              have cm : w5.cell? ⟨gm, k, none⟩ = some (.bool mb) := hom.at.1 k mb hmb
              have HE : Hid (belB l t u = mb) := Lib.hid (by
                rw [Bool.eq_iff_iff, HBC.out, ← hmi k, hmb]
                simp)
              have HT5 := Lib.hid (HT4.out.trans' t5)
              clear hom hml hmi t5 hmb HMx
              go_wp2_with fail
              go_ret
              exact ⟨by rw [HE.out]; rfl, HT0.out.trans' HT5.out⟩
end Go.Proofs.YtbocejiclellfaaGreatDoor

/- New of the types; made. -/
set_option linter.unusedSimpArgs false
set_option linter.unusedVariables false
set_option maxRecDepth 100000
namespace Go.Proofs.YtbocejiclellfaaGreatDoor
open Go.RowKit

theorem eq_tab_none (w : World) : (binOp .eql 60 (.pointer none) (.pointer none)).run Tryz.prog w = .ok (.bool true) w := by kernel_rfl
theorem eq_tab_some (a : Addr) (w : World) : (binOp .eql 60 (.pointer (some a)) (.pointer none)).run Tryz.prog w = .ok (.bool false) w := by kernel_rfl
attribute [local go_sem] eq_tab_none eq_tab_some
set_option maxHeartbeats 1600000 in
theorem sNew_none (w : World) : Calls Tryz.prog 20 #[.pointer none] w fun e w' => e = .returned (.tuple #[.pointer none, .int .i64 2]) ∧ w = w' := by
  go_enter Tryz.func20, Tryz.ntmps20
  go_wp2_with fail
  go_ret2
  exact ⟨rfl, rfl⟩
set_option maxHeartbeats 1600000 in
theorem sNew_any {A : Option Addr} {B : Nat} {l : List K8} {r t m sz : Nat} {V : Value} (g : Rgt l) (W : World) (b : Bk A B l r t m sz V W) : Calls Tryz.prog 20 #[.pointer (some ⟨t, 0, none⟩)] W fun e w' => ∃ x VO, e = .returned (.tuple #[.pointer (some ⟨x, 0, none⟩), .int .i64 0]) ∧ Ty A B l r t m sz V x VO w' ∧ Turn [] W w' := by
  have HO := Lib.hid (order_any b.tl g.ok)
  have HB := Lib.hid b
  have HG := Lib.hid g
  clear b g
  go_enter Tryz.func20, Tryz.ntmps20
  go_wp2_with fail
  refine HO.out.mono ?_
  rintro e w1 ⟨U, rfl, hU, t1⟩
  obtain ⟨A1, c1, rfl, _, _⟩ := hU.form
  obtain ⟨N, hN⟩ : ∃ N, (ordL (esL l)).length = N := ⟨_, rfl⟩
  rw [hN] at hU ⊢
  have HU := Lib.hid (hU.mono (Nat.zero_le _))
  have HT1 := Lib.hid t1
  obtain ⟨x, hx⟩ : ∃ x, w1.heap.size = x := ⟨_, rfl⟩
  obtain ⟨W2, hW2⟩ : ∃ W, w1.alloc (.cells #[.pointer (some ⟨t, 0, none⟩), .slice A1 N c1] 69) = W := ⟨_, rfl⟩
  have t2 : Turn [] w1 W2 := by rw [← hW2]; exact (Turn.refl [] w1).alloc _
  have b2 : W2.heap[x]? = some (.cells #[.pointer (some ⟨t, 0, none⟩), .slice A1 N c1] 69 (0, 0)) := by rw [← hW2, ← hx]; exact heap_alloc_new w1 _
  have HTy : Hid (Ty A B l r t m sz V x (.slice A1 N c1) W2) := Lib.hid ⟨HB.out.turn (t1.trans' t2), b2, HU.out.turn' t2, HG.out.kok.len, HG.out.snd⟩
  have HT2 := Lib.hid (t1.trans' t2)
  have HW2 := Lib.hid hW2
  have HX := Lib.hid hx
  clear hU t1 hx hW2 t2 b2 hN
  go_wp2_with fail
  rw [HX.out, HW2.out]
  go_ret2
  exact ⟨x, _, rfl, HTy.out, HT2.out⟩
set_option maxHeartbeats 3200000 in
theorem made_any (A : Option Addr) (c B : Nat) (l : List K8) (m0 m1 m2 m3 m4 m5 m6 m7 m8 : Value) (g : Rgt l) (w : World) (hr : RdKs B w A l) (hB : B ≤ w.heap.size) (hT : Tab w) :
    Calls Tryz.prog 6 #[.agg #[.slice A l.length c, m0, m1, m2, m3, m4, m5, m6, m7, m8]] w fun e w' => ∃ r t m sz V x VO, e = .returned (.pointer (some ⟨x, 0, none⟩)) ∧ Ty A B l r t m sz V x VO w' ∧ Turn [] w w' := by
  obtain ⟨n, hn⟩ : ∃ n, l.length = n := ⟨_, rfl⟩
  obtain ⟨r, hrr⟩ : ∃ r, w.heap.size = r := ⟨_, rfl⟩
  obtain ⟨W0, hW0⟩ : ∃ W, w.alloc (.cells #[.slice A n c, m0, m1, m2, m3, m4, m5, m6, m7, m8] 30) = W := ⟨_, rfl⟩
  have t0 : Turn [] w W0 := by rw [← hW0]; exact (Turn.refl [] w).alloc _
  have b0 : W0.heap[r]? = some (.cells #[.slice A n c, m0, m1, m2, m3, m4, m5, m6, m7, m8] 30 (0, 0)) := by rw [← hW0, ← hrr]; exact heap_alloc_new w _
  have HNw := Lib.hid (show Calls Tryz.prog 24 #[.agg #[.slice A n c, m0, m1, m2, m3, m4, m5, m6, m7, m8]] W0 fun e w' => NwR l W0.heap.size e w' ∧ Turn [] W0 w' by
    rw [← hn]
    exact new_any A c B l m0 m1 m2 m3 m4 m5 m6 m7 m8 W0 (hr.turn t0 (by simp)) (by have := t0.size; omega) g.kok)
  have g0 : W0.cell? ⟨r, 0, none⟩ = some (.slice A n c) := cell_of_row W0 r 0 _ _ _ b0
  have g1 : W0.cell? ⟨r, 1, none⟩ = some m0 := cell_of_row W0 r 1 _ _ _ b0
  have g2 : W0.cell? ⟨r, 2, none⟩ = some m1 := cell_of_row W0 r 2 _ _ _ b0
  have g3 : W0.cell? ⟨r, 3, none⟩ = some m2 := cell_of_row W0 r 3 _ _ _ b0
  have g4 : W0.cell? ⟨r, 4, none⟩ = some m3 := cell_of_row W0 r 4 _ _ _ b0
  have g5 : W0.cell? ⟨r, 5, none⟩ = some m4 := cell_of_row W0 r 5 _ _ _ b0
  have g6 : W0.cell? ⟨r, 6, none⟩ = some m5 := cell_of_row W0 r 6 _ _ _ b0
  have g7 : W0.cell? ⟨r, 7, none⟩ = some m6 := cell_of_row W0 r 7 _ _ _ b0
  have g8 : W0.cell? ⟨r, 8, none⟩ = some m7 := cell_of_row W0 r 8 _ _ _ b0
  have g9 : W0.cell? ⟨r, 9, none⟩ = some m8 := cell_of_row W0 r 9 _ _ _ b0
  have HRD := Lib.hid (hr.turn t0 (by simp))
  have HTb := Lib.hid (hT.turn' t0)
  have HG := Lib.hid g
  have HT0 := Lib.hid t0
  have HW0 := Lib.hid hW0
  have HRR := Lib.hid hrr
  rw [hn]
  clear hr hrr hW0 t0 b0 hT g hn
  go_enter Tryz.func6, Tryz.ntmps6
  go_upto_region 1 with fail
  rw [HRR.out, HW0.out]
  go_wp2_with fail
  refine HNw.out.mono ?_
  rintro e w1 ⟨hN, t1⟩
  obtain ⟨t, m, sz, V, rfl, htl, hmp⟩ := new_rgt HG.out hN
  obtain ⟨W2, hW2⟩ : ∃ W, w1.alloc (.cells #[.int .i64 0, .int .i64 0, .int .i64 0] 58) = W := ⟨_, rfl⟩
  have t2 : Turn [] w1 W2 := by rw [← hW2]; exact (Turn.refl [] w1).alloc _
  have HT2 := Lib.hid (t1.trans' t2)
  have HS := Lib.hid (sNew_any (A := A) (B := B) (r := W0.heap.size) (m := m) (sz := sz) (V := V) HG.out W2 ⟨HRD.out.turn (t1.trans' t2) (by simp), htl.turn' t2, hmp.turn t2 (by simp), HTb.out.turn' (t1.trans' t2)⟩)
  have HW2 := Lib.hid hW2
  clear hN htl hmp t1 t2 hW2 HNw g0 g1 g2 g3 g4 g5 g6 g7 g8 g9
  unfold ftC
  go_upto_region 2 with fail
  rw [HW2.out]
  go_wp2_with fail
  refine HS.out.mono ?_
  rintro e w3 ⟨x, VO, rfl, hty, t3⟩
  have HTy := Lib.hid hty
  have HT3 := Lib.hid t3
  clear hty t3
  go_wp2_with fail
  go_ret
  exact ⟨_, _, _, _, _, _, _, rfl, HTy.out, (HT0.out.trans' HT2.out).trans' HT3.out⟩
end Go.Proofs.YtbocejiclellfaaGreatDoor

/- right; awake: the document's example. -/
set_option linter.unusedSimpArgs false
set_option linter.unusedVariables false
set_option maxRecDepth 100000
namespace Go.Proofs.YtbocejiclellfaaGreatDoor
open Go.RowKit

theorem fld_fault9 (e p q : Int) (w : World) : (Instr.field 58 (.agg #[.int .i64 e, .int .i64 p, .int .i64 q]) 0).run Tryz.prog w = .ok (.int .i64 e) w := by kernel_rfl
theorem eq_typ_some (a : Addr) (w : World) : (binOp .eql 33 (.pointer (some a)) (.pointer none)).run Tryz.prog w = .ok (.bool false) w := by kernel_rfl
attribute [local go_sem] fld_fault9 eq_ptrT
set_option maxHeartbeats 6400000 in
theorem right9_any (A : Option Addr) (c B : Nat) (l : List K8) (m0 m1 m2 m3 m4 m5 m6 m7 m8 : Value) (w : World) (hr : RdKs B w A l) (hnm : NmOk l) :
    Calls Tryz.prog 5 #[.agg #[.slice A l.length c, m0, m1, m2, m3, m4, m5, m6, m7, m8]] w fun e w' => ∃ b, e = .returned (.bool b) ∧ (b = true → smallB l = true ∧ Rgt l ∧ PlainL l) ∧ Turn [] w w' := by
  obtain ⟨n, hn⟩ : ∃ n, l.length = n := ⟨_, rfl⟩
  obtain ⟨r, hrr⟩ : ∃ r, w.heap.size = r := ⟨_, rfl⟩
  obtain ⟨W0, hW0⟩ : ∃ W, w.alloc (.cells #[.slice A n c, m0, m1, m2, m3, m4, m5, m6, m7, m8] 30) = W := ⟨_, rfl⟩
  have t0 : Turn [] w W0 := by rw [← hW0]; exact (Turn.refl [] w).alloc _
  have b0 : W0.heap[r]? = some (.cells #[.slice A n c, m0, m1, m2, m3, m4, m5, m6, m7, m8] 30 (0, 0)) := by rw [← hW0, ← hrr]; exact heap_alloc_new w _
  have HSm : Hid (∀ W, Turn [] W0 W → Calls Tryz.prog 21 #[.agg #[.slice A n c, m0, m1, m2, m3, m4, m5, m6, m7, m8]] W fun e w' => e = .returned (.bool (smallB l)) ∧ Turn [] W w') := Lib.hid fun W t => by
    rw [← hn]
    exact small_any8 A c B l m0 m1 m2 m3 m4 m5 m6 m7 m8 W ((hr.turn t0 (by simp)).turn t (by simp))
  have HFt : Hid (smallB l = true → ∀ W, Turn [] W0 W → Calls Tryz.prog 22 #[.agg #[.slice A n c, m0, m1, m2, m3, m4, m5, m6, m7, m8]] W fun e w' => FtR l e ∧ Turn [] W w') := Lib.hid fun hs W t => by
    rw [← hn]
    exact rfault_any A c B l m0 m1 m2 m3 m4 m5 m6 m7 m8 W ((hr.turn t0 (by simp)).turn t (by simp)) (small_ok hs hnm).1.len (fun c hc => ((small_ok hs hnm).1.nm c hc).2.2.2)
  have HPl : Hid (smallB l = true → ∀ W, Turn [] W0 W → Calls Tryz.prog 23 #[.agg #[.slice A n c, m0, m1, m2, m3, m4, m5, m6, m7, m8]] W fun e w' => ∃ b, e = .returned (.bool b) ∧ (b = true → PlainL l) ∧ Turn [] W w') := Lib.hid fun hs W t => by
    rw [← hn]
    exact plain_any A c B l m0 m1 m2 m3 m4 m5 m6 m7 m8 W ((hr.turn t0 (by simp)).turn t (by simp)) (small_ok hs hnm).1.len (fun x hx => (hnm x hx).1)
  have hcl : ∀ W, Turn [] W0 W → ∀ (i : Nat) (v : Value), (#[Value.slice A n c, m0, m1, m2, m3, m4, m5, m6, m7, m8] : Array Value)[i]? = some v → W.cell? ⟨r, i, none⟩ = some v := fun W t i v hv => (cell_of_row W r i _ _ _ (t.heap b0 (by simp))).trans hv
  have HCL := Lib.hid hcl
  have HT0 := Lib.hid t0
  have HW0 := Lib.hid hW0
  have HRR := Lib.hid hrr
  have HNM := Lib.hid hnm
  have HS0 := Lib.hid (HSm.out W0 (Turn.refl _ _))
  have g0 := HCL.out W0 (Turn.refl _ _) 0 _ rfl
  have g1 := HCL.out W0 (Turn.refl _ _) 1 _ rfl
  have g2 := HCL.out W0 (Turn.refl _ _) 2 _ rfl
  have g3 := HCL.out W0 (Turn.refl _ _) 3 _ rfl
  have g4 := HCL.out W0 (Turn.refl _ _) 4 _ rfl
  have g5 := HCL.out W0 (Turn.refl _ _) 5 _ rfl
  have g6 := HCL.out W0 (Turn.refl _ _) 6 _ rfl
  have g7 := HCL.out W0 (Turn.refl _ _) 7 _ rfl
  have g8 := HCL.out W0 (Turn.refl _ _) 8 _ rfl
  have g9 := HCL.out W0 (Turn.refl _ _) 9 _ rfl
  rw [hn]
  clear hr hnm hn hrr hW0 t0 b0 hcl
  go_enter Tryz.func5, Tryz.ntmps5
  go_upto_region 1 with fail
  rw [HRR.out, HW0.out]
  go_wp2_with fail
  refine HS0.out.mono ?_
  rintro e w1 ⟨rfl, t1⟩
  have HT1 := Lib.hid t1
  clear t1 HS0 g0 g1 g2 g3 g4 g5 g6 g7 g8 g9
  obtain ⟨sm, hsm⟩ : ∃ sm, smallB l = sm := ⟨_, rfl⟩
  rw [hsm]
  have HSB := Lib.hid hsm
  clear hsm
  cases sm with
  | false =>
    go_wp2_with fail
    go_ret
    exact ⟨false, rfl, (fun h => by cases h), HT0.out.trans' HT1.out⟩
  | true =>
    have HF1 := Lib.hid (HFt.out HSB.out w1 HT1.out)
    have g0 := HCL.out w1 (HT1.out) 0 _ rfl
    have g1 := HCL.out w1 (HT1.out) 1 _ rfl
    have g2 := HCL.out w1 (HT1.out) 2 _ rfl
    have g3 := HCL.out w1 (HT1.out) 3 _ rfl
    have g4 := HCL.out w1 (HT1.out) 4 _ rfl
    have g5 := HCL.out w1 (HT1.out) 5 _ rfl
    have g6 := HCL.out w1 (HT1.out) 6 _ rfl
    have g7 := HCL.out w1 (HT1.out) 7 _ rfl
    have g8 := HCL.out w1 (HT1.out) 8 _ rfl
    have g9 := HCL.out w1 (HT1.out) 9 _ rfl
    go_wp2_with fail
    refine HF1.out.mono ?_
    rintro e w2 ⟨hF, t2⟩
    have HT2 := Lib.hid (HT1.out.trans' t2)
    clear t2 HF1 g0 g1 g2 g3 g4 g5 g6 g7 g8 g9
    rcases ft_two (small_ok HSB.out HNM.out).1 hF with ⟨p, q, rfl⟩ | ⟨rfl, hg⟩
    · unfold ftC
      go_wp2_with fail
      go_ret
      exact ⟨false, rfl, (fun h => by cases h), HT0.out.trans' HT2.out⟩
    · have HG := Lib.hid hg
      have HP2 := Lib.hid (HPl.out HSB.out w2 HT2.out)
      have g0 := HCL.out w2 (HT2.out) 0 _ rfl
      have g1 := HCL.out w2 (HT2.out) 1 _ rfl
      have g2 := HCL.out w2 (HT2.out) 2 _ rfl
      have g3 := HCL.out w2 (HT2.out) 3 _ rfl
      have g4 := HCL.out w2 (HT2.out) 4 _ rfl
      have g5 := HCL.out w2 (HT2.out) 5 _ rfl
      have g6 := HCL.out w2 (HT2.out) 6 _ rfl
      have g7 := HCL.out w2 (HT2.out) 7 _ rfl
      have g8 := HCL.out w2 (HT2.out) 8 _ rfl
      have g9 := HCL.out w2 (HT2.out) 9 _ rfl
      clear hF hg
      unfold ftC
      go_wp2_with fail
      refine HP2.out.mono ?_
      rintro e w3 ⟨b, rfl, hb, t3⟩
      have HB := Lib.hid hb
      have HT3 := Lib.hid (HT2.out.trans' t3)
      clear t3 hb g0 g1 g2 g3 g4 g5 g6 g7 g8 g9
      go_wp2_with fail
      go_ret
      exact ⟨b, rfl, fun h => ⟨HSB.out, HG.out, HB.out h⟩, HT0.out.trans' HT3.out⟩
theorem ab_snd : ∀ j x, ([kA, kB] : List K8)[j]? = some x → sndB [kA, kB] j x = true := by
  intro j x hx
  match j, hx with
  | 0, hx => simp at hx; subst hx; decide +kernel
  | 1, hx => simp at hx; subst hx; decide +kernel
  | j + 2, hx => simp at hx
theorem climbTo_of {Es : List En} {F : Nat} : ∀ (k : Nat), (∀ j, j ≤ k → (climbC Es F j).p = []) → climbTo Es k (climbC Es F k)
  | 0, _ => rfl
  | k + 1, h => ⟨climbC Es F k, F, climbTo_of k (fun j hj => h j (by omega)), rfl, h (k + 1) (Nat.le_refl _)⟩
theorem ab_rgt : Rgt [kA, kB] where
  kok := ab_ok
  snd := ab_snd
  acy := by
    intro i hi
    have hok : EsOk (esL [kA, kB]) := esL_ok ab_ok.len (fun c hc => (ab_ok.nm c hc).2.2.2)
    have hto : climbTo (esL [kA, kB]) (esL [kA, kB]).length (climbC (esL [kA, kB]) 50 2) := by
      rw [esL_len]
      exact climbTo_of 2 (clAll_of _ ab_cl)
    have h := (round_says hok hto).1 i hi
    rw [ab_round] at h
    omega
theorem ab_b1 : belB [kA, kB] ⟨#[65]⟩ ⟨#[66]⟩ = true := by decide +kernel
theorem ab_b2 : belB [kA, kB] ⟨#[65, 91, 93]⟩ ⟨#[66, 91, 93]⟩ = false := by decide +kernel
theorem ab_b3 : belB [kA, kB] ⟨#[110, 117, 108, 108]⟩ ⟨#[65, 91, 93]⟩ = true := by decide +kernel
set_option maxHeartbeats 12800000 in
theorem awake9_any (w : World) (hT : Tab w) : Calls Tryz.prog 4 #[] w fun e w' => e = .returned (.bool true) ∧ Turn [] w w' := by
  obtain ⟨r, hr⟩ : ∃ r, w.heap.size = r := ⟨_, rfl⟩
  obtain ⟨W1, hW1⟩ : ∃ W, w.alloc (.cells abC 53) = W := ⟨_, rfl⟩
  have t1 : Turn [] w W1 := by rw [← hW1]; exact (Turn.refl [] w).alloc _
  have b1 : W1.heap[r]? = some (.cells abC 53 (0, 0)) := by rw [← hW1, ← hr]; exact heap_alloc_new w _
  have s1 : W1.heap.size = r + 1 := by rw [← hW1, ← hr]; simp
  have HMd := Lib.hid (fun m0 m1 m2 m3 m4 m5 m6 m7 m8 => made_any (some ⟨r, 0, none⟩) 2 (r + 1) [kA, kB] m0 m1 m2 m3 m4 m5 m6 m7 m8 ab_rgt W1 (ab_rd b1) (by omega) (hT.turn' t1))
  have HT1 := Lib.hid t1
  have HR := Lib.hid hr
  unfold abC at hW1
  have HW1 := Lib.hid hW1
  clear t1 b1 s1 hT hW1 hr
  go_enter Tryz.func4, Tryz.ntmps4
  go_wp2_with fail
  rw [HR.out, HW1.out]
  refine (HMd.out _ _ _ _ _ _ _ _ _).mono ?_
  rintro e w2 ⟨r0, t, m, sz, V, x, VO, rfl, hTy, t2⟩
  have HT2 := Lib.hid (HT1.out.trans' t2)
  have HBl : Hid (∀ W, Turn [] w2 W → ∀ s u : ByteArray, s.size ≤ 562949953421312 → u.size ≤ 562949953421312 → Calls Tryz.prog 15 #[.pointer (some ⟨x, 0, none⟩), .string s, .string u] W fun e w' => e = .returned (.bool (belB [kA, kB] s u)) ∧ Turn [] W w') := Lib.hid fun W k s u => tBelow_any ab_ok W (hTy.turn k) s u
  have HN := Lib.hid (sNew_none w2)
  clear hTy t2 HMd
  go_wp2_with fail
  refine HN.out.mono ?_
  rintro e w3 ⟨rfl, rfl⟩
  have HB1 := Lib.hid (HBl.out w2 (Turn.refl _ _) ⟨#[65]⟩ ⟨#[66]⟩ (by decide +kernel) (by decide +kernel))
  rw [ab_b1] at HB1
  go_wp2_with fail
  refine HB1.out.mono ?_
  rintro e w4 ⟨rfl, t4⟩
  have HT4 := Lib.hid t4
  have HB2 := Lib.hid (HBl.out w4 t4 ⟨#[65, 91, 93]⟩ ⟨#[66, 91, 93]⟩ (by decide +kernel) (by decide +kernel))
  rw [ab_b2] at HB2
  clear t4 HB1
  go_wp2_with fail
  refine HB2.out.mono ?_
  rintro e w5 ⟨rfl, t5⟩
  have HT5 := Lib.hid (HT4.out.trans' t5)
  have HB3 := Lib.hid (HBl.out w5 (HT4.out.trans' t5) ⟨#[110, 117, 108, 108]⟩ ⟨#[65, 91, 93]⟩ (by decide +kernel) (by decide +kernel))
  rw [ab_b3] at HB3
  clear t5 HB2
  go_wp2_with fail
  refine HB3.out.mono ?_
  rintro e w6 ⟨rfl, t6⟩
  have HT6 := Lib.hid (HT5.out.trans' t6)
  clear t6 HB3
  go_wp2_with fail
  go_ret
  exact ⟨rfl, HT2.out.trans' HT6.out⟩
end Go.Proofs.YtbocejiclellfaaGreatDoor

/- SubArrays: the law. -/
set_option linter.unusedSimpArgs false
set_option linter.unusedVariables false
set_option maxRecDepth 100000
namespace Go.Proofs.YtbocejiclellfaaGreatDoor
open Go.RowKit

attribute [local go_sem] eq_ptrT
theorem tx_size {l : List K8} (hz : ∀ x ∈ l, x.nm.size ≤ 281474976710656) {k : Kd} (hk : okKd l k) : (txK l k).size ≤ 562949953421312 := by
  cases k with
  | int => exact (show tInt.size ≤ 562949953421312 by decide +kernel)
  | null => exact (show tNull.size ≤ 562949953421312 by decide +kernel)
  | cl j =>
    obtain ⟨x, hx, hn⟩ := kd_at hk
    rw [txK, hn]
    have := hz x (List.mem_of_getElem? hx)
    omega
  | ar j =>
    obtain ⟨x, hx, hn⟩ := kd_at hk
    rw [txK, hn, ByteArray.size_append]
    have := hz x (List.mem_of_getElem? hx)
    have h2 : tBr.size = 2 := rfl
    omega
theorem el_is {l : List K8} (g : Rgt l) (p : PlainL l) {k : Kd} (hk : okKd l k) : (elI l (txK l k)).isSome = isAr k := by
  have he := el_tx g p hk
  cases k <;> (rw [he]; rfl)
/-- What the laws know behind made and all. -/
structure Lw (l : List K8) (x b off N : Nat) (Wb : World) : Prop where
  cell : ∀ W, Turn [] Wb W → ∀ j, j < N → W.cell? ⟨b, off + j, none⟩ = some (.string (txK l (kdAt j)))
  ok : ∀ j, j < N → okKd l (kdAt j)
  elem : ∀ W, Turn [] Wb W → ∀ j, j < N → Calls Tryz.prog 7 #[.pointer (some ⟨x, 0, none⟩), .string (txK l (kdAt j))] W fun e w' => ∃ z, e = .returned (.tuple #[.string z, .bool (isAr (kdAt j))]) ∧ Turn [] W w'
  isT : ∀ W, Turn [] Wb W → ∀ j, j < N → ∀ (P : Option Addr) (c : Nat), Txs W P [txK l (kdAt j)] → Calls Tryz.prog 11 #[.pointer (some ⟨x, 0, none⟩), .slice P 1 c] W fun e w' => e = .returned (.bool true) ∧ Turn [] W w'
  bel : ∀ W, Turn [] Wb W → ∀ i j, i < N → j < N → Calls Tryz.prog 15 #[.pointer (some ⟨x, 0, none⟩), .string (txK l (kdAt i)), .string (txK l (kdAt j))] W fun e w' => e = .returned (.bool (belK l (kdAt i) (kdAt j))) ∧ Turn [] W w'
theorem lw_of {A : Option Addr} {B : Nat} {l : List K8} {r t m sz : Nat} {V : Value} {x : Nat} {VO : Value} {Wb : World} (g : Rgt l) (p : PlainL l) (hz : ∀ x ∈ l, x.nm.size ≤ 281474976710656) (h : Ty A B l r t m sz V x VO Wb) {U : Value} {q : Nat} (hq : q ≤ l.length) (hU : OwnS Wb U (allT l q)) :
    ∃ b off c, U = .slice (some ⟨b, off, none⟩) (2 + 2 * q) c ∧ Lw l x b off (2 + 2 * q) Wb := by
  obtain ⟨P, c, rfl, ht⟩ := hU.txs
  rw [allT_len]
  obtain ⟨b, off, rfl, hb, hc⟩ := ht 0 _ (allT_at l q (by omega))
  have hok : ∀ j, j < 2 + 2 * q → okKd l (kdAt j) := fun j hj => kdAt_ok hq hj
  refine ⟨b, off, c, rfl, ⟨fun W k j hj => ?_, hok, fun W k j hj => ?_, fun W k j hj P c hP => ?_, fun W k i j hi hj => ?_⟩⟩
  · obtain ⟨b', off', e, hb', hc'⟩ := ht j _ (allT_at l q hj)
    injection e with e
    injection e with e1 e2
    subst e1 e2
    exact (k.cell (p := ⟨b, off + j, none⟩) hb' (by simp)).trans hc'
  · refine (tElem_any W (h.turn k) (txK l (kdAt j)) (tx_size hz (hok j hj))).mono ?_
    rintro e w' ⟨rfl, t⟩
    refine ⟨elT l (txK l (kdAt j)), ?_, t⟩
    rw [el_is g p (hok j hj)]
  · refine (tIs_any W (h.turn k) P 1 c [txK l (kdAt j)] hP rfl (by omega) (fun s hs => by simp at hs; rw [hs]; exact tx_size hz (hok j hj))).mono ?_
    rintro e w' ⟨rfl, t⟩
    refine ⟨?_, t⟩
    simp [is_tx g p (hok j hj)]
  · refine (tBelow_any g.kok W (h.turn k) _ _ (tx_size hz (hok i hi)) (tx_size hz (hok j hj))).mono ?_
    rintro e w' ⟨rfl, t⟩
    exact ⟨by rw [bel_tx g p (hok i hi) (hok j hj)], t⟩
end Go.Proofs.YtbocejiclellfaaGreatDoor

/- What stands below a type, by itself: plain. -/
set_option linter.unusedSimpArgs false
set_option linter.unusedVariables false
namespace Go.Proofs.YtbocejiclellfaaGreatDoor
open Go.RowKit

def undK (l : List K8) : Kd → List Kd
  | .ar j => [.ar j]
  | .cl j => ((List.range l.length).filter (selB l j)).map .cl
  | _ => []
theorem und_tx {l : List K8} (g : Rgt l) (p : PlainL l) {k : Kd} (hk : okKd l k) : undL l (txK l k) = (undK l k).map (txK l) := by
  unfold undL
  have he := el_tx g p hk
  have hc := cl_tx g p hk
  cases k with
  | int => rw [he]; simp only; rw [hc]; rfl
  | null => rw [he]; simp only; rw [hc]; rfl
  | cl j =>
    rw [he]
    simp only
    rw [hc]
    simp only [undK, lstC, List.map_map]
    rfl
  | ar j => rw [he]; rfl
theorem bel_cl {l : List K8} (g : Rgt l) {i j : Nat} (hj : j < l.length) : belK l (.cl i) (.cl j) = upT (esL l) j i := by
  unfold belK
  by_cases e : i = j
  · subst e
    rw [if_pos rfl]
    exact ((upT_iff g.ok).2 (.refl (by rw [esL_len]; exact hj) (by simp))).symm
  · rw [if_neg (by simp [e]), if_neg (by simp)]
    rfl
theorem und_mem {l : List K8} (g : Rgt l) {k a : Kd} (hk : okKd l k) (h : a ∈ undK l k) : okKd l a ∧ belK l a k = true := by
  cases k with
  | int => simp [undK] at h
  | null => simp [undK] at h
  | ar j =>
    simp [undK] at h
    subst h
    exact ⟨hk, by unfold belK; rw [if_pos rfl]⟩
  | cl j =>
    simp only [undK, List.mem_map, List.mem_filter, List.mem_range] at h
    obtain ⟨i, ⟨hi, hs⟩, rfl⟩ := h
    refine ⟨hi, ?_⟩
    rw [bel_cl g hk]
    unfold selB at hs
    simp only [Bool.and_eq_true] at hs
    exact hs.1
theorem und_nodup (l : List K8) (k : Kd) : (undK l k).Nodup := by
  cases k with
  | int => simp [undK]
  | null => simp [undK]
  | ar j => simp [undK]
  | cl j =>
    unfold undK
    refine List.Pairwise.map _ (fun a b h e => ?_) ((List.nodup_range).filter _)
    injection e with e
    exact h e
/-- How many classes of the first k, but interfaces, stand for it. -/
def cntK (l : List K8) (kd : Kd) (k : Nat) : Nat := ((List.range k).filter fun (i : Nat) => !(enAt (esL l) (i : Int)).face && belK l (.cl i) kd).length
theorem cntK_next (l : List K8) (kd : Kd) (k : Nat) : cntK l kd (k + 1) = cntK l kd k + (if (!(enAt (esL l) (k : Int)).face && belK l (.cl k) kd) = true then 1 else 0) := by
  unfold cntK
  rw [List.range_succ, List.filter_append, List.length_append]
  congr 1
  by_cases h : (!(enAt (esL l) (k : Int)).face && belK l (.cl k) kd) = true
  · rw [if_pos h]
    simp only [List.filter_cons, h, List.filter_nil]
    rfl
  · rw [if_neg h]
    simp only [List.filter_cons, h, List.filter_nil]
    rfl
theorem cntK_le (l : List K8) (kd : Kd) (k : Nat) : cntK l kd k ≤ k := by
  unfold cntK
  have := List.length_filter_le (fun (i : Nat) => !(enAt (esL l) (i : Int)).face && belK l (.cl i) kd) (List.range k)
  simpa using this
theorem cnt_und {l : List K8} (g : Rgt l) {k : Kd} (hk : okKd l k) : (undK l k).length = if isAr k = true then 1 else cntK l k l.length := by
  cases k with
  | int =>
    have : ∀ q, cntK l .int q = 0 := fun q => by
      unfold cntK
      rw [List.length_eq_zero_iff, List.filter_eq_nil_iff]
      intro i _
      simp [belK]
    rw [this]
    rfl
  | null =>
    have : ∀ q, cntK l .null q = 0 := fun q => by
      unfold cntK
      rw [List.length_eq_zero_iff, List.filter_eq_nil_iff]
      intro i _
      simp [belK]
    rw [this]
    rfl
  | ar j => rfl
  | cl j =>
    unfold undK cntK
    rw [List.length_map, if_neg (by simp [isAr])]
    congr 1
    apply List.filter_congr
    intro i _
    rw [bel_cl g hk, Bool.and_comm]
    rfl
end Go.Proofs.YtbocejiclellfaaGreatDoor

/- The reference's Under: it answers what the program's does. -/
set_option linter.unusedSimpArgs false
set_option linter.unusedVariables false
set_option maxRecDepth 100000
namespace Go.Proofs.YtbocejiclellfaaGreatDoor
open Go.RowKit

theorem cut_back {t s : ByteArray} (h : cutB t = some s) : s ++ tBr = t := by
  unfold cutB at h
  split at h
  · rename_i c
    injection h with h
    subst h
    rw [← c.2]
    apply ByteArray.ext
    simp only [ByteArray.data_append, ByteArray.data_extract]
    have h2 : t.size = t.data.size := rfl
    rw [Array.extract_append_extract]
    rw [h2] at c ⊢
    simp
  · cases h
theorem und_el {l : List K8} (p : PlainL l) {t : ByteArray} {i : Nat} (h : elI l t = some i) : undL l t = [t] := by
  unfold undL
  rw [h]
  unfold elI at h
  cases hc : cutB t with
  | none => rw [hc] at h; cases h
  | some s =>
    rw [hc] at h
    show [nmL l i ++ tBr] = [t]
    rw [(pl_fst p h).2.2.2.2.1, cut_back hc]
theorem und_no {l : List K8} (p : PlainL l) {t : ByteArray} (h : elI l t = none) (hf : fstF l l.length t = none) : undL l t = [] := by
  unfold undL
  rw [h, cl_fst p, hf]
theorem und_cl {l : List K8} (p : PlainL l) {t : ByteArray} {j : Nat} (hf : fstF l l.length t = some j) : undL l t = lstC l j l.length := by
  unfold undL
  rw [(pl_fst p hf).1, cl_fst p, hf]
set_option maxHeartbeats 12800000 in
theorem rUnder_any (A : Option Addr) (c B : Nat) (l : List K8) (m0 m1 m2 m3 m4 m5 m6 m7 m8 : Value) (gg : Rgt l) (p : PlainL l) (hz : ∀ x ∈ l, x.nm.size ≤ 281474976710656) (t : ByteArray) (w : World) (hr : RdKs B w A l) (ht : t.size ≤ 562949953421312) :
    Calls Tryz.prog 19 #[.agg #[.slice A l.length c, m0, m1, m2, m3, m4, m5, m6, m7, m8], .string t] w fun e w' => ∃ U, e = .returned U ∧ OwnS w' U (undL l t) ∧ Turn [] w w' := by
  have hl := gg.kok.len
  obtain ⟨n, hn⟩ : ∃ n, l.length = n := ⟨_, rfl⟩
  obtain ⟨r, hrr⟩ : ∃ r, w.heap.size = r := ⟨_, rfl⟩
  obtain ⟨W0, hW0⟩ : ∃ W, w.alloc (.cells #[.slice A n c, m0, m1, m2, m3, m4, m5, m6, m7, m8] 30) = W := ⟨_, rfl⟩
  have t0 : Turn [] w W0 := by rw [← hW0]; exact (Turn.refl [] w).alloc _
  have b0 : W0.heap[r]? = some (.cells #[.slice A n c, m0, m1, m2, m3, m4, m5, m6, m7, m8] 30 (0, 0)) := by rw [← hW0, ← hrr]; exact heap_alloc_new w _
  have HP : Hid (∀ W, Turn [] W0 W → ∀ (i : Nat) (v : Value), (#[Value.slice A n c, m0, m1, m2, m3, m4, m5, m6, m7, m8] : Array Value)[i]? = some v → W.cell? ⟨r, i, none⟩ = some v) := Lib.hid fun W k i v hv => (cell_of_row W r i _ _ _ (k.heap b0 (by simp))).trans hv
  have HFd : Hid (∀ W, Turn [] W0 W → ∀ s, Calls Tryz.prog 9 #[.agg #[.slice A n c, m0, m1, m2, m3, m4, m5, m6, m7, m8], .string s] W fun e w' => e = .returned (.int .i64 (fndI l s)) ∧ Turn [] W w') := Lib.hid fun W k s => by
    rw [← hn]
    exact rfind_any A c B l m0 m1 m2 m3 m4 m5 m6 m7 m8 s W ((hr.turn t0 (by simp)).turn k (by simp)) hl
  have HEl : Hid (∀ W, Turn [] W0 W → Calls Tryz.prog 10 #[.agg #[.slice A n c, m0, m1, m2, m3, m4, m5, m6, m7, m8], .string t] W fun e w' => e = .returned (.string (elT l t)) ∧ Turn [] W w') := Lib.hid fun W k => by
    rw [← hn]
    exact rElem_any A c B l m0 m1 m2 m3 m4 m5 m6 m7 m8 p t W ((hr.turn t0 (by simp)).turn k (by simp)) hl ht
  have HBG : Hid (∀ W, Turn [] W0 W → ∀ s : ByteArray, s.size ≤ 562949953421312 → Calls Tryz.prog 16 #[.agg #[.slice A n c, m0, m1, m2, m3, m4, m5, m6, m7, m8], .string s, .string t] W fun e w' => e = .returned (.bool (belB l s t)) ∧ Turn [] W w') := Lib.hid fun W k s hs => by
    rw [← hn]
    exact rBelow_any A c B l m0 m1 m2 m3 m4 m5 m6 m7 m8 gg p s t W ((hr.turn t0 (by simp)).turn k (by simp)) hs ht
  have HRD : Hid (∀ W, Turn [] W0 W → RdKs B W A l) := Lib.hid fun W k => (hr.turn t0 (by simp)).turn k (by simp)
  have s0 : W0.heap.size = r + 1 := by rw [← hW0, ← hrr]; simp
  have HS0 := Lib.hid s0
  have HT0 := Lib.hid t0
  have HW0 := Lib.hid hW0
  have HRR := Lib.hid hrr
  have HN := Lib.hid hn
  rw [hn]
  have hn1 : n ≤ 1000 := by omega
  have HG := Lib.hid gg
  have HPl := Lib.hid p
  have HZ := Lib.hid hz
  have hel : (elT l t).toList.isEmpty = !(elI l t).isSome := by rw [emp_list, elT_iff p]
  obtain ⟨et, het⟩ : ∃ et, elT l t = et := ⟨_, rfl⟩
  rw [het] at HEl hel
  have q0 := HP.out W0 (Turn.refl _ _) 0 _ rfl
  have q1 := HP.out W0 (Turn.refl _ _) 1 _ rfl
  have q2 := HP.out W0 (Turn.refl _ _) 2 _ rfl
  have q3 := HP.out W0 (Turn.refl _ _) 3 _ rfl
  have q4 := HP.out W0 (Turn.refl _ _) 4 _ rfl
  have q5 := HP.out W0 (Turn.refl _ _) 5 _ rfl
  have q6 := HP.out W0 (Turn.refl _ _) 6 _ rfl
  have q7 := HP.out W0 (Turn.refl _ _) 7 _ rfl
  have q8 := HP.out W0 (Turn.refl _ _) 8 _ rfl
  have q9 := HP.out W0 (Turn.refl _ _) 9 _ rfl
  have HE1 := Lib.hid (HEl.out W0 (Turn.refl _ _))
  obtain ⟨o, ho⟩ : ∃ o, elI l t = o := ⟨_, rfl⟩
  rw [ho] at hel
  cases o with
  | some i =>
    have hel' : et.toList.isEmpty = false := hel
    have HU := Lib.hid (und_el p ho)
    clear hr hrr hW0 t0 b0 hn gg p hl hz het ho s0 hel
    go_enter Tryz.func19, Tryz.ntmps19
    go_upto_region 1 with fail
    rw [HRR.out, HW0.out]
    go_wp2_with fail
    refine HE1.out.mono ?_
    rintro e w1 ⟨rfl, t1⟩
    have HT1 := Lib.hid t1
    clear t1
    go_wp2_with fail
    go_ret
    exact ⟨_, rfl, by rw [HU.out]; exact owns_str w1 t, (HT0.out.trans' HT1.out).alloc _⟩
  | none =>
    have hel' : et.toList.isEmpty = true := hel
    obtain ⟨x, hx⟩ : ∃ x, fndI l t = x := ⟨_, rfl⟩
    have HFt : Hid (∀ W, Turn [] W0 W → Calls Tryz.prog 9 #[.agg #[.slice A n c, m0, m1, m2, m3, m4, m5, m6, m7, m8], .string t] W fun e w' => e = .returned (.int .i64 x) ∧ Turn [] W w') := Lib.hid fun W k => by rw [← hx]; exact HFd.out W k t
    cases hot : fstF l l.length t with
    | none =>
      have HU := Lib.hid (und_no p ho hot)
      have g1 : decide (x ≥ 0) = false := by rw [← hx]; exact (fnd_fst (t := t)).trans (by rw [hot]; rfl)
      have g2 : decide (0 ≤ x) = false := g1
      have hn0 : n = 0 ∨ 0 < n := by omega
      clear hr hrr hW0 t0 b0 hn gg p hl hz het ho s0 hel hx hot
      go_enter Tryz.func19, Tryz.ntmps19
      go_upto_region 1 with fail
      rw [HRR.out, HW0.out]
      go_wp2_with fail
      refine HE1.out.mono ?_
      rintro e w1 ⟨rfl, t1⟩
      have HT1 := Lib.hid t1
      clear t1 HE1 q0 q1 q2 q3 q4 q5 q6 q7 q8 q9
      go_wp2_with fail
      go_loopw [5, 6] (fun v5 v6 wr => v5 = .slice none 0 0 ∧ v6 = .int .i64 (0 : Int) ∧ Hid (Turn [] W0 wr)) (fun _ _ _ => 0)
      case atStart => exact ⟨rfl, rfl, HT1⟩
      case round =>
        obtain ⟨rfl, rfl, HT⟩ := hrel
        have q0 := HP.out wr (HT.out) 0 _ rfl
        have q1 := HP.out wr (HT.out) 1 _ rfl
        have q2 := HP.out wr (HT.out) 2 _ rfl
        have q3 := HP.out wr (HT.out) 3 _ rfl
        have q4 := HP.out wr (HT.out) 4 _ rfl
        have q5 := HP.out wr (HT.out) 5 _ rfl
        have q6 := HP.out wr (HT.out) 6 _ rfl
        have q7 := HP.out wr (HT.out) 7 _ rfl
        have q8 := HP.out wr (HT.out) 8 _ rfl
        have q9 := HP.out wr (HT.out) 9 _ rfl
        have HF1 := Lib.hid (HFt.out wr HT.out)
        rcases hn0 with h | h
        · subst h
          have d1 : decide ((0 : Int) < ((0 : Nat) : Int)) = false := by simp
          go_wp2_with fail
          go_ret
          exact ⟨_, rfl, by rw [HU.out]; exact World.ownsRow_nil _ 0 9 1, HT0.out.trans' HT.out⟩
        · have d1 : decide ((0 : Int) < (n : Int)) = true := by simp; omega
          go_wp2_with fail
          refine HF1.out.mono ?_
          rintro e w2 ⟨rfl, t2⟩
          have HT2 := Lib.hid (HT.out.trans' t2)
          clear t2
          go_wp2_with fail
          go_ret
          exact ⟨_, rfl, by rw [HU.out]; exact World.ownsRow_nil _ 0 9 1, HT0.out.trans' HT2.out⟩
    | some j =>
      have HU := Lib.hid (und_cl p hot)
      have g1 : decide (x ≥ 0) = true := by rw [← hx]; exact (fnd_fst (t := t)).trans (by rw [hot]; rfl)
      have g2 : decide (0 ≤ x) = true := g1
      have HJ : Hid (j < l.length ∧ nmL l j = t) := Lib.hid ⟨(pl_fst p hot).2.2.2.2.2, (pl_fst p hot).2.2.2.2.1⟩
      clear hr hrr hW0 t0 b0 hn gg p hl hz het ho s0 hel hx hot
      go_enter Tryz.func19, Tryz.ntmps19
      go_upto_region 1 with fail
      rw [HRR.out, HW0.out]
      go_wp2_with fail
      refine HE1.out.mono ?_
      rintro e w1 ⟨rfl, t1⟩
      have HT1 := Lib.hid t1
      clear t1 HE1 q0 q1 q2 q3 q4 q5 q6 q7 q8 q9
      go_wp2_with fail
      go_loopw [5, 6] (fun v5 v6 wr => ∃ k : Nat, k ≤ n ∧ v6 = .int .i64 (k : Int) ∧ Hid (OwnS wr v5 (lstC l j k) ∧ (∀ q, v5.ownBlock = some q → r + 1 ≤ q) ∧ Turn [] W0 wr)) (fun _ v6 _ => n - (intOf v6).toNat)
      case atStart => exact ⟨0, Nat.zero_le _, rfl, Lib.hid ⟨World.ownsRow_nil _ 0 9 1, fun q h => by simp [Value.ownBlock] at h, HT1.out⟩⟩
      case round =>
        obtain ⟨k, hk, rfl, HK⟩ := hrel
        have q0 := HP.out wr (HK.out.2.2) 0 _ rfl
        have q1 := HP.out wr (HK.out.2.2) 1 _ rfl
        have q2 := HP.out wr (HK.out.2.2) 2 _ rfl
        have q3 := HP.out wr (HK.out.2.2) 3 _ rfl
        have q4 := HP.out wr (HK.out.2.2) 4 _ rfl
        have q5 := HP.out wr (HK.out.2.2) 5 _ rfl
        have q6 := HP.out wr (HK.out.2.2) 6 _ rfl
        have q7 := HP.out wr (HK.out.2.2) 7 _ rfl
        have q8 := HP.out wr (HK.out.2.2) 8 _ rfl
        have q9 := HP.out wr (HK.out.2.2) 9 _ rfl
        by_cases hkn : k < n
        · have d1 : decide ((k : Int) < (n : Int)) = true := by simp; omega
          have d2 : (k : Int) < (n : Int) := by omega
          have HF1 := Lib.hid (HFt.out wr HK.out.2.2)
          obtain ⟨y, hy⟩ := at_lt (show k < l.length by have := HN.out; omega)
          have hnx := lstC_next l j k
          have hll := lstC_len l j k
          have hfc : (enAt (esL l) (k : Int)).face = y.face := by rw [HG.out.ent hy]
          have hbk : belB l y.nm t = upT (esL l) j k := by
            have h1 : y.nm = txK l (.cl k) := by rw [txK, nmL_at hy]
            have h2 : t = txK l (.cl j) := by rw [txK, HJ.out.2]
            rw [h1, h2, bel_tx HG.out HPl.out (k := .cl k) (k' := .cl j) (by show k < l.length; have := HN.out; omega) HJ.out.1, bel_cl HG.out HJ.out.1]
          have hys := HZ.out y (List.mem_of_getElem? hy)
          unfold selB at hnx
          rw [hfc, nmL_at hy] at hnx
          obtain ⟨kb, koff, cs, rfl, hb, hbl, hcell, A3, c3, A4, n4, c4, A5, n5, c5, A6, n6, c6, I, rfl, hst⟩ := HRD.out wr HK.out.2.2 k y hy
          have e0 : wr.cell? ⟨kb, koff + k * 10, none⟩ = some (.string y.nm) := hcell 0 _ rfl
          have e2 : wr.cell? ⟨kb, koff + k * 10 + 2, none⟩ = some (.bool y.face) := hcell 2 _ rfl
          obtain ⟨kn, hkn'⟩ : ∃ kn, y.nm = kn := ⟨_, rfl⟩
          obtain ⟨kf, hkf⟩ : ∃ kf, y.face = kf := ⟨_, rfl⟩
          obtain ⟨bv, hbv⟩ : ∃ bv, upT (esL l) j k = bv := ⟨_, rfl⟩
          rw [hkn'] at e0 hbk hnx hys
          rw [hkf] at e2 hnx
          rw [hbv] at hbk hnx
          have HBl : Hid (∀ W, Turn [] W0 W → Calls Tryz.prog 16 #[.agg #[.slice (some ⟨kb, koff, none⟩) n c, m0, m1, m2, m3, m4, m5, m6, m7, m8], .string kn, .string t] W fun e w' => e = .returned (.bool bv) ∧ Turn [] W w') := Lib.hid fun W u => by
            have := HBG.out W u kn (by omega)
            rw [hbk] at this
            exact this
          have HSS : Hid (∀ w', Turn [] wr w' → (w'.cell? ⟨r, 0, none⟩ = some (.slice (some ⟨kb, koff, none⟩) n c) ∧ w'.cell? ⟨r, 1, none⟩ = some m0 ∧ w'.cell? ⟨r, 2, none⟩ = some m1 ∧ w'.cell? ⟨r, 3, none⟩ = some m2 ∧ w'.cell? ⟨r, 4, none⟩ = some m3 ∧ w'.cell? ⟨r, 5, none⟩ = some m4 ∧ w'.cell? ⟨r, 6, none⟩ = some m5 ∧ w'.cell? ⟨r, 7, none⟩ = some m6 ∧ w'.cell? ⟨r, 8, none⟩ = some m7 ∧ w'.cell? ⟨r, 9, none⟩ = some m8 ∧ w'.cell? ⟨kb, koff + k * 10, none⟩ = some (.string kn) ∧ w'.cell? ⟨kb, koff + k * 10 + 2, none⟩ = some (.bool kf))) := Lib.hid fun W' u => ⟨HP.out W' (HK.out.2.2.trans' u) 0 _ rfl, HP.out W' (HK.out.2.2.trans' u) 1 _ rfl, HP.out W' (HK.out.2.2.trans' u) 2 _ rfl, HP.out W' (HK.out.2.2.trans' u) 3 _ rfl, HP.out W' (HK.out.2.2.trans' u) 4 _ rfl, HP.out W' (HK.out.2.2.trans' u) 5 _ rfl, HP.out W' (HK.out.2.2.trans' u) 6 _ rfl, HP.out W' (HK.out.2.2.trans' u) 7 _ rfl, HP.out W' (HK.out.2.2.trans' u) 8 _ rfl, HP.out W' (HK.out.2.2.trans' u) 9 _ rfl, (u.cell (p := ⟨kb, koff + k * 10, none⟩) hbl (by simp)).trans e0, (u.cell (p := ⟨kb, koff + k * 10 + 2, none⟩) hbl (by simp)).trans e2⟩
          have HNX := Lib.hid hnx
          clear hy hfc hbk hcell hst hb hbl hkn' hkf hbv e0 e2 hnx
          go_wp2_with fail
          refine HF1.out.mono ?_
          rintro e wF ⟨rfl, tF⟩
          have HKF : Hid (OwnS wF u5 (lstC l j k) ∧ (∀ q, u5.ownBlock = some q → r + 1 ≤ q) ∧ Turn [] W0 wF) := Lib.hid ⟨HK.out.1.turn' tF, HK.out.2.1, HK.out.2.2.trans' tF⟩
          have HSF : Hid (∀ w', Turn [] wF w' → (w'.cell? ⟨r, 0, none⟩ = some (.slice (some ⟨kb, koff, none⟩) n c) ∧ w'.cell? ⟨r, 1, none⟩ = some m0 ∧ w'.cell? ⟨r, 2, none⟩ = some m1 ∧ w'.cell? ⟨r, 3, none⟩ = some m2 ∧ w'.cell? ⟨r, 4, none⟩ = some m3 ∧ w'.cell? ⟨r, 5, none⟩ = some m4 ∧ w'.cell? ⟨r, 6, none⟩ = some m5 ∧ w'.cell? ⟨r, 7, none⟩ = some m6 ∧ w'.cell? ⟨r, 8, none⟩ = some m7 ∧ w'.cell? ⟨r, 9, none⟩ = some m8 ∧ w'.cell? ⟨kb, koff + k * 10, none⟩ = some (.string kn) ∧ w'.cell? ⟨kb, koff + k * 10 + 2, none⟩ = some (.bool kf))) := Lib.hid fun w' u => HSS.out w' (tF.trans' u)
          clear tF HF1 q0 q1 q2 q3 q4 q5 q6 q7 q8 q9 HSS HK
          have HK := HKF
          have HSS := HSF
          obtain ⟨wr, hwr⟩ : ∃ q, q = wF := ⟨_, rfl⟩
          subst hwr
          clear HKF HSF
          go_upto_region 7 with fail
          cases kf with
          | true =>
              have HN2 : Hid (lstC l j (k + 1) = lstC l j k) := Lib.hid (by rw [HNX.out]; simp)
              refine wp_region_held_drew (S := fun w' => w'.cell? ⟨r, 0, none⟩ = some (.slice (some ⟨kb, koff, none⟩) n c) ∧ w'.cell? ⟨r, 1, none⟩ = some m0 ∧ w'.cell? ⟨r, 2, none⟩ = some m1 ∧ w'.cell? ⟨r, 3, none⟩ = some m2 ∧ w'.cell? ⟨r, 4, none⟩ = some m3 ∧ w'.cell? ⟨r, 5, none⟩ = some m4 ∧ w'.cell? ⟨r, 6, none⟩ = some m5 ∧ w'.cell? ⟨r, 7, none⟩ = some m6 ∧ w'.cell? ⟨r, 8, none⟩ = some m7 ∧ w'.cell? ⟨r, 9, none⟩ = some m8 ∧ w'.cell? ⟨kb, koff + k * 10, none⟩ = some (.string kn) ∧ w'.cell? ⟨kb, koff + k * 10 + 2, none⟩ = some (.bool true)) (by kernel_rfl) ?_ (fun hHeld => ?_)
              · exact HSS.out _ (Turn.refl [] wr).drew
              refine wpAnyH_take (i := 0) (oi := { dst := some 26, op := Op.fieldAddr 30 (Operand.tmp 2) 0, type := 0, pos := _, after := #[], guard := none }) (v := ?_) rfl (by kernel_rfl) (by kernel_rfl) (by kernel_rfl) (fun _ _ _ h => h) (Or.inl ⟨by rfl, ?_⟩) (by assumption) ?_
              rotate_left
              · intro w hSw; (try dsimp only at hSw); go_simp; (try with_reducible rfl)
              try simp only [Act.put, List.setIfInBounds_toArray, List.set_cons_zero, List.set_cons_succ]
              refine wpAnyH_take (i := 1) (oi := { dst := some 27, op := Op.load 22 (Operand.tmp 26), type := 22, pos := _, after := #[{ on := 0, ground := Ground.data }], guard := none }) (v := ?_) rfl (by kernel_rfl) (by kernel_rfl) (by kernel_rfl) (fun _ _ _ h => h) (Or.inl ⟨by rfl, ?_⟩) (by assumption) ?_
              rotate_left
              · intro w hSw; (try dsimp only at hSw); go_simp; (try with_reducible rfl)
              try simp only [Act.put, List.setIfInBounds_toArray, List.set_cons_zero, List.set_cons_succ]
              refine wpAnyH_take (i := 2) (oi := { dst := some 28, op := Op.move (Operand.tmp 6), type := 3, pos := _, after := #[], guard := none }) (v := ?_) rfl (by kernel_rfl) (by kernel_rfl) (by kernel_rfl) (fun _ _ _ h => h) (Or.inl ⟨by rfl, ?_⟩) (by assumption) ?_
              rotate_left
              · intro w hSw; (try dsimp only at hSw); go_simp; (try with_reducible rfl)
              try simp only [Act.put, List.setIfInBounds_toArray, List.set_cons_zero, List.set_cons_succ]
              refine wpAnyH_take (i := 3) (oi := { dst := some 29, op := Op.indexAddr 22 (Operand.tmp 27) (Operand.tmp 28), type := 0, pos := _, after := #[{ on := 1, ground := Ground.data }, { on := 2, ground := Ground.data }], guard := none }) (v := ?_) rfl (by kernel_rfl) (by kernel_rfl) (by kernel_rfl) (fun _ _ _ h => h) (Or.inl ⟨by rfl, ?_⟩) (by assumption) ?_
              rotate_left
              · intro w hSw; (try dsimp only at hSw); go_simp; (try with_reducible rfl)
              try simp only [Act.put, List.setIfInBounds_toArray, List.set_cons_zero, List.set_cons_succ]
              refine wpAnyH_take (i := 4) (oi := { dst := some 30, op := Op.fieldAddr 53 (Operand.tmp 29) 2, type := 0, pos := _, after := #[{ on := 3, ground := Ground.data }], guard := none }) (v := ?_) rfl (by kernel_rfl) (by kernel_rfl) (by kernel_rfl) (fun _ _ _ h => h) (Or.inl ⟨by rfl, ?_⟩) (by assumption) ?_
              rotate_left
              · intro w hSw; (try dsimp only at hSw); go_simp; (try with_reducible rfl)
              try simp only [Act.put, List.setIfInBounds_toArray, List.set_cons_zero, List.set_cons_succ]
              refine wpAnyH_take (i := 5) (oi := { dst := some 31, op := Op.load 4 (Operand.tmp 30), type := 4, pos := _, after := #[{ on := 4, ground := Ground.data }], guard := none }) (v := ?_) rfl (by kernel_rfl) (by kernel_rfl) (by kernel_rfl) (fun _ _ _ h => h) (Or.inl ⟨by rfl, ?_⟩) (by assumption) ?_
              rotate_left
              · intro w hSw; (try dsimp only at hSw); go_simp; (try with_reducible rfl)
              try simp only [Act.put, List.setIfInBounds_toArray, List.set_cons_zero, List.set_cons_succ]
              refine wpAnyH_take (i := 6) (oi := { dst := some 32, op := Op.unOp UnOp.not 4 (Operand.tmp 31), type := 4, pos := _, after := #[{ on := 5, ground := Ground.data }], guard := none }) (v := ?_) rfl (by kernel_rfl) (by kernel_rfl) (by kernel_rfl) (fun _ _ _ h => h) (Or.inl ⟨by rfl, ?_⟩) (by assumption) ?_
              rotate_left
              · intro w hSw; (try dsimp only at hSw); go_simp; (try with_reducible rfl)
              try simp only [Act.put, List.setIfInBounds_toArray, List.set_cons_zero, List.set_cons_succ]
              refine wpAnyH_take (i := 7) (oi := { dst := some 33, op := Op.move (Operand.tmp 32), type := 4, pos := _, after := #[{ on := 6, ground := Ground.data }], guard := none }) (v := ?_) rfl (by kernel_rfl) (by kernel_rfl) (by kernel_rfl) (fun _ _ _ h => h) (Or.inl ⟨by rfl, ?_⟩) (by assumption) ?_
              rotate_left
              · intro w hSw; (try dsimp only at hSw); go_simp; (try with_reducible rfl)
              try simp only [Act.put, List.setIfInBounds_toArray, List.set_cons_zero, List.set_cons_succ]
              refine wpAnyH_take (i := 8) (oi := { dst := some 34, op := Op.load 30 (Operand.tmp 2), type := 30, pos := _, after := #[{ on := 7, ground := Ground.guard }], guard := some (7, true) }) (v := undef) rfl (by kernel_rfl) (by kernel_rfl) (by kernel_rfl) (fun _ _ _ h => h) (Or.inr ⟨by rfl, rfl⟩) (by assumption) ?_
              try simp only [Act.put, List.setIfInBounds_toArray, List.set_cons_zero, List.set_cons_succ]
              refine wpAnyH_take (i := 9) (oi := { dst := some 35, op := Op.fieldAddr 30 (Operand.tmp 2) 0, type := 0, pos := _, after := #[{ on := 7, ground := Ground.guard }], guard := some (7, true) }) (v := undef) rfl (by kernel_rfl) (by kernel_rfl) (by kernel_rfl) (fun _ _ _ h => h) (Or.inr ⟨by rfl, rfl⟩) (by assumption) ?_
              try simp only [Act.put, List.setIfInBounds_toArray, List.set_cons_zero, List.set_cons_succ]
              refine wpAnyH_take (i := 10) (oi := { dst := some 36, op := Op.load 22 (Operand.tmp 35), type := 22, pos := _, after := #[{ on := 9, ground := Ground.data }, { on := 7, ground := Ground.guard }], guard := some (7, true) }) (v := undef) rfl (by kernel_rfl) (by kernel_rfl) (by kernel_rfl) (fun _ _ _ h => h) (Or.inr ⟨by rfl, rfl⟩) (by assumption) ?_
              try simp only [Act.put, List.setIfInBounds_toArray, List.set_cons_zero, List.set_cons_succ]
              refine wpAnyH_take (i := 11) (oi := { dst := some 37, op := Op.move (Operand.tmp 6), type := 3, pos := _, after := #[{ on := 7, ground := Ground.guard }], guard := some (7, true) }) (v := undef) rfl (by kernel_rfl) (by kernel_rfl) (by kernel_rfl) (fun _ _ _ h => h) (Or.inr ⟨by rfl, rfl⟩) (by assumption) ?_
              try simp only [Act.put, List.setIfInBounds_toArray, List.set_cons_zero, List.set_cons_succ]
              refine wpAnyH_take (i := 12) (oi := { dst := some 38, op := Op.indexAddr 22 (Operand.tmp 36) (Operand.tmp 37), type := 0, pos := _, after := #[{ on := 10, ground := Ground.data }, { on := 11, ground := Ground.data }, { on := 7, ground := Ground.guard }], guard := some (7, true) }) (v := undef) rfl (by kernel_rfl) (by kernel_rfl) (by kernel_rfl) (fun _ _ _ h => h) (Or.inr ⟨by rfl, rfl⟩) (by assumption) ?_
              try simp only [Act.put, List.setIfInBounds_toArray, List.set_cons_zero, List.set_cons_succ]
              refine wpAnyH_take (i := 13) (oi := { dst := some 39, op := Op.fieldAddr 53 (Operand.tmp 38) 0, type := 0, pos := _, after := #[{ on := 12, ground := Ground.data }, { on := 7, ground := Ground.guard }], guard := some (7, true) }) (v := undef) rfl (by kernel_rfl) (by kernel_rfl) (by kernel_rfl) (fun _ _ _ h => h) (Or.inr ⟨by rfl, rfl⟩) (by assumption) ?_
              try simp only [Act.put, List.setIfInBounds_toArray, List.set_cons_zero, List.set_cons_succ]
              refine wpAnyH_take (i := 14) (oi := { dst := some 40, op := Op.load 9 (Operand.tmp 39), type := 9, pos := _, after := #[{ on := 13, ground := Ground.data }, { on := 7, ground := Ground.guard }], guard := some (7, true) }) (v := undef) rfl (by kernel_rfl) (by kernel_rfl) (by kernel_rfl) (fun _ _ _ h => h) (Or.inr ⟨by rfl, rfl⟩) (by assumption) ?_
              try simp only [Act.put, List.setIfInBounds_toArray, List.set_cons_zero, List.set_cons_succ]
              refine wpAnyH_take (i := 15) (oi := { dst := some 41, op := Op.move (Operand.tmp 1), type := 9, pos := _, after := #[{ on := 7, ground := Ground.guard }], guard := some (7, true) }) (v := undef) rfl (by kernel_rfl) (by kernel_rfl) (by kernel_rfl) (fun _ _ _ h => h) (Or.inr ⟨by rfl, rfl⟩) (by assumption) ?_
              try simp only [Act.put, List.setIfInBounds_toArray, List.set_cons_zero, List.set_cons_succ]
              refine wpAnyH_take (i := 16) (oi := { dst := some 42, op := Op.call { callee := Callee.value (Operand.func 16), args := #[Operand.tmp 34, Operand.tmp 40, Operand.tmp 41], argTypes := #[30, 9, 9] }, type := 4, pos := _, after := #[{ on := 8, ground := Ground.data }, { on := 14, ground := Ground.data }, { on := 15, ground := Ground.data }, { on := 7, ground := Ground.chain }, { on := 7, ground := Ground.guard }], guard := some (7, true) }) (v := undef) rfl (by kernel_rfl) (by kernel_rfl) (by kernel_rfl) (fun _ _ _ h => h) (Or.inr ⟨by rfl, rfl⟩) (by assumption) ?_
              try simp only [Act.put, List.setIfInBounds_toArray, List.set_cons_zero, List.set_cons_succ]
              refine wpAnyH_take (i := 17) (oi := { dst := some 43, op := Op.pick (Operand.tmp 33) (Operand.tmp 42) (Operand.const (Value.bool false)), type := 4, pos := _, after := #[{ on := 7, ground := Ground.data }, { on := 16, ground := Ground.data }], guard := none }) (v := ?_) rfl (by kernel_rfl) (by kernel_rfl) (by kernel_rfl) (fun _ _ _ h => h) (Or.inl ⟨by rfl, ?_⟩) (by assumption) ?_
              rotate_left
              · intro w hSw; (try dsimp only at hSw); go_simp; (try with_reducible rfl)
              try simp only [Act.put, List.setIfInBounds_toArray, List.set_cons_zero, List.set_cons_succ]
              refine wpAnyH_done (by kernel_rfl) ?_ _
              go_wp2_with fail
              go_roundw
              case rel => exact ⟨k + 1, by omega, by go_num, Lib.hid ⟨by rw [HN2.out]; exact HK.out.1.turn' ((Turn.refl [] wr).drew), HK.out.2.1, HK.out.2.2.trans' ((Turn.refl [] wr).drew)⟩⟩
              case measure => simp [intOf]; omega
          | false => cases bv with
              | false =>
                have HN2 : Hid (lstC l j (k + 1) = lstC l j k) := Lib.hid (by rw [HNX.out]; simp)
                refine wp_region_held_drew (S := fun w' => w'.cell? ⟨r, 0, none⟩ = some (.slice (some ⟨kb, koff, none⟩) n c) ∧ w'.cell? ⟨r, 1, none⟩ = some m0 ∧ w'.cell? ⟨r, 2, none⟩ = some m1 ∧ w'.cell? ⟨r, 3, none⟩ = some m2 ∧ w'.cell? ⟨r, 4, none⟩ = some m3 ∧ w'.cell? ⟨r, 5, none⟩ = some m4 ∧ w'.cell? ⟨r, 6, none⟩ = some m5 ∧ w'.cell? ⟨r, 7, none⟩ = some m6 ∧ w'.cell? ⟨r, 8, none⟩ = some m7 ∧ w'.cell? ⟨r, 9, none⟩ = some m8 ∧ w'.cell? ⟨kb, koff + k * 10, none⟩ = some (.string kn) ∧ w'.cell? ⟨kb, koff + k * 10 + 2, none⟩ = some (.bool false)) (by kernel_rfl) ?_ (fun hHeld => ?_)
                · exact HSS.out _ (Turn.refl [] wr).drew
                refine wpAnyH_take (i := 0) (oi := { dst := some 26, op := Op.fieldAddr 30 (Operand.tmp 2) 0, type := 0, pos := _, after := #[], guard := none }) (v := ?_) rfl (by kernel_rfl) (by kernel_rfl) (by kernel_rfl) (fun _ _ _ h => h) (Or.inl ⟨by rfl, ?_⟩) (by assumption) ?_
                rotate_left
                · intro w hSw; (try dsimp only at hSw); go_simp; (try with_reducible rfl)
                try simp only [Act.put, List.setIfInBounds_toArray, List.set_cons_zero, List.set_cons_succ]
                refine wpAnyH_take (i := 1) (oi := { dst := some 27, op := Op.load 22 (Operand.tmp 26), type := 22, pos := _, after := #[{ on := 0, ground := Ground.data }], guard := none }) (v := ?_) rfl (by kernel_rfl) (by kernel_rfl) (by kernel_rfl) (fun _ _ _ h => h) (Or.inl ⟨by rfl, ?_⟩) (by assumption) ?_
                rotate_left
                · intro w hSw; (try dsimp only at hSw); go_simp; (try with_reducible rfl)
                try simp only [Act.put, List.setIfInBounds_toArray, List.set_cons_zero, List.set_cons_succ]
                refine wpAnyH_take (i := 2) (oi := { dst := some 28, op := Op.move (Operand.tmp 6), type := 3, pos := _, after := #[], guard := none }) (v := ?_) rfl (by kernel_rfl) (by kernel_rfl) (by kernel_rfl) (fun _ _ _ h => h) (Or.inl ⟨by rfl, ?_⟩) (by assumption) ?_
                rotate_left
                · intro w hSw; (try dsimp only at hSw); go_simp; (try with_reducible rfl)
                try simp only [Act.put, List.setIfInBounds_toArray, List.set_cons_zero, List.set_cons_succ]
                refine wpAnyH_take (i := 3) (oi := { dst := some 29, op := Op.indexAddr 22 (Operand.tmp 27) (Operand.tmp 28), type := 0, pos := _, after := #[{ on := 1, ground := Ground.data }, { on := 2, ground := Ground.data }], guard := none }) (v := ?_) rfl (by kernel_rfl) (by kernel_rfl) (by kernel_rfl) (fun _ _ _ h => h) (Or.inl ⟨by rfl, ?_⟩) (by assumption) ?_
                rotate_left
                · intro w hSw; (try dsimp only at hSw); go_simp; (try with_reducible rfl)
                try simp only [Act.put, List.setIfInBounds_toArray, List.set_cons_zero, List.set_cons_succ]
                refine wpAnyH_take (i := 4) (oi := { dst := some 30, op := Op.fieldAddr 53 (Operand.tmp 29) 2, type := 0, pos := _, after := #[{ on := 3, ground := Ground.data }], guard := none }) (v := ?_) rfl (by kernel_rfl) (by kernel_rfl) (by kernel_rfl) (fun _ _ _ h => h) (Or.inl ⟨by rfl, ?_⟩) (by assumption) ?_
                rotate_left
                · intro w hSw; (try dsimp only at hSw); go_simp; (try with_reducible rfl)
                try simp only [Act.put, List.setIfInBounds_toArray, List.set_cons_zero, List.set_cons_succ]
                refine wpAnyH_take (i := 5) (oi := { dst := some 31, op := Op.load 4 (Operand.tmp 30), type := 4, pos := _, after := #[{ on := 4, ground := Ground.data }], guard := none }) (v := ?_) rfl (by kernel_rfl) (by kernel_rfl) (by kernel_rfl) (fun _ _ _ h => h) (Or.inl ⟨by rfl, ?_⟩) (by assumption) ?_
                rotate_left
                · intro w hSw; (try dsimp only at hSw); go_simp; (try with_reducible rfl)
                try simp only [Act.put, List.setIfInBounds_toArray, List.set_cons_zero, List.set_cons_succ]
                refine wpAnyH_take (i := 6) (oi := { dst := some 32, op := Op.unOp UnOp.not 4 (Operand.tmp 31), type := 4, pos := _, after := #[{ on := 5, ground := Ground.data }], guard := none }) (v := ?_) rfl (by kernel_rfl) (by kernel_rfl) (by kernel_rfl) (fun _ _ _ h => h) (Or.inl ⟨by rfl, ?_⟩) (by assumption) ?_
                rotate_left
                · intro w hSw; (try dsimp only at hSw); go_simp; (try with_reducible rfl)
                try simp only [Act.put, List.setIfInBounds_toArray, List.set_cons_zero, List.set_cons_succ]
                refine wpAnyH_take (i := 7) (oi := { dst := some 33, op := Op.move (Operand.tmp 32), type := 4, pos := _, after := #[{ on := 6, ground := Ground.data }], guard := none }) (v := ?_) rfl (by kernel_rfl) (by kernel_rfl) (by kernel_rfl) (fun _ _ _ h => h) (Or.inl ⟨by rfl, ?_⟩) (by assumption) ?_
                rotate_left
                · intro w hSw; (try dsimp only at hSw); go_simp; (try with_reducible rfl)
                try simp only [Act.put, List.setIfInBounds_toArray, List.set_cons_zero, List.set_cons_succ]
                refine wpAnyH_take (i := 8) (oi := { dst := some 34, op := Op.load 30 (Operand.tmp 2), type := 30, pos := _, after := #[{ on := 7, ground := Ground.guard }], guard := some (7, true) }) (v := ?_) rfl (by kernel_rfl) (by kernel_rfl) (by kernel_rfl) (fun _ _ _ h => h) (Or.inl ⟨by rfl, ?_⟩) (by assumption) ?_
                rotate_left
                · intro w hSw; (try dsimp only at hSw); go_simp; (try with_reducible rfl)
                try simp only [Act.put, List.setIfInBounds_toArray, List.set_cons_zero, List.set_cons_succ]
                refine wpAnyH_take (i := 9) (oi := { dst := some 35, op := Op.fieldAddr 30 (Operand.tmp 2) 0, type := 0, pos := _, after := #[{ on := 7, ground := Ground.guard }], guard := some (7, true) }) (v := ?_) rfl (by kernel_rfl) (by kernel_rfl) (by kernel_rfl) (fun _ _ _ h => h) (Or.inl ⟨by rfl, ?_⟩) (by assumption) ?_
                rotate_left
                · intro w hSw; (try dsimp only at hSw); go_simp; (try with_reducible rfl)
                try simp only [Act.put, List.setIfInBounds_toArray, List.set_cons_zero, List.set_cons_succ]
                refine wpAnyH_take (i := 10) (oi := { dst := some 36, op := Op.load 22 (Operand.tmp 35), type := 22, pos := _, after := #[{ on := 9, ground := Ground.data }, { on := 7, ground := Ground.guard }], guard := some (7, true) }) (v := ?_) rfl (by kernel_rfl) (by kernel_rfl) (by kernel_rfl) (fun _ _ _ h => h) (Or.inl ⟨by rfl, ?_⟩) (by assumption) ?_
                rotate_left
                · intro w hSw; (try dsimp only at hSw); go_simp; (try with_reducible rfl)
                try simp only [Act.put, List.setIfInBounds_toArray, List.set_cons_zero, List.set_cons_succ]
                refine wpAnyH_take (i := 11) (oi := { dst := some 37, op := Op.move (Operand.tmp 6), type := 3, pos := _, after := #[{ on := 7, ground := Ground.guard }], guard := some (7, true) }) (v := ?_) rfl (by kernel_rfl) (by kernel_rfl) (by kernel_rfl) (fun _ _ _ h => h) (Or.inl ⟨by rfl, ?_⟩) (by assumption) ?_
                rotate_left
                · intro w hSw; (try dsimp only at hSw); go_simp; (try with_reducible rfl)
                try simp only [Act.put, List.setIfInBounds_toArray, List.set_cons_zero, List.set_cons_succ]
                refine wpAnyH_take (i := 12) (oi := { dst := some 38, op := Op.indexAddr 22 (Operand.tmp 36) (Operand.tmp 37), type := 0, pos := _, after := #[{ on := 10, ground := Ground.data }, { on := 11, ground := Ground.data }, { on := 7, ground := Ground.guard }], guard := some (7, true) }) (v := ?_) rfl (by kernel_rfl) (by kernel_rfl) (by kernel_rfl) (fun _ _ _ h => h) (Or.inl ⟨by rfl, ?_⟩) (by assumption) ?_
                rotate_left
                · intro w hSw; (try dsimp only at hSw); go_simp; (try with_reducible rfl)
                try simp only [Act.put, List.setIfInBounds_toArray, List.set_cons_zero, List.set_cons_succ]
                refine wpAnyH_take (i := 13) (oi := { dst := some 39, op := Op.fieldAddr 53 (Operand.tmp 38) 0, type := 0, pos := _, after := #[{ on := 12, ground := Ground.data }, { on := 7, ground := Ground.guard }], guard := some (7, true) }) (v := ?_) rfl (by kernel_rfl) (by kernel_rfl) (by kernel_rfl) (fun _ _ _ h => h) (Or.inl ⟨by rfl, ?_⟩) (by assumption) ?_
                rotate_left
                · intro w hSw; (try dsimp only at hSw); go_simp; (try with_reducible rfl)
                try simp only [Act.put, List.setIfInBounds_toArray, List.set_cons_zero, List.set_cons_succ]
                refine wpAnyH_take (i := 14) (oi := { dst := some 40, op := Op.load 9 (Operand.tmp 39), type := 9, pos := _, after := #[{ on := 13, ground := Ground.data }, { on := 7, ground := Ground.guard }], guard := some (7, true) }) (v := ?_) rfl (by kernel_rfl) (by kernel_rfl) (by kernel_rfl) (fun _ _ _ h => h) (Or.inl ⟨by rfl, ?_⟩) (by assumption) ?_
                rotate_left
                · intro w hSw; (try dsimp only at hSw); go_simp; (try with_reducible rfl)
                try simp only [Act.put, List.setIfInBounds_toArray, List.set_cons_zero, List.set_cons_succ]
                refine wpAnyH_take (i := 15) (oi := { dst := some 41, op := Op.move (Operand.tmp 1), type := 9, pos := _, after := #[{ on := 7, ground := Ground.guard }], guard := some (7, true) }) (v := ?_) rfl (by kernel_rfl) (by kernel_rfl) (by kernel_rfl) (fun _ _ _ h => h) (Or.inl ⟨by rfl, ?_⟩) (by assumption) ?_
                rotate_left
                · intro w hSw; (try dsimp only at hSw); go_simp; (try with_reducible rfl)
                try simp only [Act.put, List.setIfInBounds_toArray, List.set_cons_zero, List.set_cons_succ]
                refine wpAnyH_ready (rs := [16]) (by kernel_rfl) (by simp) ?_
                refine AllReadyH.cons (o := { dst := some 42, op := Op.call { callee := Callee.value (Operand.func 16), args := #[Operand.tmp 34, Operand.tmp 40, Operand.tmp 41], argTypes := #[30, 9, 9] }, type := 4, pos := _, after := #[{ on := 8, ground := Ground.data }, { on := 14, ground := Ground.data }, { on := 15, ground := Ground.data }, { on := 7, ground := Ground.chain }, { on := 7, ground := Ground.guard }], guard := some (7, true) }) rfl (fun K hK => ?_) AllReadyH.nil
                go_simp
                go_at_call 16
                (with_reducible refine (HBl.out wr.drew (HK.out.2.2.trans' ((Turn.refl [] wr).drew))).mono ?_)
                rintro e w11 ⟨rfl, t11⟩
                have HT11 := Lib.hid (((Turn.refl [] wr).drew).trans' t11)
                clear t11
                try go_wp2_with fail
                refine hK.out _ _ ?_ (fun hHeld => ?_)
                · exact HSS.out _ (HT11.out)
                clear hK K
                try simp only [Act.put, List.setIfInBounds_toArray, List.set_cons_zero, List.set_cons_succ]
                refine wpAnyH_take (i := 17) (oi := { dst := some 43, op := Op.pick (Operand.tmp 33) (Operand.tmp 42) (Operand.const (Value.bool false)), type := 4, pos := _, after := #[{ on := 7, ground := Ground.data }, { on := 16, ground := Ground.data }], guard := none }) (v := ?_) rfl (by kernel_rfl) (by kernel_rfl) (by kernel_rfl) (fun _ _ _ h => h) (Or.inl ⟨by rfl, ?_⟩) (by assumption) ?_
                rotate_left
                · intro w hSw; (try dsimp only at hSw); go_simp; (try with_reducible rfl)
                try simp only [Act.put, List.setIfInBounds_toArray, List.set_cons_zero, List.set_cons_succ]
                refine wpAnyH_done (by kernel_rfl) ?_ _
                go_wp2_with fail
                go_roundw
                case rel => exact ⟨k + 1, by omega, by go_num, Lib.hid ⟨by rw [HN2.out]; exact HK.out.1.turn' (HT11.out), HK.out.2.1, HK.out.2.2.trans' (HT11.out)⟩⟩
                case measure => simp [intOf]; omega
              | true =>
                have HN2 : Hid (lstC l j (k + 1) = lstC l j k ++ [kn]) := Lib.hid (by rw [HNX.out]; simp)
                refine wp_region_held_drew (S := fun w' => w'.cell? ⟨r, 0, none⟩ = some (.slice (some ⟨kb, koff, none⟩) n c) ∧ w'.cell? ⟨r, 1, none⟩ = some m0 ∧ w'.cell? ⟨r, 2, none⟩ = some m1 ∧ w'.cell? ⟨r, 3, none⟩ = some m2 ∧ w'.cell? ⟨r, 4, none⟩ = some m3 ∧ w'.cell? ⟨r, 5, none⟩ = some m4 ∧ w'.cell? ⟨r, 6, none⟩ = some m5 ∧ w'.cell? ⟨r, 7, none⟩ = some m6 ∧ w'.cell? ⟨r, 8, none⟩ = some m7 ∧ w'.cell? ⟨r, 9, none⟩ = some m8 ∧ w'.cell? ⟨kb, koff + k * 10, none⟩ = some (.string kn) ∧ w'.cell? ⟨kb, koff + k * 10 + 2, none⟩ = some (.bool false)) (by kernel_rfl) ?_ (fun hHeld => ?_)
                · exact HSS.out _ (Turn.refl [] wr).drew
                refine wpAnyH_take (i := 0) (oi := { dst := some 26, op := Op.fieldAddr 30 (Operand.tmp 2) 0, type := 0, pos := _, after := #[], guard := none }) (v := ?_) rfl (by kernel_rfl) (by kernel_rfl) (by kernel_rfl) (fun _ _ _ h => h) (Or.inl ⟨by rfl, ?_⟩) (by assumption) ?_
                rotate_left
                · intro w hSw; (try dsimp only at hSw); go_simp; (try with_reducible rfl)
                try simp only [Act.put, List.setIfInBounds_toArray, List.set_cons_zero, List.set_cons_succ]
                refine wpAnyH_take (i := 1) (oi := { dst := some 27, op := Op.load 22 (Operand.tmp 26), type := 22, pos := _, after := #[{ on := 0, ground := Ground.data }], guard := none }) (v := ?_) rfl (by kernel_rfl) (by kernel_rfl) (by kernel_rfl) (fun _ _ _ h => h) (Or.inl ⟨by rfl, ?_⟩) (by assumption) ?_
                rotate_left
                · intro w hSw; (try dsimp only at hSw); go_simp; (try with_reducible rfl)
                try simp only [Act.put, List.setIfInBounds_toArray, List.set_cons_zero, List.set_cons_succ]
                refine wpAnyH_take (i := 2) (oi := { dst := some 28, op := Op.move (Operand.tmp 6), type := 3, pos := _, after := #[], guard := none }) (v := ?_) rfl (by kernel_rfl) (by kernel_rfl) (by kernel_rfl) (fun _ _ _ h => h) (Or.inl ⟨by rfl, ?_⟩) (by assumption) ?_
                rotate_left
                · intro w hSw; (try dsimp only at hSw); go_simp; (try with_reducible rfl)
                try simp only [Act.put, List.setIfInBounds_toArray, List.set_cons_zero, List.set_cons_succ]
                refine wpAnyH_take (i := 3) (oi := { dst := some 29, op := Op.indexAddr 22 (Operand.tmp 27) (Operand.tmp 28), type := 0, pos := _, after := #[{ on := 1, ground := Ground.data }, { on := 2, ground := Ground.data }], guard := none }) (v := ?_) rfl (by kernel_rfl) (by kernel_rfl) (by kernel_rfl) (fun _ _ _ h => h) (Or.inl ⟨by rfl, ?_⟩) (by assumption) ?_
                rotate_left
                · intro w hSw; (try dsimp only at hSw); go_simp; (try with_reducible rfl)
                try simp only [Act.put, List.setIfInBounds_toArray, List.set_cons_zero, List.set_cons_succ]
                refine wpAnyH_take (i := 4) (oi := { dst := some 30, op := Op.fieldAddr 53 (Operand.tmp 29) 2, type := 0, pos := _, after := #[{ on := 3, ground := Ground.data }], guard := none }) (v := ?_) rfl (by kernel_rfl) (by kernel_rfl) (by kernel_rfl) (fun _ _ _ h => h) (Or.inl ⟨by rfl, ?_⟩) (by assumption) ?_
                rotate_left
                · intro w hSw; (try dsimp only at hSw); go_simp; (try with_reducible rfl)
                try simp only [Act.put, List.setIfInBounds_toArray, List.set_cons_zero, List.set_cons_succ]
                refine wpAnyH_take (i := 5) (oi := { dst := some 31, op := Op.load 4 (Operand.tmp 30), type := 4, pos := _, after := #[{ on := 4, ground := Ground.data }], guard := none }) (v := ?_) rfl (by kernel_rfl) (by kernel_rfl) (by kernel_rfl) (fun _ _ _ h => h) (Or.inl ⟨by rfl, ?_⟩) (by assumption) ?_
                rotate_left
                · intro w hSw; (try dsimp only at hSw); go_simp; (try with_reducible rfl)
                try simp only [Act.put, List.setIfInBounds_toArray, List.set_cons_zero, List.set_cons_succ]
                refine wpAnyH_take (i := 6) (oi := { dst := some 32, op := Op.unOp UnOp.not 4 (Operand.tmp 31), type := 4, pos := _, after := #[{ on := 5, ground := Ground.data }], guard := none }) (v := ?_) rfl (by kernel_rfl) (by kernel_rfl) (by kernel_rfl) (fun _ _ _ h => h) (Or.inl ⟨by rfl, ?_⟩) (by assumption) ?_
                rotate_left
                · intro w hSw; (try dsimp only at hSw); go_simp; (try with_reducible rfl)
                try simp only [Act.put, List.setIfInBounds_toArray, List.set_cons_zero, List.set_cons_succ]
                refine wpAnyH_take (i := 7) (oi := { dst := some 33, op := Op.move (Operand.tmp 32), type := 4, pos := _, after := #[{ on := 6, ground := Ground.data }], guard := none }) (v := ?_) rfl (by kernel_rfl) (by kernel_rfl) (by kernel_rfl) (fun _ _ _ h => h) (Or.inl ⟨by rfl, ?_⟩) (by assumption) ?_
                rotate_left
                · intro w hSw; (try dsimp only at hSw); go_simp; (try with_reducible rfl)
                try simp only [Act.put, List.setIfInBounds_toArray, List.set_cons_zero, List.set_cons_succ]
                refine wpAnyH_take (i := 8) (oi := { dst := some 34, op := Op.load 30 (Operand.tmp 2), type := 30, pos := _, after := #[{ on := 7, ground := Ground.guard }], guard := some (7, true) }) (v := ?_) rfl (by kernel_rfl) (by kernel_rfl) (by kernel_rfl) (fun _ _ _ h => h) (Or.inl ⟨by rfl, ?_⟩) (by assumption) ?_
                rotate_left
                · intro w hSw; (try dsimp only at hSw); go_simp; (try with_reducible rfl)
                try simp only [Act.put, List.setIfInBounds_toArray, List.set_cons_zero, List.set_cons_succ]
                refine wpAnyH_take (i := 9) (oi := { dst := some 35, op := Op.fieldAddr 30 (Operand.tmp 2) 0, type := 0, pos := _, after := #[{ on := 7, ground := Ground.guard }], guard := some (7, true) }) (v := ?_) rfl (by kernel_rfl) (by kernel_rfl) (by kernel_rfl) (fun _ _ _ h => h) (Or.inl ⟨by rfl, ?_⟩) (by assumption) ?_
                rotate_left
                · intro w hSw; (try dsimp only at hSw); go_simp; (try with_reducible rfl)
                try simp only [Act.put, List.setIfInBounds_toArray, List.set_cons_zero, List.set_cons_succ]
                refine wpAnyH_take (i := 10) (oi := { dst := some 36, op := Op.load 22 (Operand.tmp 35), type := 22, pos := _, after := #[{ on := 9, ground := Ground.data }, { on := 7, ground := Ground.guard }], guard := some (7, true) }) (v := ?_) rfl (by kernel_rfl) (by kernel_rfl) (by kernel_rfl) (fun _ _ _ h => h) (Or.inl ⟨by rfl, ?_⟩) (by assumption) ?_
                rotate_left
                · intro w hSw; (try dsimp only at hSw); go_simp; (try with_reducible rfl)
                try simp only [Act.put, List.setIfInBounds_toArray, List.set_cons_zero, List.set_cons_succ]
                refine wpAnyH_take (i := 11) (oi := { dst := some 37, op := Op.move (Operand.tmp 6), type := 3, pos := _, after := #[{ on := 7, ground := Ground.guard }], guard := some (7, true) }) (v := ?_) rfl (by kernel_rfl) (by kernel_rfl) (by kernel_rfl) (fun _ _ _ h => h) (Or.inl ⟨by rfl, ?_⟩) (by assumption) ?_
                rotate_left
                · intro w hSw; (try dsimp only at hSw); go_simp; (try with_reducible rfl)
                try simp only [Act.put, List.setIfInBounds_toArray, List.set_cons_zero, List.set_cons_succ]
                refine wpAnyH_take (i := 12) (oi := { dst := some 38, op := Op.indexAddr 22 (Operand.tmp 36) (Operand.tmp 37), type := 0, pos := _, after := #[{ on := 10, ground := Ground.data }, { on := 11, ground := Ground.data }, { on := 7, ground := Ground.guard }], guard := some (7, true) }) (v := ?_) rfl (by kernel_rfl) (by kernel_rfl) (by kernel_rfl) (fun _ _ _ h => h) (Or.inl ⟨by rfl, ?_⟩) (by assumption) ?_
                rotate_left
                · intro w hSw; (try dsimp only at hSw); go_simp; (try with_reducible rfl)
                try simp only [Act.put, List.setIfInBounds_toArray, List.set_cons_zero, List.set_cons_succ]
                refine wpAnyH_take (i := 13) (oi := { dst := some 39, op := Op.fieldAddr 53 (Operand.tmp 38) 0, type := 0, pos := _, after := #[{ on := 12, ground := Ground.data }, { on := 7, ground := Ground.guard }], guard := some (7, true) }) (v := ?_) rfl (by kernel_rfl) (by kernel_rfl) (by kernel_rfl) (fun _ _ _ h => h) (Or.inl ⟨by rfl, ?_⟩) (by assumption) ?_
                rotate_left
                · intro w hSw; (try dsimp only at hSw); go_simp; (try with_reducible rfl)
                try simp only [Act.put, List.setIfInBounds_toArray, List.set_cons_zero, List.set_cons_succ]
                refine wpAnyH_take (i := 14) (oi := { dst := some 40, op := Op.load 9 (Operand.tmp 39), type := 9, pos := _, after := #[{ on := 13, ground := Ground.data }, { on := 7, ground := Ground.guard }], guard := some (7, true) }) (v := ?_) rfl (by kernel_rfl) (by kernel_rfl) (by kernel_rfl) (fun _ _ _ h => h) (Or.inl ⟨by rfl, ?_⟩) (by assumption) ?_
                rotate_left
                · intro w hSw; (try dsimp only at hSw); go_simp; (try with_reducible rfl)
                try simp only [Act.put, List.setIfInBounds_toArray, List.set_cons_zero, List.set_cons_succ]
                refine wpAnyH_take (i := 15) (oi := { dst := some 41, op := Op.move (Operand.tmp 1), type := 9, pos := _, after := #[{ on := 7, ground := Ground.guard }], guard := some (7, true) }) (v := ?_) rfl (by kernel_rfl) (by kernel_rfl) (by kernel_rfl) (fun _ _ _ h => h) (Or.inl ⟨by rfl, ?_⟩) (by assumption) ?_
                rotate_left
                · intro w hSw; (try dsimp only at hSw); go_simp; (try with_reducible rfl)
                try simp only [Act.put, List.setIfInBounds_toArray, List.set_cons_zero, List.set_cons_succ]
                refine wpAnyH_ready (rs := [16]) (by kernel_rfl) (by simp) ?_
                refine AllReadyH.cons (o := { dst := some 42, op := Op.call { callee := Callee.value (Operand.func 16), args := #[Operand.tmp 34, Operand.tmp 40, Operand.tmp 41], argTypes := #[30, 9, 9] }, type := 4, pos := _, after := #[{ on := 8, ground := Ground.data }, { on := 14, ground := Ground.data }, { on := 15, ground := Ground.data }, { on := 7, ground := Ground.chain }, { on := 7, ground := Ground.guard }], guard := some (7, true) }) rfl (fun K hK => ?_) AllReadyH.nil
                go_simp
                go_at_call 16
                (with_reducible refine (HBl.out wr.drew (HK.out.2.2.trans' ((Turn.refl [] wr).drew))).mono ?_)
                rintro e w11 ⟨rfl, t11⟩
                have HT11 := Lib.hid (((Turn.refl [] wr).drew).trans' t11)
                clear t11
                try go_wp2_with fail
                refine hK.out _ _ ?_ (fun hHeld => ?_)
                · exact HSS.out _ (HT11.out)
                clear hK K
                try simp only [Act.put, List.setIfInBounds_toArray, List.set_cons_zero, List.set_cons_succ]
                refine wpAnyH_take (i := 17) (oi := { dst := some 43, op := Op.pick (Operand.tmp 33) (Operand.tmp 42) (Operand.const (Value.bool false)), type := 4, pos := _, after := #[{ on := 7, ground := Ground.data }, { on := 16, ground := Ground.data }], guard := none }) (v := ?_) rfl (by kernel_rfl) (by kernel_rfl) (by kernel_rfl) (fun _ _ _ h => h) (Or.inl ⟨by rfl, ?_⟩) (by assumption) ?_
                rotate_left
                · intro w hSw; (try dsimp only at hSw); go_simp; (try with_reducible rfl)
                try simp only [Act.put, List.setIfInBounds_toArray, List.set_cons_zero, List.set_cons_succ]
                refine wpAnyH_done (by kernel_rfl) ?_ _
                have HTA : Hid (Turn [] wr (w11.alloc (.cells #[.string kn] 9))) := Lib.hid ((HT11.out).alloc _)
                have cp := HP.out w11 (HK.out.2.2.trans' (HT11.out)) 0 _ rfl
                have cn := (HSS.out w11 (HT11.out)).2.2.2.2.2.2.2.2.2.2.1
                go_wp2_with (at_builtin
                             refine wpList_appR rfl (.tmp 44) (.tmp 51) 47 rfl (w11.alloc (.cells #[.string kn] 9)) 9 (.string ⟨#[]⟩) 1 16 Tryz.underlying47 rfl rfl (by omega) u5 (lstC l j k).length ((lstC l j k).map Value.string) rfl (HK.out.1.turn' HTA.out) (some ⟨w11.heap.size, 0, none⟩) 1 1 [.string kn] rfl (rws_str _ _ _) (by simp [Value.oneCell']) (by unfold maxLen; omega) (by omega) ?_
                             intro v6 w6 ho6 t6 hb6
                             have HO6 := Lib.hid (And.intro ho6 (And.intro t6 hb6))
                             clear ho6 t6 hb6)
                have HT6 : Hid (Turn u5.ownBlock.toList wr w6) := Lib.hid ((HTA.out.more (by simp)).trans HO6.out.2.1 (fun g hg => .inl hg))
                go_roundw
                case rel =>
                  refine ⟨k + 1, by omega, by go_num, Lib.hid ⟨?_, fun q hq => ?_, ?_⟩⟩
                  · rw [HN2.out]
                    unfold OwnS
                    rw [List.length_append, List.map_append]
                    exact HO6.out.1
                  · rcases HO6.out.2.2 with h | h
                    · exact HK.out.2.1 q (by rw [← h]; exact hq)
                    · rw [h] at hq
                      injection hq with hq
                      have h5 := HK.out.2.2.size
                      have h6 := HTA.out.size
                      have := HS0.out
                      omega
                  · exact HK.out.2.2.trans HT6.out (fun q hq => .inr (by have h5 := HK.out.2.1 q (by simpa using hq); have := HS0.out; omega))
                case measure => simp [intOf]; omega
        · obtain rfl : k = n := by omega
          have d1 : decide ((k : Int) < (k : Int)) = false := by simp
          go_wp2_with fail
          go_ret
          exact ⟨_, rfl, by rw [HU.out, HN.out]; exact HK.out.1, HT0.out.trans' HK.out.2.2⟩
end Go.Proofs.YtbocejiclellfaaGreatDoor

/- The reference's Texts, of one list in two places. -/
set_option linter.unusedSimpArgs false
set_option linter.unusedVariables false
set_option maxRecDepth 100000
namespace Go.Proofs.YtbocejiclellfaaGreatDoor
open Go.RowKit

set_option maxHeartbeats 3200000 in
theorem texts_any (W : World) (P Q : Option Addr) (n c d : Nat) (ts : List ByteArray) (hP : Txs W P ts) (hQ : Txs W Q ts) (hn : n = ts.length) (hl : n ≤ 1000000) :
    Calls Tryz.prog 17 #[.slice P n c, .slice Q n d] W fun e w' => e = .returned (.bool true) ∧ Turn [] W w' := by
  have HP := Lib.hid hP
  have HQ := Lib.hid hQ
  have HN := Lib.hid hn
  have d0 : ((n : Int) != (n : Int)) = false := by simp
  clear hP hQ hn
  go_enter Tryz.func17, Tryz.ntmps17
  go_wp2_with fail
  go_loopw [5] (fun v5 wr => ∃ k : Nat, k ≤ n ∧ v5 = .int .i64 (k : Int) ∧ Hid (Turn [] W wr)) (fun v5 _ => n - (intOf v5).toNat)
  case atStart => exact ⟨0, Nat.zero_le _, rfl, Lib.hid (Turn.refl _ _)⟩
  case round =>
    obtain ⟨k, hk, rfl, HT⟩ := hrel
    by_cases hkn : k < n
    · have d1 : decide ((k : Int) < (n : Int)) = true := by simp; omega
      have d2 : (k : Int) < (n : Int) := by omega
      obtain ⟨s, hs⟩ := at_lt (show k < ts.length by have := HN.out; omega)
      obtain ⟨pb, po, rfl, _, cp⟩ := HP.out.turn HT.out k s hs
      obtain ⟨qb, qo, rfl, _, cq⟩ := HQ.out.turn HT.out k s hs
      have e1 := tx_same s
      clear hs
      go_upto_region 6 with fail
      go_quiet (fail)
      go_wp2_with fail
      go_roundw
      case rel => exact ⟨k + 1, by omega, by go_num, Lib.hid (HT.out.drewN _)⟩
      case measure => simp [intOf]; omega
    · obtain rfl : k = n := by omega
      have d1 : decide ((k : Int) < (k : Int)) = false := by simp
      go_wp2_with fail
      go_ret
      exact ⟨rfl, HT.out⟩
end Go.Proofs.YtbocejiclellfaaGreatDoor
