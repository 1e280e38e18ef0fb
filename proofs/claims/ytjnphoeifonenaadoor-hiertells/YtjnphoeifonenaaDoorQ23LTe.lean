/- HierTells: the law. -/
import Derived.Test.YtjnphoeifonenaaDoorQ22Tle
import Derived.Deep.RegionHeld3
import Derived.BigQuiet
import Derived.Deep.DeepCutAuto

set_option linter.unusedSimpArgs false
set_option linter.unusedVariables false
set_option maxRecDepth 100000
namespace Go.Proofs.YtjnphoeifonenaaDoor
open Go.RowKit

theorem fld_fault (e p q : Int) (w : World) : (Instr.field 36 (.agg #[.int .i64 e, .int .i64 p, .int .i64 q]) 0).run Tryd.prog w = .ok (.int .i64 e) w := by kernel_rfl
attribute [local go_sem] fld_fault eq_ptr_some
set_option maxHeartbeats 25600000 in
theorem tells_law (A : Option Addr) (c B : Nat) (l : List K8) (m0 m1 m2 m3 m4 m5 m6 m7 m8 : Value) (P : Option Addr) (ni ci : Nat) (is : List Int) (nm : ByteArray) (w : World) (hr : RdKs B w A l) (hB : B ≤ w.heap.size) (hnm : NmOk l) (hI : Ints w P is) (hni : ni = is.length) (hnz : nm.size ≤ 281474976710656) (hT : Tab w) :
    Calls Tryd.prog 4 #[.agg #[.slice A l.length c, m0, m1, m2, m3, m4, m5, m6, m7, m8], .slice P ni ci, .string nm] w fun e w' => e = .returned (.bool true) ∧ Turn [] w w' := by
  obtain ⟨n, hn⟩ : ∃ n, l.length = n := ⟨_, rfl⟩
  obtain ⟨r, hrr⟩ : ∃ r, w.heap.size = r := ⟨_, rfl⟩
  obtain ⟨W0, hW0⟩ : ∃ W, w.alloc (.cells #[.slice A n c, m0, m1, m2, m3, m4, m5, m6, m7, m8] 30) = W := ⟨_, rfl⟩
  have t0 : Turn [] w W0 := by rw [← hW0]; exact (Turn.refl [] w).alloc _
  have b0 : W0.heap[r]? = some (.cells #[.slice A n c, m0, m1, m2, m3, m4, m5, m6, m7, m8] 30 (0, 0)) := by rw [← hW0, ← hrr]; exact heap_alloc_new w _
  have HAw : Hid (∀ W, Turn [] W0 W → Calls Tryd.prog 8 #[] W fun e w' => e = .returned (.bool true) ∧ Turn [] W w') := Lib.hid fun W t => awake_any W ((hT.turn' t0).turn' t)
  have HSm : Hid (∀ W, Turn [] W0 W → Calls Tryd.prog 9 #[.agg #[.slice A n c, m0, m1, m2, m3, m4, m5, m6, m7, m8]] W fun e w' => e = .returned (.bool (smallB l)) ∧ Turn [] W w') := Lib.hid fun W t => by
    rw [← hn]
    exact small_any8 A c B l m0 m1 m2 m3 m4 m5 m6 m7 m8 W ((hr.turn t0 (by simp)).turn t (by simp))
  have HNw : Hid (smallB l = true → ∀ W, Turn [] W0 W → Calls Tryd.prog 10 #[.agg #[.slice A n c, m0, m1, m2, m3, m4, m5, m6, m7, m8]] W fun e w' => NwR l W.heap.size e w' ∧ Turn [] W w') := Lib.hid fun hs W t => by
    rw [← hn]
    exact new_any A c B l m0 m1 m2 m3 m4 m5 m6 m7 m8 W ((hr.turn t0 (by simp)).turn t (by simp)) (by have := t0.size; have := t.size; omega) (small_ok hs hnm).1
  have HFt : Hid (smallB l = true → ∀ W, Turn [] W0 W → Calls Tryd.prog 11 #[.agg #[.slice A n c, m0, m1, m2, m3, m4, m5, m6, m7, m8]] W fun e w' => FtR l e ∧ Turn [] W w') := Lib.hid fun hs W t => by
    rw [← hn]
    exact rfault_any A c B l m0 m1 m2 m3 m4 m5 m6 m7 m8 W ((hr.turn t0 (by simp)).turn t (by simp)) (small_ok hs hnm).1.len (fun c hc => ((small_ok hs hnm).1.nm c hc).2.2.2)
  have hcl : ∀ W, Turn [] W0 W → ∀ (i : Nat) (v : Value), (#[Value.slice A n c, m0, m1, m2, m3, m4, m5, m6, m7, m8] : Array Value)[i]? = some v → W.cell? ⟨r, i, none⟩ = some v := fun W t i v hv => (cell_of_row W r i _ _ _ (t.heap b0 (by simp))).trans hv
  have HCL := Lib.hid hcl
  have HT0 := Lib.hid t0
  have HW0 := Lib.hid hW0
  have HRR := Lib.hid hrr
  have HN := Lib.hid hn
  have HNM := Lib.hid hnm
  have HI := Lib.hid (And.intro (hI.below t0) hni)
  have HRd := Lib.hid (hr.turn t0 (by simp))
  have HNZ := Lib.hid hnz
  have HTb := Lib.hid (hT.turn' t0)
  have HA0 := Lib.hid (HAw.out W0 (Turn.refl _ _))
  rw [hn]
  clear hr hB hnm hT hn hrr hW0 t0 b0 hcl hI hni hnz
  go_enter Tryd.func4, Tryd.ntmps4
  go_wp2_with fail
  rw [HRR.out, HW0.out]
  refine HA0.out.mono ?_
  rintro e w1 ⟨rfl, t1⟩
  have HT1 := Lib.hid t1
  have HS1 := Lib.hid (HSm.out w1 t1)
  have g0 := HCL.out w1 (t1) 0 _ rfl
  have g1 := HCL.out w1 (t1) 1 _ rfl
  have g2 := HCL.out w1 (t1) 2 _ rfl
  have g3 := HCL.out w1 (t1) 3 _ rfl
  have g4 := HCL.out w1 (t1) 4 _ rfl
  have g5 := HCL.out w1 (t1) 5 _ rfl
  have g6 := HCL.out w1 (t1) 6 _ rfl
  have g7 := HCL.out w1 (t1) 7 _ rfl
  have g8 := HCL.out w1 (t1) 8 _ rfl
  have g9 := HCL.out w1 (t1) 9 _ rfl
  clear t1 HA0
  go_wp2_with fail
  refine HS1.out.mono ?_
  rintro e w2 ⟨rfl, t2⟩
  have HT2 := Lib.hid (HT1.out.trans' t2)
  clear t2 HS1 g0 g1 g2 g3 g4 g5 g6 g7 g8 g9
  obtain ⟨sm, hsm⟩ : ∃ sm, smallB l = sm := ⟨_, rfl⟩
  rw [hsm]
  have HSB := Lib.hid hsm
  clear hsm
  cases sm with
  | false =>
    have HA2 := Lib.hid (HAw.out w2 HT2.out)
    go_wp2_with fail
    refine HA2.out.mono ?_
    rintro e w3 ⟨rfl, t3⟩
    have HT3 := Lib.hid t3
    clear t3
    go_wp2_with fail
    go_ret
    exact ⟨rfl, (HT0.out.trans' HT2.out).trans' HT3.out⟩
  | true =>
    by_cases hm10 : 10 < ni
    · have e1 : decide ((ni : Int) > 10) = true := by simp; omega
      have e2 : decide ((10 : Int) < (ni : Int)) = true := by simp; omega
      have HA2 := Lib.hid (HAw.out w2 HT2.out)
      go_wp2_with fail
      refine HA2.out.mono ?_
      rintro e w3 ⟨rfl, t3⟩
      have HT3 := Lib.hid t3
      clear t3
      go_wp2_with fail
      go_ret
      exact ⟨rfl, (HT0.out.trans' HT2.out).trans' HT3.out⟩
    · have e1 : decide ((ni : Int) > 10) = false := by simp; omega
      have e2 : decide ((10 : Int) < (ni : Int)) = false := by simp; omega
      have HFx := Lib.hid (HFt.out HSB.out w2 HT2.out)
      have g0 := HCL.out w2 (HT2.out) 0 _ rfl
      have g1 := HCL.out w2 (HT2.out) 1 _ rfl
      have g2 := HCL.out w2 (HT2.out) 2 _ rfl
      have g3 := HCL.out w2 (HT2.out) 3 _ rfl
      have g4 := HCL.out w2 (HT2.out) 4 _ rfl
      have g5 := HCL.out w2 (HT2.out) 5 _ rfl
      have g6 := HCL.out w2 (HT2.out) 6 _ rfl
      have g7 := HCL.out w2 (HT2.out) 7 _ rfl
      have g8 := HCL.out w2 (HT2.out) 8 _ rfl
      have g9 := HCL.out w2 (HT2.out) 9 _ rfl
      go_wp2_with fail
      refine HFx.out.mono ?_
      rintro e w3 ⟨hF, t3⟩
      have HT3 := Lib.hid (HT2.out.trans' t3)
      clear t3 HFx g0 g1 g2 g3 g4 g5 g6 g7 g8 g9
      rcases ft_two (small_ok HSB.out HNM.out).1 hF with ⟨p, q, rfl⟩ | ⟨rfl, hg⟩
      · have HA3 := Lib.hid (HAw.out w3 HT3.out)
        unfold ftC
        go_wp2_with fail
        refine HA3.out.mono ?_
        rintro e w4 ⟨rfl, t4⟩
        have HT4 := Lib.hid t4
        clear t4
        go_wp2_with fail
        go_ret
        exact ⟨rfl, (HT0.out.trans' HT3.out).trans' HT4.out⟩
      · have HG := Lib.hid hg
        have HNw3 := Lib.hid (HNw.out HSB.out w3 HT3.out)
        have g0 := HCL.out w3 (HT3.out) 0 _ rfl
        have g1 := HCL.out w3 (HT3.out) 1 _ rfl
        have g2 := HCL.out w3 (HT3.out) 2 _ rfl
        have g3 := HCL.out w3 (HT3.out) 3 _ rfl
        have g4 := HCL.out w3 (HT3.out) 4 _ rfl
        have g5 := HCL.out w3 (HT3.out) 5 _ rfl
        have g6 := HCL.out w3 (HT3.out) 6 _ rfl
        have g7 := HCL.out w3 (HT3.out) 7 _ rfl
        have g8 := HCL.out w3 (HT3.out) 8 _ rfl
        have g9 := HCL.out w3 (HT3.out) 9 _ rfl
        clear hF hg
        unfold ftC
        go_wp2_with fail
        refine HNw3.out.mono ?_
        rintro e w4 ⟨hN, t4⟩
        obtain ⟨t, m, sz, V, rfl, htl, hmp⟩ := new_rgt HG.out hN
        have HT4 := Lib.hid (HT3.out.trans' t4)
        obtain ⟨Wb, hWb⟩ : ∃ W, w4.alloc (.cells #[.int .i64 0, .int .i64 0, .int .i64 0] 36) = W := ⟨_, rfl⟩
        have tb : Turn [] w4 Wb := by rw [← hWb]; exact (Turn.refl [] w4).alloc _
        have HTb0 := Lib.hid (HT4.out.trans' tb)
        have hbk : Bk A B l w3.heap.size t m sz V Wb := ⟨HRd.out.turn HTb0.out (by simp), htl.turn' tb, hmp.turn tb (by simp), HTb.out.turn' HTb0.out⟩
        have HBk : Hid (∀ W, Turn [] Wb W → Bk A B l w3.heap.size t m sz V W) := Lib.hid fun W k => hbk.turn k
        have HWb := Lib.hid hWb
        have HP : Hid (∀ W, Turn [] Wb W → ∀ (i : Nat) (v : Value), (#[Value.slice A n c, m0, m1, m2, m3, m4, m5, m6, m7, m8] : Array Value)[i]? = some v → W.cell? ⟨r, i, none⟩ = some v) := Lib.hid fun W k => HCL.out W (HTb0.out.trans' k)
        have HIs : Hid (∀ W, Turn [] Wb W → Ints W P is) := Lib.hid fun W k => HI.out.1.below (HTb0.out.trans' k)
        have CLen : Hid (∀ W, Turn [] Wb W → Calls Tryd.prog 12 #[.pointer (some ⟨t, 0, none⟩)] W fun e w' => e = .returned (.int .i64 (n : Int)) ∧ Turn [] W w') := Lib.hid fun W k => by rw [← HN.out]; exact bk_len W (HBk.out W k)
        have COrd : Hid (∀ W, Turn [] Wb W → Calls Tryd.prog 14 #[.pointer (some ⟨t, 0, none⟩)] W fun e w' => ∃ U, e = .returned U ∧ OwnI w' W.heap.size U (ordL (esL l)) ∧ Turn [] W w') := Lib.hid fun W k => bk_order HG.out W (HBk.out W k)
        have CROr : Hid (∀ W, Turn [] Wb W → Calls Tryd.prog 15 #[.agg #[.slice A n c, m0, m1, m2, m3, m4, m5, m6, m7, m8]] W fun e w' => ∃ U, e = .returned U ∧ OwnI w' W.heap.size U (ordL (esL l)) ∧ Turn [] W w') := Lib.hid fun W k => by rw [← HN.out]; exact bk_rorder HG.out W (HBk.out W k)
        have CAbv : Hid (∀ W, Turn [] Wb W → ∀ (P : Option Addr) (ni ci : Nat) (is : List Int), Ints W P is → ni = is.length → ni ≤ 1000000 → Calls Tryd.prog 16 #[.pointer (some ⟨t, 0, none⟩), .slice P ni ci] W fun e w' => ∃ U, e = .returned U ∧ OwnI w' W.heap.size U (abvL (esL l) is) ∧ Turn [] W w') := Lib.hid fun W k => bk_above HG.out W (HBk.out W k)
        have CRAb : Hid (∀ W, Turn [] Wb W → ∀ (P : Option Addr) (ni ci : Nat) (is : List Int), Ints W P is → ni = is.length → ni ≤ 1000000 → Calls Tryd.prog 17 #[.agg #[.slice A n c, m0, m1, m2, m3, m4, m5, m6, m7, m8], .slice P ni ci] W fun e w' => ∃ U, e = .returned U ∧ OwnI w' W.heap.size U (abvL (esL l) is) ∧ Turn [] W w') := Lib.hid fun W k => by rw [← HN.out]; exact bk_rabove HG.out W (HBk.out W k)
        have CFd : Hid (∀ W, Turn [] Wb W → ∀ s, Calls Tryd.prog 18 #[.agg #[.slice A n c, m0, m1, m2, m3, m4, m5, m6, m7, m8], .string s] W fun e w' => e = .returned (.int .i64 (fndI l s)) ∧ Turn [] W w') := Lib.hid fun W k => by rw [← HN.out]; exact bk_find HG.out W (HBk.out W k)
        have CRRt : Hid (∀ W, Turn [] Wb W → ∀ (i : Nat) (x : K8), l[i]? = some x → Calls Tryd.prog 24 #[.agg #[.slice A n c, m0, m1, m2, m3, m4, m5, m6, m7, m8], .int .i64 (i : Int)] W fun e w' => ∃ U, e = .returned U ∧ OwnI w' W.heap.size U (ofN (enAt (esL l) (i : Int)).rt) ∧ Turn [] W w') := Lib.hid fun W k => by rw [← HN.out]; exact bk_rright HG.out W (HBk.out W k)
        have CRt : Hid (∀ W, Turn [] Wb W → ∀ (i : Int), (enAt (esL l) i).rt.length ≤ 1000000 → Calls Tryd.prog 23 #[.pointer (some ⟨t, 0, none⟩), .int .i64 i] W fun e w' => ∃ U, e = .returned U ∧ OwnI w' W.heap.size U (ofN (enAt (esL l) i).rt) ∧ Turn [] W w') := Lib.hid fun W k => bk_right W (HBk.out W k)
        have HOL : Hid ((ordL (esL l)).length ≤ 1000000) := Lib.hid (by rw [HG.out.ord]; have := HG.out.kok.len; omega)
        have HAL : Hid (∀ is, (abvL (esL l) is).length ≤ 1000000) := Lib.hid fun is => abv_len HG.out.ok.n is
        have HSS : Hid (∀ w', Turn [] Wb w' → (w'.cell? ⟨r, 0, none⟩ = some (.slice A n c) ∧ w'.cell? ⟨r, 1, none⟩ = some m0 ∧ w'.cell? ⟨r, 2, none⟩ = some m1 ∧ w'.cell? ⟨r, 3, none⟩ = some m2 ∧ w'.cell? ⟨r, 4, none⟩ = some m3 ∧ w'.cell? ⟨r, 5, none⟩ = some m4 ∧ w'.cell? ⟨r, 6, none⟩ = some m5 ∧ w'.cell? ⟨r, 7, none⟩ = some m6 ∧ w'.cell? ⟨r, 8, none⟩ = some m7 ∧ w'.cell? ⟨r, 9, none⟩ = some m8)) := Lib.hid fun W k => ⟨HP.out W (k) 0 _ rfl, HP.out W (k) 1 _ rfl, HP.out W (k) 2 _ rfl, HP.out W (k) 3 _ rfl, HP.out W (k) 4 _ rfl, HP.out W (k) 5 _ rfl, HP.out W (k) 6 _ rfl, HP.out W (k) 7 _ rfl, HP.out W (k) 8 _ rfl, HP.out W (k) 9 _ rfl⟩
        have HMI : Hid (ni = is.length ∧ ni ≤ 1000000) := Lib.hid ⟨HI.out.2, by omega⟩
        have hn1 : n ≤ 1000 := by have := HG.out.kok.len; have := HN.out; omega
        clear t4 hN htl hmp hWb tb hbk g0 g1 g2 g3 g4 g5 g6 g7 g8 g9 HNw3
        unfold ftC
        go_upto_region 4 with fail
        rw [HWb.out]
        refine wp_region_held_drew (S := fun w' => w'.cell? ⟨r, 0, none⟩ = some (.slice A n c) ∧ w'.cell? ⟨r, 1, none⟩ = some m0 ∧ w'.cell? ⟨r, 2, none⟩ = some m1 ∧ w'.cell? ⟨r, 3, none⟩ = some m2 ∧ w'.cell? ⟨r, 4, none⟩ = some m3 ∧ w'.cell? ⟨r, 5, none⟩ = some m4 ∧ w'.cell? ⟨r, 6, none⟩ = some m5 ∧ w'.cell? ⟨r, 7, none⟩ = some m6 ∧ w'.cell? ⟨r, 8, none⟩ = some m7 ∧ w'.cell? ⟨r, 9, none⟩ = some m8) (by kernel_rfl) ?_ (fun hHeld => ?_)
        · exact HSS.out _ (Turn.refl [] Wb).drew
        refine wpAnyH_take (i := 0) (oi := { dst := some 41, op := Op.move (Operand.tmp 7), type := 33, pos := _, after := #[], guard := none }) (v := ?_) rfl (by kernel_rfl) (by kernel_rfl) (by kernel_rfl) (fun _ _ _ h => h) (Or.inl ⟨by rfl, ?_⟩) (by assumption) ?_
        rotate_left
        · intro w hSw; (try dsimp only at hSw); go_simp; (try with_reducible rfl)
        try simp only [Act.put, List.setIfInBounds_toArray, List.set_cons_zero, List.set_cons_succ]
        refine wpAnyH_take (i := 1) (oi := { dst := some 42, op := Op.binOp BinOp.eql 33 (Operand.tmp 41) (Operand.const (Value.pointer none)) 33, type := 4, pos := _, after := #[{ on := 0, ground := Ground.data }], guard := none }) (v := ?_) rfl (by kernel_rfl) (by kernel_rfl) (by kernel_rfl) (fun _ _ _ h => h) (Or.inl ⟨by rfl, ?_⟩) (by assumption) ?_
        rotate_left
        · intro w hSw; (try dsimp only at hSw); go_simp; (try with_reducible rfl)
        try simp only [Act.put, List.setIfInBounds_toArray, List.set_cons_zero, List.set_cons_succ]
        refine wpAnyH_take (i := 2) (oi := { dst := some 43, op := Op.move (Operand.tmp 42), type := 4, pos := _, after := #[{ on := 1, ground := Ground.data }], guard := none }) (v := ?_) rfl (by kernel_rfl) (by kernel_rfl) (by kernel_rfl) (fun _ _ _ h => h) (Or.inl ⟨by rfl, ?_⟩) (by assumption) ?_
        rotate_left
        · intro w hSw; (try dsimp only at hSw); go_simp; (try with_reducible rfl)
        try simp only [Act.put, List.setIfInBounds_toArray, List.set_cons_zero, List.set_cons_succ]
        refine wpAnyH_take (i := 3) (oi := { dst := some 44, op := Op.move (Operand.tmp 7), type := 33, pos := _, after := #[{ on := 2, ground := Ground.guard }], guard := some (2, false) }) (v := ?_) rfl (by kernel_rfl) (by kernel_rfl) (by kernel_rfl) (fun _ _ _ h => h) (Or.inl ⟨by rfl, ?_⟩) (by assumption) ?_
        rotate_left
        · intro w hSw; (try dsimp only at hSw); go_simp; (try with_reducible rfl)
        try simp only [Act.put, List.setIfInBounds_toArray, List.set_cons_zero, List.set_cons_succ]
        refine wpAnyH_take (i := 5) (oi := { dst := some 46, op := Op.fieldAddr 30 (Operand.tmp 3) 0, type := 0, pos := _, after := #[{ on := 2, ground := Ground.guard }], guard := some (2, false) }) (v := ?_) rfl (by kernel_rfl) (by kernel_rfl) (by kernel_rfl) (fun _ _ _ h => h) (Or.inl ⟨by rfl, ?_⟩) (by assumption) ?_
        rotate_left
        · intro w hSw; (try dsimp only at hSw); go_simp; (try with_reducible rfl)
        try simp only [Act.put, List.setIfInBounds_toArray, List.set_cons_zero, List.set_cons_succ]
        refine wpAnyH_take (i := 6) (oi := { dst := some 47, op := Op.load 22 (Operand.tmp 46), type := 22, pos := _, after := #[{ on := 5, ground := Ground.data }, { on := 2, ground := Ground.guard }], guard := some (2, false) }) (v := ?_) rfl (by kernel_rfl) (by kernel_rfl) (by kernel_rfl) (fun _ _ _ h => h) (Or.inl ⟨by rfl, ?_⟩) (by assumption) ?_
        rotate_left
        · intro w hSw; (try dsimp only at hSw); go_simp; (try with_reducible rfl)
        try simp only [Act.put, List.setIfInBounds_toArray, List.set_cons_zero, List.set_cons_succ]
        refine wpAnyH_take (i := 7) (oi := { dst := some 48, op := Op.call { callee := Callee.builtin Builtin.len, args := #[Operand.tmp 47], argTypes := #[22] }, type := 3, pos := _, after := #[{ on := 6, ground := Ground.data }, { on := 2, ground := Ground.guard }], guard := some (2, false) }) (v := ?_) rfl (by kernel_rfl) (by kernel_rfl) (by kernel_rfl) (fun _ _ _ h => h) (Or.inl ⟨by rfl, ?_⟩) (by assumption) ?_
        rotate_left
        · intro w hSw; (try dsimp only at hSw); go_simp; (try with_reducible rfl)
        try simp only [Act.put, List.setIfInBounds_toArray, List.set_cons_zero, List.set_cons_succ]
        refine wpAnyH_ready (rs := [4]) (by kernel_rfl) (by simp) ?_
        refine AllReadyH.cons (o := { dst := some 45, op := Op.call { callee := Callee.value (Operand.func 12), args := #[Operand.tmp 44], argTypes := #[33] }, type := 3, pos := _, after := #[{ on := 3, ground := Ground.data }, { on := 2, ground := Ground.chain }, { on := 2, ground := Ground.guard }], guard := some (2, false) }) rfl (fun K hK => ?_) AllReadyH.nil
        go_simp
        go_at_call 12
        (with_reducible refine (CLen.out Wb.drew ((Turn.refl [] Wb).drew)).mono ?_)
        rintro e w11 ⟨rfl, t11⟩
        have HT11 := Lib.hid (((Turn.refl [] Wb).drew).trans' t11)
        clear t11
        try go_wp2_with fail
        refine hK.out _ _ ?_ (fun hHeld => ?_)
        · exact HSS.out _ (HT11.out)
        clear hK K
        try simp only [Act.put, List.setIfInBounds_toArray, List.set_cons_zero, List.set_cons_succ]
        refine wpAnyH_take (i := 8) (oi := { dst := some 49, op := Op.binOp BinOp.neq 3 (Operand.tmp 45) (Operand.tmp 48) 3, type := 4, pos := _, after := #[{ on := 4, ground := Ground.data }, { on := 7, ground := Ground.data }, { on := 2, ground := Ground.guard }], guard := some (2, false) }) (v := ?_) rfl (by kernel_rfl) (by kernel_rfl) (by kernel_rfl) (fun _ _ _ h => h) (Or.inl ⟨by rfl, ?_⟩) (by assumption) ?_
        rotate_left
        · intro w hSw; (try dsimp only at hSw); go_simp; (try with_reducible rfl)
        try simp only [Act.put, List.setIfInBounds_toArray, List.set_cons_zero, List.set_cons_succ]
        refine wpAnyH_take (i := 9) (oi := { dst := some 50, op := Op.pick (Operand.tmp 43) (Operand.const (Value.bool true)) (Operand.tmp 49), type := 4, pos := _, after := #[{ on := 2, ground := Ground.data }, { on := 8, ground := Ground.data }], guard := none }) (v := ?_) rfl (by kernel_rfl) (by kernel_rfl) (by kernel_rfl) (fun _ _ _ h => h) (Or.inl ⟨by rfl, ?_⟩) (by assumption) ?_
        rotate_left
        · intro w hSw; (try dsimp only at hSw); go_simp; (try with_reducible rfl)
        try simp only [Act.put, List.setIfInBounds_toArray, List.set_cons_zero, List.set_cons_succ]
        refine wpAnyH_take (i := 10) (oi := { dst := some 51, op := Op.move (Operand.tmp 50), type := 4, pos := _, after := #[{ on := 9, ground := Ground.data }, { on := 4, ground := Ground.chain }], guard := none }) (v := ?_) rfl (by kernel_rfl) (by kernel_rfl) (by kernel_rfl) (fun _ _ _ h => h) (Or.inl ⟨by rfl, ?_⟩) (by assumption) ?_
        rotate_left
        · intro w hSw; (try dsimp only at hSw); go_simp; (try with_reducible rfl)
        try simp only [Act.put, List.setIfInBounds_toArray, List.set_cons_zero, List.set_cons_succ]
        refine wpAnyH_take (i := 11) (oi := { dst := some 52, op := Op.move (Operand.tmp 7), type := 33, pos := _, after := #[{ on := 10, ground := Ground.guard }], guard := some (10, false) }) (v := ?_) rfl (by kernel_rfl) (by kernel_rfl) (by kernel_rfl) (fun _ _ _ h => h) (Or.inl ⟨by rfl, ?_⟩) (by assumption) ?_
        rotate_left
        · intro w hSw; (try dsimp only at hSw); go_simp; (try with_reducible rfl)
        try simp only [Act.put, List.setIfInBounds_toArray, List.set_cons_zero, List.set_cons_succ]
        refine wpAnyH_take (i := 13) (oi := { dst := some 54, op := Op.load 30 (Operand.tmp 3), type := 30, pos := _, after := #[{ on := 10, ground := Ground.guard }], guard := some (10, false) }) (v := ?_) rfl (by kernel_rfl) (by kernel_rfl) (by kernel_rfl) (fun _ _ _ h => h) (Or.inl ⟨by rfl, ?_⟩) (by assumption) ?_
        rotate_left
        · intro w hSw; (try dsimp only at hSw); go_simp; (try with_reducible rfl)
        try simp only [Act.put, List.setIfInBounds_toArray, List.set_cons_zero, List.set_cons_succ]
        refine wpAnyH_ready (rs := [12]) (by kernel_rfl) (by simp) ?_
        refine AllReadyH.cons (o := { dst := some 53, op := Op.call { callee := Callee.value (Operand.func 14), args := #[Operand.tmp 52], argTypes := #[33] }, type := 40, pos := _, after := #[{ on := 11, ground := Ground.data }, { on := 10, ground := Ground.chain }, { on := 10, ground := Ground.guard }], guard := some (10, false) }) rfl (fun K hK => ?_) AllReadyH.nil
        go_simp
        go_at_call 14
        (with_reducible refine (COrd.out w11 (HT11.out)).mono ?_)
        rintro e w12 ⟨U12, rfl, h12, t12⟩
        have HT12 := Lib.hid ((HT11.out).trans' t12)
        have HO12 := Lib.hid h12
        clear t12 h12
        try go_wp2_with fail
        refine hK.out _ _ ?_ (fun hHeld => ?_)
        · exact HSS.out _ (HT12.out)
        clear hK K
        try simp only [Act.put, List.setIfInBounds_toArray, List.set_cons_zero, List.set_cons_succ]
        refine wpAnyH_ready (rs := [14]) (by kernel_rfl) (by simp) ?_
        refine AllReadyH.cons (o := { dst := some 55, op := Op.call { callee := Callee.value (Operand.func 15), args := #[Operand.tmp 54], argTypes := #[30] }, type := 40, pos := _, after := #[{ on := 13, ground := Ground.data }, { on := 12, ground := Ground.chain }, { on := 10, ground := Ground.guard }], guard := some (10, false) }) rfl (fun K hK => ?_) AllReadyH.nil
        go_simp
        go_at_call 15
        (with_reducible refine (CROr.out w12 (HT12.out)).mono ?_)
        rintro e w13 ⟨U13, rfl, h13, t13⟩
        have HT13 := Lib.hid ((HT12.out).trans' t13)
        have HO12 := Lib.hid (HO12.out.turn' t13)
        have HO13 := Lib.hid h13
        clear t13 h13
        try go_wp2_with fail
        refine hK.out _ _ ?_ (fun hHeld => ?_)
        · exact HSS.out _ (HT13.out)
        clear hK K
        try simp only [Act.put, List.setIfInBounds_toArray, List.set_cons_zero, List.set_cons_succ]
        refine wpAnyH_ready (rs := [15]) (by kernel_rfl) (by simp) ?_
        refine AllReadyH.cons (o := { dst := some 56, op := Op.call { callee := Callee.value (Operand.func 13), args := #[Operand.tmp 53, Operand.tmp 55], argTypes := #[40, 40] }, type := 4, pos := _, after := #[{ on := 12, ground := Ground.data }, { on := 14, ground := Ground.data }, { on := 14, ground := Ground.chain }, { on := 10, ground := Ground.guard }], guard := some (10, false) }) rfl (fun K hK => ?_) AllReadyH.nil
        go_simp
        go_at_call 13
        (with_reducible refine (same_own w13 HO12.out HO13.out HOL.out).mono ?_)
        rintro e w14 ⟨rfl, t14⟩
        have HT14 := Lib.hid ((HT13.out).trans' t14)
        clear t14
        try go_wp2_with fail
        refine hK.out _ _ ?_ (fun hHeld => ?_)
        · exact HSS.out _ (HT14.out)
        clear hK K
        try simp only [Act.put, List.setIfInBounds_toArray, List.set_cons_zero, List.set_cons_succ]
        refine wpAnyH_take (i := 16) (oi := { dst := some 57, op := Op.unOp UnOp.not 4 (Operand.tmp 56), type := 4, pos := _, after := #[{ on := 15, ground := Ground.data }, { on := 10, ground := Ground.guard }], guard := some (10, false) }) (v := ?_) rfl (by kernel_rfl) (by kernel_rfl) (by kernel_rfl) (fun _ _ _ h => h) (Or.inl ⟨by rfl, ?_⟩) (by assumption) ?_
        rotate_left
        · intro w hSw; (try dsimp only at hSw); go_simp; (try with_reducible rfl)
        try simp only [Act.put, List.setIfInBounds_toArray, List.set_cons_zero, List.set_cons_succ]
        refine wpAnyH_take (i := 17) (oi := { dst := some 58, op := Op.pick (Operand.tmp 51) (Operand.const (Value.bool true)) (Operand.tmp 57), type := 4, pos := _, after := #[{ on := 10, ground := Ground.data }, { on := 16, ground := Ground.data }], guard := none }) (v := ?_) rfl (by kernel_rfl) (by kernel_rfl) (by kernel_rfl) (fun _ _ _ h => h) (Or.inl ⟨by rfl, ?_⟩) (by assumption) ?_
        rotate_left
        · intro w hSw; (try dsimp only at hSw); go_simp; (try with_reducible rfl)
        try simp only [Act.put, List.setIfInBounds_toArray, List.set_cons_zero, List.set_cons_succ]
        refine wpAnyH_take (i := 18) (oi := { dst := some 59, op := Op.move (Operand.tmp 58), type := 4, pos := _, after := #[{ on := 17, ground := Ground.data }, { on := 15, ground := Ground.chain }], guard := none }) (v := ?_) rfl (by kernel_rfl) (by kernel_rfl) (by kernel_rfl) (fun _ _ _ h => h) (Or.inl ⟨by rfl, ?_⟩) (by assumption) ?_
        rotate_left
        · intro w hSw; (try dsimp only at hSw); go_simp; (try with_reducible rfl)
        try simp only [Act.put, List.setIfInBounds_toArray, List.set_cons_zero, List.set_cons_succ]
        refine wpAnyH_take (i := 19) (oi := { dst := some 60, op := Op.move (Operand.tmp 7), type := 33, pos := _, after := #[{ on := 18, ground := Ground.guard }], guard := some (18, false) }) (v := ?_) rfl (by kernel_rfl) (by kernel_rfl) (by kernel_rfl) (fun _ _ _ h => h) (Or.inl ⟨by rfl, ?_⟩) (by assumption) ?_
        rotate_left
        · intro w hSw; (try dsimp only at hSw); go_simp; (try with_reducible rfl)
        try simp only [Act.put, List.setIfInBounds_toArray, List.set_cons_zero, List.set_cons_succ]
        refine wpAnyH_take (i := 20) (oi := { dst := some 61, op := Op.move (Operand.tmp 1), type := 40, pos := _, after := #[{ on := 18, ground := Ground.guard }], guard := some (18, false) }) (v := ?_) rfl (by kernel_rfl) (by kernel_rfl) (by kernel_rfl) (fun _ _ _ h => h) (Or.inl ⟨by rfl, ?_⟩) (by assumption) ?_
        rotate_left
        · intro w hSw; (try dsimp only at hSw); go_simp; (try with_reducible rfl)
        try simp only [Act.put, List.setIfInBounds_toArray, List.set_cons_zero, List.set_cons_succ]
        refine wpAnyH_take (i := 22) (oi := { dst := some 63, op := Op.load 30 (Operand.tmp 3), type := 30, pos := _, after := #[{ on := 18, ground := Ground.guard }], guard := some (18, false) }) (v := ?_) rfl (by kernel_rfl) (by kernel_rfl) (by kernel_rfl) (fun _ _ _ h => h) (Or.inl ⟨by rfl, ?_⟩) (by assumption) ?_
        rotate_left
        · intro w hSw; (try dsimp only at hSw); go_simp; (try with_reducible rfl)
        try simp only [Act.put, List.setIfInBounds_toArray, List.set_cons_zero, List.set_cons_succ]
        refine wpAnyH_take (i := 23) (oi := { dst := some 64, op := Op.move (Operand.tmp 1), type := 40, pos := _, after := #[{ on := 18, ground := Ground.guard }], guard := some (18, false) }) (v := ?_) rfl (by kernel_rfl) (by kernel_rfl) (by kernel_rfl) (fun _ _ _ h => h) (Or.inl ⟨by rfl, ?_⟩) (by assumption) ?_
        rotate_left
        · intro w hSw; (try dsimp only at hSw); go_simp; (try with_reducible rfl)
        try simp only [Act.put, List.setIfInBounds_toArray, List.set_cons_zero, List.set_cons_succ]
        refine wpAnyH_ready (rs := [21]) (by kernel_rfl) (by simp) ?_
        refine AllReadyH.cons (o := { dst := some 62, op := Op.call { callee := Callee.value (Operand.func 16), args := #[Operand.tmp 60, Operand.tmp 61], argTypes := #[33, 40] }, type := 40, pos := _, after := #[{ on := 19, ground := Ground.data }, { on := 20, ground := Ground.data }, { on := 18, ground := Ground.chain }, { on := 18, ground := Ground.guard }], guard := some (18, false) }) rfl (fun K hK => ?_) AllReadyH.nil
        go_simp
        go_at_call 16
        (with_reducible refine (CAbv.out w14 (HT14.out) P ni ci is (HIs.out w14 (HT14.out)) HMI.out.1 HMI.out.2).mono ?_)
        rintro e w15 ⟨U15, rfl, h15, t15⟩
        have HT15 := Lib.hid ((HT14.out).trans' t15)
        have HO15 := Lib.hid h15
        clear t15 h15
        try go_wp2_with fail
        refine hK.out _ _ ?_ (fun hHeld => ?_)
        · exact HSS.out _ (HT15.out)
        clear hK K
        try simp only [Act.put, List.setIfInBounds_toArray, List.set_cons_zero, List.set_cons_succ]
        refine wpAnyH_ready (rs := [24]) (by kernel_rfl) (by simp) ?_
        refine AllReadyH.cons (o := { dst := some 65, op := Op.call { callee := Callee.value (Operand.func 17), args := #[Operand.tmp 63, Operand.tmp 64], argTypes := #[30, 40] }, type := 40, pos := _, after := #[{ on := 22, ground := Ground.data }, { on := 23, ground := Ground.data }, { on := 21, ground := Ground.chain }, { on := 18, ground := Ground.guard }], guard := some (18, false) }) rfl (fun K hK => ?_) AllReadyH.nil
        go_simp
        go_at_call 17
        (with_reducible refine (CRAb.out w15 (HT15.out) P ni ci is (HIs.out w15 (HT15.out)) HMI.out.1 HMI.out.2).mono ?_)
        rintro e w16 ⟨U16, rfl, h16, t16⟩
        have HT16 := Lib.hid ((HT15.out).trans' t16)
        have HO15 := Lib.hid (HO15.out.turn' t16)
        have HO16 := Lib.hid h16
        clear t16 h16
        try go_wp2_with fail
        refine hK.out _ _ ?_ (fun hHeld => ?_)
        · exact HSS.out _ (HT16.out)
        clear hK K
        try simp only [Act.put, List.setIfInBounds_toArray, List.set_cons_zero, List.set_cons_succ]
        refine wpAnyH_ready (rs := [25]) (by kernel_rfl) (by simp) ?_
        refine AllReadyH.cons (o := { dst := some 66, op := Op.call { callee := Callee.value (Operand.func 13), args := #[Operand.tmp 62, Operand.tmp 65], argTypes := #[40, 40] }, type := 4, pos := _, after := #[{ on := 21, ground := Ground.data }, { on := 24, ground := Ground.data }, { on := 24, ground := Ground.chain }, { on := 18, ground := Ground.guard }], guard := some (18, false) }) rfl (fun K hK => ?_) AllReadyH.nil
        go_simp
        go_at_call 13
        (with_reducible refine (same_own w16 HO15.out HO16.out (HAL.out _)).mono ?_)
        rintro e w17 ⟨rfl, t17⟩
        have HT17 := Lib.hid ((HT16.out).trans' t17)
        clear t17
        try go_wp2_with fail
        refine hK.out _ _ ?_ (fun hHeld => ?_)
        · exact HSS.out _ (HT17.out)
        clear hK K
        try simp only [Act.put, List.setIfInBounds_toArray, List.set_cons_zero, List.set_cons_succ]
        refine wpAnyH_take (i := 26) (oi := { dst := some 67, op := Op.unOp UnOp.not 4 (Operand.tmp 66), type := 4, pos := _, after := #[{ on := 25, ground := Ground.data }, { on := 18, ground := Ground.guard }], guard := some (18, false) }) (v := ?_) rfl (by kernel_rfl) (by kernel_rfl) (by kernel_rfl) (fun _ _ _ h => h) (Or.inl ⟨by rfl, ?_⟩) (by assumption) ?_
        rotate_left
        · intro w hSw; (try dsimp only at hSw); go_simp; (try with_reducible rfl)
        try simp only [Act.put, List.setIfInBounds_toArray, List.set_cons_zero, List.set_cons_succ]
        refine wpAnyH_take (i := 27) (oi := { dst := some 68, op := Op.pick (Operand.tmp 59) (Operand.const (Value.bool true)) (Operand.tmp 67), type := 4, pos := _, after := #[{ on := 18, ground := Ground.data }, { on := 26, ground := Ground.data }], guard := none }) (v := ?_) rfl (by kernel_rfl) (by kernel_rfl) (by kernel_rfl) (fun _ _ _ h => h) (Or.inl ⟨by rfl, ?_⟩) (by assumption) ?_
        rotate_left
        · intro w hSw; (try dsimp only at hSw); go_simp; (try with_reducible rfl)
        try simp only [Act.put, List.setIfInBounds_toArray, List.set_cons_zero, List.set_cons_succ]
        refine wpAnyH_done (by kernel_rfl) ?_ _
        go_wp2_with fail
        go_loopw [9] (fun v9 wr => ∃ i : Nat, i ≤ n ∧ v9 = .int .i64 (i : Int) ∧ Hid (Turn [] Wb wr)) (fun v9 _ => n - (intOf v9).toNat)
        case atStart => exact ⟨0, Nat.zero_le _, rfl, Lib.hid (HT17.out)⟩
        case round =>
          obtain ⟨i, hi, rfl, HR⟩ := hrel
          by_cases hin : i < n
          · have d1 : decide ((i : Int) < (n : Int)) = true := by simp; omega
            have d2 : (i : Int) < (n : Int) := by omega
            obtain ⟨x, hx⟩ := at_lt (show i < l.length by have := HN.out; omega)
            have hent := HG.out.ent hx
            have hidx := snd_first (HG.out.snd i x hx)
            have hxz : x.nm.size ≤ 281474976710656 := (HG.out.kok.nm x (List.mem_of_getElem? hx)).1
            have hrl : (enAt (esL l) (i : Int)).rt.length ≤ 1000000 := by have : (enAt (esL l) (i : Int)).rt.length ≤ 1000 := HG.out.ok.few i; omega
            obtain ⟨sup, hsup⟩ : ∃ s, (if x.sup = ⟨#[]⟩ then -1 else fndI l x.sup) = s := ⟨_, rfl⟩
            rw [hsup] at hent
            have CIx : Hid (∀ W, Turn [] Wb W → Calls Tryd.prog 19 #[.pointer (some ⟨t, 0, none⟩), .string x.nm] W fun e w' => e = .returned (.tuple #[.int .i64 (i : Int), .bool true]) ∧ Turn [] W w') := Lib.hid fun W k => by
              have := bk_index W (HBk.out W k) x.nm hxz
              rw [hidx] at this
              exact this
            have CNm : Hid (∀ W, Turn [] Wb W → Calls Tryd.prog 20 #[.pointer (some ⟨t, 0, none⟩), .int .i64 (i : Int)] W fun e w' => e = .returned (.string x.nm) ∧ Turn [] W w') := Lib.hid fun W k => by
              have := bk_name W (HBk.out W k) (i : Int)
              rw [hent] at this
              exact this
            have CFc : Hid (∀ W, Turn [] Wb W → Calls Tryd.prog 21 #[.pointer (some ⟨t, 0, none⟩), .int .i64 (i : Int)] W fun e w' => e = .returned (.bool x.face) ∧ Turn [] W w') := Lib.hid fun W k => by
              have := bk_face W (HBk.out W k) (i : Int)
              rw [hent] at this
              exact this
            have CSp : Hid (∀ W, Turn [] Wb W → Calls Tryd.prog 22 #[.pointer (some ⟨t, 0, none⟩), .int .i64 (i : Int)] W fun e w' => e = .returned (.int .i64 sup) ∧ Turn [] W w') := Lib.hid fun W k => by
              have := bk_super W (HBk.out W k) (i : Int)
              rw [hent] at this
              exact this
            have HX := Lib.hid hx
            have HRL := Lib.hid hrl
            have HSU := Lib.hid hsup
            obtain ⟨b, off, cs, rfl, hb, hbl, hcell, A3, c3, A4, n4, c4, A5, n5, c5, A6, n6, c6, I, rfl, hst⟩ := (HBk.out wr HR.out).rd i x hx
            obtain ⟨nf, hnf⟩ : ∃ nf, x.fcs.length = nf := ⟨_, rfl⟩
            rw [hnf] at hcell
            obtain ⟨d, hd⟩ : ∃ d, wr.heap.size = d := ⟨_, rfl⟩
            obtain ⟨W1, hW1⟩ : ∃ W, wr.alloc (.cells #[.string x.nm, .string x.sup, .bool x.face, .slice A3 nf c3, .slice A4 n4 c4, .slice A5 n5 c5, .slice A6 n6 c6, .pointer I, .int .i64 x.p, .int .i64 x.q] 51) = W := ⟨_, rfl⟩
            have u1 : Turn [] wr W1 := by rw [← hW1]; exact (Turn.refl [] wr).alloc _
            have b1 : W1.heap[d]? = some (.cells #[.string x.nm, .string x.sup, .bool x.face, .slice A3 nf c3, .slice A4 n4 c4, .slice A5 n5 c5, .slice A6 n6 c6, .pointer I, .int .i64 x.p, .int .i64 x.q] 51 (0, 0)) := by rw [← hW1, ← hd]; exact heap_alloc_new wr _
            have HD : Hid (∀ W, Turn [] W1 W → W.cell? ⟨d, 0, none⟩ = some (.string x.nm) ∧ W.cell? ⟨d, 1, none⟩ = some (.string x.sup) ∧ W.cell? ⟨d, 2, none⟩ = some (.bool x.face)) := Lib.hid fun W k => ⟨cell_of_row W d 0 _ _ _ (k.heap b1 (by simp)), cell_of_row W d 1 _ _ _ (k.heap b1 (by simp)), cell_of_row W d 2 _ _ _ (k.heap b1 (by simp))⟩
            have p0 : wr.cell? ⟨r, 0, none⟩ = some (.slice (some ⟨b, off, none⟩) n c) := HP.out wr HR.out 0 _ rfl
            have e0 : wr.cell? ⟨b, off + i * 10, none⟩ = some (.string x.nm) := hcell 0 _ rfl
            have e1 := hcell 1 _ rfl
            have e2 := hcell 2 _ rfl
            have e3 := hcell 3 _ rfl
            have e4 := hcell 4 _ rfl
            have e5 := hcell 5 _ rfl
            have e6 := hcell 6 _ rfl
            have e7 := hcell 7 _ rfl
            have e8 := hcell 8 _ rfl
            have e9 := hcell 9 _ rfl
            have HR1 := Lib.hid (HR.out.trans' u1)
            have HW1 := Lib.hid hW1
            have HDD := Lib.hid hd
            clear hx hent hidx hxz hrl hsup hb hbl hcell hst hnf hd hW1 u1 b1
            go_upto_region 10 with fail
            rw [HDD.out, HW1.out]
            obtain ⟨z0, z1, z2⟩ := HD.out W1 (Turn.refl _ _)
            clear e0 e1 e2 e3 e4 e5 e6 e7 e8 e9 p0
            obtain ⟨em, hem⟩ : ∃ em, x.sup.toList.isEmpty = em := ⟨_, rfl⟩
            have HEM : Hid ((x.sup = ⟨#[]⟩) = (em = true)) := Lib.hid (by
              rw [← hem, ByteArray.toList_eq]
              apply propext
              constructor
              · intro h; rw [h]; rfl
              · intro h
                apply ByteArray.ext
                simpa using h)
            go_upto_if 83 with fail
            clear hem
            go_cut [11] (fun v11 w' => v11 = .int .i64 sup ∧ Hid (Turn [] W1 w'))
            case first =>
              cases em with
              | true =>
                have HSV : Hid (sup = -1) := Lib.hid (by rw [← HSU.out, if_pos (by rw [HEM.out])])
                go_wp2_with fail
                go_meet
                exact ⟨by rw [HSV.out], Lib.hid (Turn.refl _ _)⟩
              | false =>
                have HSV : Hid (fndI l x.sup = sup) := Lib.hid (by rw [← HSU.out, if_neg (by rw [HEM.out]; simp)])
                have HFx := Lib.hid (CFd.out W1 HR1.out x.sup)
                have q0 := HP.out W1 (HR1.out) 0 _ rfl
                have q1 := HP.out W1 (HR1.out) 1 _ rfl
                have q2 := HP.out W1 (HR1.out) 2 _ rfl
                have q3 := HP.out W1 (HR1.out) 3 _ rfl
                have q4 := HP.out W1 (HR1.out) 4 _ rfl
                have q5 := HP.out W1 (HR1.out) 5 _ rfl
                have q6 := HP.out W1 (HR1.out) 6 _ rfl
                have q7 := HP.out W1 (HR1.out) 7 _ rfl
                have q8 := HP.out W1 (HR1.out) 8 _ rfl
                have q9 := HP.out W1 (HR1.out) 9 _ rfl
                go_wp2_with fail
                refine HFx.out.mono ?_
                rintro e w5 ⟨rfl, t5⟩
                have HT5 := Lib.hid t5
                rw [HSV.out]
                clear t5 q0 q1 q2 q3 q4 q5 q6 q7 q8 q9
                go_wp2_with fail
                go_meet
                exact ⟨rfl, Lib.hid HT5.out⟩
            case rest =>
              obtain ⟨rfl, HC⟩ := hcut
              rename World => Wc
              have HTc := Lib.hid (HR1.out.trans' HC.out)
              obtain ⟨z0, z1, z2⟩ := HD.out Wc HC.out
              have HIx := Lib.hid (CIx.out Wc HTc.out)
              go_wp2_with fail
              refine HIx.out.mono ?_
              rintro e w6 ⟨rfl, t6⟩
              have HT6 := Lib.hid (HTc.out.trans' t6)
              have HSC : Hid (∀ w', Turn [] w6 w' → (w'.cell? ⟨r, 0, none⟩ = some (.slice (some ⟨b, off, none⟩) n c) ∧ w'.cell? ⟨r, 1, none⟩ = some m0 ∧ w'.cell? ⟨r, 2, none⟩ = some m1 ∧ w'.cell? ⟨r, 3, none⟩ = some m2 ∧ w'.cell? ⟨r, 4, none⟩ = some m3 ∧ w'.cell? ⟨r, 5, none⟩ = some m4 ∧ w'.cell? ⟨r, 6, none⟩ = some m5 ∧ w'.cell? ⟨r, 7, none⟩ = some m6 ∧ w'.cell? ⟨r, 8, none⟩ = some m7 ∧ w'.cell? ⟨r, 9, none⟩ = some m8 ∧ w'.cell? ⟨d, 0, none⟩ = some (.string x.nm) ∧ w'.cell? ⟨d, 2, none⟩ = some (.bool x.face))) := Lib.hid fun W k => ⟨HP.out W (HT6.out.trans' k) 0 _ rfl, HP.out W (HT6.out.trans' k) 1 _ rfl, HP.out W (HT6.out.trans' k) 2 _ rfl, HP.out W (HT6.out.trans' k) 3 _ rfl, HP.out W (HT6.out.trans' k) 4 _ rfl, HP.out W (HT6.out.trans' k) 5 _ rfl, HP.out W (HT6.out.trans' k) 6 _ rfl, HP.out W (HT6.out.trans' k) 7 _ rfl, HP.out W (HT6.out.trans' k) 8 _ rfl, HP.out W (HT6.out.trans' k) 9 _ rfl, (HD.out W (HC.out.trans' (t6.trans' k))).1, (HD.out W (HC.out.trans' (t6.trans' k))).2.2⟩
              clear t6 z0 z1 z2 HIx
              go_upto_region 14 with fail
              refine wp_region_held_drew (S := fun w' => w'.cell? ⟨r, 0, none⟩ = some (.slice (some ⟨b, off, none⟩) n c) ∧ w'.cell? ⟨r, 1, none⟩ = some m0 ∧ w'.cell? ⟨r, 2, none⟩ = some m1 ∧ w'.cell? ⟨r, 3, none⟩ = some m2 ∧ w'.cell? ⟨r, 4, none⟩ = some m3 ∧ w'.cell? ⟨r, 5, none⟩ = some m4 ∧ w'.cell? ⟨r, 6, none⟩ = some m5 ∧ w'.cell? ⟨r, 7, none⟩ = some m6 ∧ w'.cell? ⟨r, 8, none⟩ = some m7 ∧ w'.cell? ⟨r, 9, none⟩ = some m8 ∧ w'.cell? ⟨d, 0, none⟩ = some (.string x.nm) ∧ w'.cell? ⟨d, 2, none⟩ = some (.bool x.face)) (by kernel_rfl) ?_ (fun hHeld => ?_)
              · exact HSC.out _ (Turn.refl [] w6).drew
              refine wpAnyH_take (i := 0) (oi := { dst := some 95, op := Op.move (Operand.tmp 12), type := 3, pos := _, after := #[], guard := none }) (v := ?_) rfl (by kernel_rfl) (by kernel_rfl) (by kernel_rfl) (fun _ _ _ h => h) (Or.inl ⟨by rfl, ?_⟩) (by assumption) ?_
              rotate_left
              · intro w hSw; (try dsimp only at hSw); go_simp; (try with_reducible rfl)
              try simp only [Act.put, List.setIfInBounds_toArray, List.set_cons_zero, List.set_cons_succ]
              refine wpAnyH_take (i := 1) (oi := { dst := some 96, op := Op.move (Operand.tmp 9), type := 3, pos := _, after := #[], guard := none }) (v := ?_) rfl (by kernel_rfl) (by kernel_rfl) (by kernel_rfl) (fun _ _ _ h => h) (Or.inl ⟨by rfl, ?_⟩) (by assumption) ?_
              rotate_left
              · intro w hSw; (try dsimp only at hSw); go_simp; (try with_reducible rfl)
              try simp only [Act.put, List.setIfInBounds_toArray, List.set_cons_zero, List.set_cons_succ]
              refine wpAnyH_take (i := 2) (oi := { dst := some 97, op := Op.binOp BinOp.neq 3 (Operand.tmp 95) (Operand.tmp 96) 3, type := 4, pos := _, after := #[{ on := 0, ground := Ground.data }, { on := 1, ground := Ground.data }], guard := none }) (v := ?_) rfl (by kernel_rfl) (by kernel_rfl) (by kernel_rfl) (fun _ _ _ h => h) (Or.inl ⟨by rfl, ?_⟩) (by assumption) ?_
              rotate_left
              · intro w hSw; (try dsimp only at hSw); go_simp; (try with_reducible rfl)
              try simp only [Act.put, List.setIfInBounds_toArray, List.set_cons_zero, List.set_cons_succ]
              refine wpAnyH_take (i := 3) (oi := { dst := some 98, op := Op.move (Operand.tmp 97), type := 4, pos := _, after := #[{ on := 2, ground := Ground.data }], guard := none }) (v := ?_) rfl (by kernel_rfl) (by kernel_rfl) (by kernel_rfl) (fun _ _ _ h => h) (Or.inl ⟨by rfl, ?_⟩) (by assumption) ?_
              rotate_left
              · intro w hSw; (try dsimp only at hSw); go_simp; (try with_reducible rfl)
              try simp only [Act.put, List.setIfInBounds_toArray, List.set_cons_zero, List.set_cons_succ]
              refine wpAnyH_take (i := 4) (oi := { dst := some 99, op := Op.move (Operand.tmp 13), type := 4, pos := _, after := #[{ on := 3, ground := Ground.guard }], guard := some (3, false) }) (v := ?_) rfl (by kernel_rfl) (by kernel_rfl) (by kernel_rfl) (fun _ _ _ h => h) (Or.inl ⟨by rfl, ?_⟩) (by assumption) ?_
              rotate_left
              · intro w hSw; (try dsimp only at hSw); go_simp; (try with_reducible rfl)
              try simp only [Act.put, List.setIfInBounds_toArray, List.set_cons_zero, List.set_cons_succ]
              refine wpAnyH_take (i := 5) (oi := { dst := some 100, op := Op.unOp UnOp.not 4 (Operand.tmp 99), type := 4, pos := _, after := #[{ on := 4, ground := Ground.data }, { on := 3, ground := Ground.guard }], guard := some (3, false) }) (v := ?_) rfl (by kernel_rfl) (by kernel_rfl) (by kernel_rfl) (fun _ _ _ h => h) (Or.inl ⟨by rfl, ?_⟩) (by assumption) ?_
              rotate_left
              · intro w hSw; (try dsimp only at hSw); go_simp; (try with_reducible rfl)
              try simp only [Act.put, List.setIfInBounds_toArray, List.set_cons_zero, List.set_cons_succ]
              refine wpAnyH_take (i := 6) (oi := { dst := some 101, op := Op.pick (Operand.tmp 98) (Operand.const (Value.bool true)) (Operand.tmp 100), type := 4, pos := _, after := #[{ on := 3, ground := Ground.data }, { on := 5, ground := Ground.data }], guard := none }) (v := ?_) rfl (by kernel_rfl) (by kernel_rfl) (by kernel_rfl) (fun _ _ _ h => h) (Or.inl ⟨by rfl, ?_⟩) (by assumption) ?_
              rotate_left
              · intro w hSw; (try dsimp only at hSw); go_simp; (try with_reducible rfl)
              try simp only [Act.put, List.setIfInBounds_toArray, List.set_cons_zero, List.set_cons_succ]
              refine wpAnyH_take (i := 7) (oi := { dst := some 102, op := Op.move (Operand.tmp 101), type := 4, pos := _, after := #[{ on := 6, ground := Ground.data }, { on := 3, ground := Ground.chain }], guard := none }) (v := ?_) rfl (by kernel_rfl) (by kernel_rfl) (by kernel_rfl) (fun _ _ _ h => h) (Or.inl ⟨by rfl, ?_⟩) (by assumption) ?_
              rotate_left
              · intro w hSw; (try dsimp only at hSw); go_simp; (try with_reducible rfl)
              try simp only [Act.put, List.setIfInBounds_toArray, List.set_cons_zero, List.set_cons_succ]
              refine wpAnyH_take (i := 8) (oi := { dst := some 103, op := Op.move (Operand.tmp 7), type := 33, pos := _, after := #[{ on := 7, ground := Ground.guard }], guard := some (7, false) }) (v := ?_) rfl (by kernel_rfl) (by kernel_rfl) (by kernel_rfl) (fun _ _ _ h => h) (Or.inl ⟨by rfl, ?_⟩) (by assumption) ?_
              rotate_left
              · intro w hSw; (try dsimp only at hSw); go_simp; (try with_reducible rfl)
              try simp only [Act.put, List.setIfInBounds_toArray, List.set_cons_zero, List.set_cons_succ]
              refine wpAnyH_take (i := 9) (oi := { dst := some 104, op := Op.move (Operand.tmp 9), type := 3, pos := _, after := #[{ on := 7, ground := Ground.guard }], guard := some (7, false) }) (v := ?_) rfl (by kernel_rfl) (by kernel_rfl) (by kernel_rfl) (fun _ _ _ h => h) (Or.inl ⟨by rfl, ?_⟩) (by assumption) ?_
              rotate_left
              · intro w hSw; (try dsimp only at hSw); go_simp; (try with_reducible rfl)
              try simp only [Act.put, List.setIfInBounds_toArray, List.set_cons_zero, List.set_cons_succ]
              refine wpAnyH_take (i := 11) (oi := { dst := some 106, op := Op.fieldAddr 51 (Operand.tmp 10) 0, type := 0, pos := _, after := #[{ on := 7, ground := Ground.guard }], guard := some (7, false) }) (v := ?_) rfl (by kernel_rfl) (by kernel_rfl) (by kernel_rfl) (fun _ _ _ h => h) (Or.inl ⟨by rfl, ?_⟩) (by assumption) ?_
              rotate_left
              · intro w hSw; (try dsimp only at hSw); go_simp; (try with_reducible rfl)
              try simp only [Act.put, List.setIfInBounds_toArray, List.set_cons_zero, List.set_cons_succ]
              refine wpAnyH_take (i := 12) (oi := { dst := some 107, op := Op.load 9 (Operand.tmp 106), type := 9, pos := _, after := #[{ on := 11, ground := Ground.data }, { on := 7, ground := Ground.guard }], guard := some (7, false) }) (v := ?_) rfl (by kernel_rfl) (by kernel_rfl) (by kernel_rfl) (fun _ _ _ h => h) (Or.inl ⟨by rfl, ?_⟩) (by assumption) ?_
              rotate_left
              · intro w hSw; (try dsimp only at hSw); go_simp; (try with_reducible rfl)
              try simp only [Act.put, List.setIfInBounds_toArray, List.set_cons_zero, List.set_cons_succ]
              refine wpAnyH_ready (rs := [10]) (by kernel_rfl) (by simp) ?_
              refine AllReadyH.cons (o := { dst := some 105, op := Op.call { callee := Callee.value (Operand.func 20), args := #[Operand.tmp 103, Operand.tmp 104], argTypes := #[33, 3] }, type := 9, pos := _, after := #[{ on := 8, ground := Ground.data }, { on := 9, ground := Ground.data }, { on := 7, ground := Ground.chain }, { on := 7, ground := Ground.guard }], guard := some (7, false) }) rfl (fun K hK => ?_) AllReadyH.nil
              go_simp
              go_at_call 20
              (with_reducible refine (CNm.out w6.drew (HT6.out.trans' ((Turn.refl [] w6).drew))).mono ?_)
              rintro e w21 ⟨rfl, t21⟩
              have HT21 := Lib.hid (((Turn.refl [] w6).drew).trans' t21)
              clear t21
              try go_wp2_with fail
              refine hK.out _ _ ?_ (fun hHeld => ?_)
              · exact HSC.out _ (HT21.out)
              clear hK K
              try simp only [Act.put, List.setIfInBounds_toArray, List.set_cons_zero, List.set_cons_succ]
              refine wpAnyH_take (i := 13) (oi := { dst := some 108, op := Op.binOp BinOp.neq 9 (Operand.tmp 105) (Operand.tmp 107) 9, type := 4, pos := _, after := #[{ on := 10, ground := Ground.data }, { on := 12, ground := Ground.data }, { on := 7, ground := Ground.guard }], guard := some (7, false) }) (v := ?_) rfl (by kernel_rfl) (by kernel_rfl) (by kernel_rfl) (fun _ _ _ h => h) (Or.inl ⟨by rfl, ?_⟩) (by assumption) ?_
              rotate_left
              · intro w hSw; (try dsimp only at hSw); go_simp; (try with_reducible rfl)
              try simp only [Act.put, List.setIfInBounds_toArray, List.set_cons_zero, List.set_cons_succ]
              refine wpAnyH_take (i := 14) (oi := { dst := some 109, op := Op.pick (Operand.tmp 102) (Operand.const (Value.bool true)) (Operand.tmp 108), type := 4, pos := _, after := #[{ on := 7, ground := Ground.data }, { on := 13, ground := Ground.data }], guard := none }) (v := ?_) rfl (by kernel_rfl) (by kernel_rfl) (by kernel_rfl) (fun _ _ _ h => h) (Or.inl ⟨by rfl, ?_⟩) (by assumption) ?_
              rotate_left
              · intro w hSw; (try dsimp only at hSw); go_simp; (try with_reducible rfl)
              try simp only [Act.put, List.setIfInBounds_toArray, List.set_cons_zero, List.set_cons_succ]
              refine wpAnyH_take (i := 15) (oi := { dst := some 110, op := Op.move (Operand.tmp 109), type := 4, pos := _, after := #[{ on := 14, ground := Ground.data }, { on := 10, ground := Ground.chain }], guard := none }) (v := ?_) rfl (by kernel_rfl) (by kernel_rfl) (by kernel_rfl) (fun _ _ _ h => h) (Or.inl ⟨by rfl, ?_⟩) (by assumption) ?_
              rotate_left
              · intro w hSw; (try dsimp only at hSw); go_simp; (try with_reducible rfl)
              try simp only [Act.put, List.setIfInBounds_toArray, List.set_cons_zero, List.set_cons_succ]
              refine wpAnyH_take (i := 16) (oi := { dst := some 111, op := Op.move (Operand.tmp 7), type := 33, pos := _, after := #[{ on := 15, ground := Ground.guard }], guard := some (15, false) }) (v := ?_) rfl (by kernel_rfl) (by kernel_rfl) (by kernel_rfl) (fun _ _ _ h => h) (Or.inl ⟨by rfl, ?_⟩) (by assumption) ?_
              rotate_left
              · intro w hSw; (try dsimp only at hSw); go_simp; (try with_reducible rfl)
              try simp only [Act.put, List.setIfInBounds_toArray, List.set_cons_zero, List.set_cons_succ]
              refine wpAnyH_take (i := 17) (oi := { dst := some 112, op := Op.move (Operand.tmp 9), type := 3, pos := _, after := #[{ on := 15, ground := Ground.guard }], guard := some (15, false) }) (v := ?_) rfl (by kernel_rfl) (by kernel_rfl) (by kernel_rfl) (fun _ _ _ h => h) (Or.inl ⟨by rfl, ?_⟩) (by assumption) ?_
              rotate_left
              · intro w hSw; (try dsimp only at hSw); go_simp; (try with_reducible rfl)
              try simp only [Act.put, List.setIfInBounds_toArray, List.set_cons_zero, List.set_cons_succ]
              refine wpAnyH_take (i := 19) (oi := { dst := some 114, op := Op.fieldAddr 51 (Operand.tmp 10) 2, type := 0, pos := _, after := #[{ on := 15, ground := Ground.guard }], guard := some (15, false) }) (v := ?_) rfl (by kernel_rfl) (by kernel_rfl) (by kernel_rfl) (fun _ _ _ h => h) (Or.inl ⟨by rfl, ?_⟩) (by assumption) ?_
              rotate_left
              · intro w hSw; (try dsimp only at hSw); go_simp; (try with_reducible rfl)
              try simp only [Act.put, List.setIfInBounds_toArray, List.set_cons_zero, List.set_cons_succ]
              refine wpAnyH_take (i := 20) (oi := { dst := some 115, op := Op.load 4 (Operand.tmp 114), type := 4, pos := _, after := #[{ on := 19, ground := Ground.data }, { on := 15, ground := Ground.guard }], guard := some (15, false) }) (v := ?_) rfl (by kernel_rfl) (by kernel_rfl) (by kernel_rfl) (fun _ _ _ h => h) (Or.inl ⟨by rfl, ?_⟩) (by assumption) ?_
              rotate_left
              · intro w hSw; (try dsimp only at hSw); go_simp; (try with_reducible rfl)
              try simp only [Act.put, List.setIfInBounds_toArray, List.set_cons_zero, List.set_cons_succ]
              refine wpAnyH_ready (rs := [18]) (by kernel_rfl) (by simp) ?_
              refine AllReadyH.cons (o := { dst := some 113, op := Op.call { callee := Callee.value (Operand.func 21), args := #[Operand.tmp 111, Operand.tmp 112], argTypes := #[33, 3] }, type := 4, pos := _, after := #[{ on := 16, ground := Ground.data }, { on := 17, ground := Ground.data }, { on := 15, ground := Ground.chain }, { on := 15, ground := Ground.guard }], guard := some (15, false) }) rfl (fun K hK => ?_) AllReadyH.nil
              go_simp
              go_at_call 21
              (with_reducible refine (CFc.out w21 (HT6.out.trans' (HT21.out))).mono ?_)
              rintro e w22 ⟨rfl, t22⟩
              have HT22 := Lib.hid ((HT21.out).trans' t22)
              clear t22
              try go_wp2_with fail
              refine hK.out _ _ ?_ (fun hHeld => ?_)
              · exact HSC.out _ (HT22.out)
              clear hK K
              try simp only [Act.put, List.setIfInBounds_toArray, List.set_cons_zero, List.set_cons_succ]
              refine wpAnyH_take (i := 21) (oi := { dst := some 116, op := Op.binOp BinOp.neq 4 (Operand.tmp 113) (Operand.tmp 115) 4, type := 4, pos := _, after := #[{ on := 18, ground := Ground.data }, { on := 20, ground := Ground.data }, { on := 15, ground := Ground.guard }], guard := some (15, false) }) (v := ?_) rfl (by kernel_rfl) (by kernel_rfl) (by kernel_rfl) (fun _ _ _ h => h) (Or.inl ⟨by rfl, ?_⟩) (by assumption) ?_
              rotate_left
              · intro w hSw; (try dsimp only at hSw); go_simp; (try with_reducible rfl)
              try simp only [Act.put, List.setIfInBounds_toArray, List.set_cons_zero, List.set_cons_succ]
              refine wpAnyH_take (i := 22) (oi := { dst := some 117, op := Op.pick (Operand.tmp 110) (Operand.const (Value.bool true)) (Operand.tmp 116), type := 4, pos := _, after := #[{ on := 15, ground := Ground.data }, { on := 21, ground := Ground.data }], guard := none }) (v := ?_) rfl (by kernel_rfl) (by kernel_rfl) (by kernel_rfl) (fun _ _ _ h => h) (Or.inl ⟨by rfl, ?_⟩) (by assumption) ?_
              rotate_left
              · intro w hSw; (try dsimp only at hSw); go_simp; (try with_reducible rfl)
              try simp only [Act.put, List.setIfInBounds_toArray, List.set_cons_zero, List.set_cons_succ]
              refine wpAnyH_take (i := 23) (oi := { dst := some 118, op := Op.move (Operand.tmp 117), type := 4, pos := _, after := #[{ on := 22, ground := Ground.data }, { on := 18, ground := Ground.chain }], guard := none }) (v := ?_) rfl (by kernel_rfl) (by kernel_rfl) (by kernel_rfl) (fun _ _ _ h => h) (Or.inl ⟨by rfl, ?_⟩) (by assumption) ?_
              rotate_left
              · intro w hSw; (try dsimp only at hSw); go_simp; (try with_reducible rfl)
              try simp only [Act.put, List.setIfInBounds_toArray, List.set_cons_zero, List.set_cons_succ]
              refine wpAnyH_take (i := 24) (oi := { dst := some 119, op := Op.move (Operand.tmp 7), type := 33, pos := _, after := #[{ on := 23, ground := Ground.guard }], guard := some (23, false) }) (v := ?_) rfl (by kernel_rfl) (by kernel_rfl) (by kernel_rfl) (fun _ _ _ h => h) (Or.inl ⟨by rfl, ?_⟩) (by assumption) ?_
              rotate_left
              · intro w hSw; (try dsimp only at hSw); go_simp; (try with_reducible rfl)
              try simp only [Act.put, List.setIfInBounds_toArray, List.set_cons_zero, List.set_cons_succ]
              refine wpAnyH_take (i := 25) (oi := { dst := some 120, op := Op.move (Operand.tmp 9), type := 3, pos := _, after := #[{ on := 23, ground := Ground.guard }], guard := some (23, false) }) (v := ?_) rfl (by kernel_rfl) (by kernel_rfl) (by kernel_rfl) (fun _ _ _ h => h) (Or.inl ⟨by rfl, ?_⟩) (by assumption) ?_
              rotate_left
              · intro w hSw; (try dsimp only at hSw); go_simp; (try with_reducible rfl)
              try simp only [Act.put, List.setIfInBounds_toArray, List.set_cons_zero, List.set_cons_succ]
              refine wpAnyH_take (i := 27) (oi := { dst := some 122, op := Op.move (Operand.tmp 11), type := 3, pos := _, after := #[{ on := 23, ground := Ground.guard }], guard := some (23, false) }) (v := ?_) rfl (by kernel_rfl) (by kernel_rfl) (by kernel_rfl) (fun _ _ _ h => h) (Or.inl ⟨by rfl, ?_⟩) (by assumption) ?_
              rotate_left
              · intro w hSw; (try dsimp only at hSw); go_simp; (try with_reducible rfl)
              try simp only [Act.put, List.setIfInBounds_toArray, List.set_cons_zero, List.set_cons_succ]
              refine wpAnyH_ready (rs := [26]) (by kernel_rfl) (by simp) ?_
              refine AllReadyH.cons (o := { dst := some 121, op := Op.call { callee := Callee.value (Operand.func 22), args := #[Operand.tmp 119, Operand.tmp 120], argTypes := #[33, 3] }, type := 3, pos := _, after := #[{ on := 24, ground := Ground.data }, { on := 25, ground := Ground.data }, { on := 23, ground := Ground.chain }, { on := 23, ground := Ground.guard }], guard := some (23, false) }) rfl (fun K hK => ?_) AllReadyH.nil
              go_simp
              go_at_call 22
              (with_reducible refine (CSp.out w22 (HT6.out.trans' (HT22.out))).mono ?_)
              rintro e w23 ⟨rfl, t23⟩
              have HT23 := Lib.hid ((HT22.out).trans' t23)
              clear t23
              try go_wp2_with fail
              refine hK.out _ _ ?_ (fun hHeld => ?_)
              · exact HSC.out _ (HT23.out)
              clear hK K
              try simp only [Act.put, List.setIfInBounds_toArray, List.set_cons_zero, List.set_cons_succ]
              refine wpAnyH_take (i := 28) (oi := { dst := some 123, op := Op.binOp BinOp.neq 3 (Operand.tmp 121) (Operand.tmp 122) 3, type := 4, pos := _, after := #[{ on := 26, ground := Ground.data }, { on := 27, ground := Ground.data }, { on := 23, ground := Ground.guard }], guard := some (23, false) }) (v := ?_) rfl (by kernel_rfl) (by kernel_rfl) (by kernel_rfl) (fun _ _ _ h => h) (Or.inl ⟨by rfl, ?_⟩) (by assumption) ?_
              rotate_left
              · intro w hSw; (try dsimp only at hSw); go_simp; (try with_reducible rfl)
              try simp only [Act.put, List.setIfInBounds_toArray, List.set_cons_zero, List.set_cons_succ]
              refine wpAnyH_take (i := 29) (oi := { dst := some 124, op := Op.pick (Operand.tmp 118) (Operand.const (Value.bool true)) (Operand.tmp 123), type := 4, pos := _, after := #[{ on := 23, ground := Ground.data }, { on := 28, ground := Ground.data }], guard := none }) (v := ?_) rfl (by kernel_rfl) (by kernel_rfl) (by kernel_rfl) (fun _ _ _ h => h) (Or.inl ⟨by rfl, ?_⟩) (by assumption) ?_
              rotate_left
              · intro w hSw; (try dsimp only at hSw); go_simp; (try with_reducible rfl)
              try simp only [Act.put, List.setIfInBounds_toArray, List.set_cons_zero, List.set_cons_succ]
              refine wpAnyH_take (i := 30) (oi := { dst := some 125, op := Op.move (Operand.tmp 124), type := 4, pos := _, after := #[{ on := 29, ground := Ground.data }, { on := 26, ground := Ground.chain }], guard := none }) (v := ?_) rfl (by kernel_rfl) (by kernel_rfl) (by kernel_rfl) (fun _ _ _ h => h) (Or.inl ⟨by rfl, ?_⟩) (by assumption) ?_
              rotate_left
              · intro w hSw; (try dsimp only at hSw); go_simp; (try with_reducible rfl)
              try simp only [Act.put, List.setIfInBounds_toArray, List.set_cons_zero, List.set_cons_succ]
              refine wpAnyH_take (i := 31) (oi := { dst := some 126, op := Op.move (Operand.tmp 7), type := 33, pos := _, after := #[{ on := 30, ground := Ground.guard }], guard := some (30, false) }) (v := ?_) rfl (by kernel_rfl) (by kernel_rfl) (by kernel_rfl) (fun _ _ _ h => h) (Or.inl ⟨by rfl, ?_⟩) (by assumption) ?_
              rotate_left
              · intro w hSw; (try dsimp only at hSw); go_simp; (try with_reducible rfl)
              try simp only [Act.put, List.setIfInBounds_toArray, List.set_cons_zero, List.set_cons_succ]
              refine wpAnyH_take (i := 32) (oi := { dst := some 127, op := Op.move (Operand.tmp 9), type := 3, pos := _, after := #[{ on := 30, ground := Ground.guard }], guard := some (30, false) }) (v := ?_) rfl (by kernel_rfl) (by kernel_rfl) (by kernel_rfl) (fun _ _ _ h => h) (Or.inl ⟨by rfl, ?_⟩) (by assumption) ?_
              rotate_left
              · intro w hSw; (try dsimp only at hSw); go_simp; (try with_reducible rfl)
              try simp only [Act.put, List.setIfInBounds_toArray, List.set_cons_zero, List.set_cons_succ]
              refine wpAnyH_take (i := 34) (oi := { dst := some 129, op := Op.load 30 (Operand.tmp 3), type := 30, pos := _, after := #[{ on := 30, ground := Ground.guard }], guard := some (30, false) }) (v := ?_) rfl (by kernel_rfl) (by kernel_rfl) (by kernel_rfl) (fun _ _ _ h => h) (Or.inl ⟨by rfl, ?_⟩) (by assumption) ?_
              rotate_left
              · intro w hSw; (try dsimp only at hSw); go_simp; (try with_reducible rfl)
              try simp only [Act.put, List.setIfInBounds_toArray, List.set_cons_zero, List.set_cons_succ]
              refine wpAnyH_take (i := 35) (oi := { dst := some 130, op := Op.move (Operand.tmp 9), type := 3, pos := _, after := #[{ on := 30, ground := Ground.guard }], guard := some (30, false) }) (v := ?_) rfl (by kernel_rfl) (by kernel_rfl) (by kernel_rfl) (fun _ _ _ h => h) (Or.inl ⟨by rfl, ?_⟩) (by assumption) ?_
              rotate_left
              · intro w hSw; (try dsimp only at hSw); go_simp; (try with_reducible rfl)
              try simp only [Act.put, List.setIfInBounds_toArray, List.set_cons_zero, List.set_cons_succ]
              refine wpAnyH_ready (rs := [33]) (by kernel_rfl) (by simp) ?_
              refine AllReadyH.cons (o := { dst := some 128, op := Op.call { callee := Callee.value (Operand.func 23), args := #[Operand.tmp 126, Operand.tmp 127], argTypes := #[33, 3] }, type := 40, pos := _, after := #[{ on := 31, ground := Ground.data }, { on := 32, ground := Ground.data }, { on := 30, ground := Ground.chain }, { on := 30, ground := Ground.guard }], guard := some (30, false) }) rfl (fun K hK => ?_) AllReadyH.nil
              go_simp
              go_at_call 23
              (with_reducible refine (CRt.out w23 (HT6.out.trans' (HT23.out)) (i : Int) HRL.out).mono ?_)
              rintro e w24 ⟨U24, rfl, h24, t24⟩
              have HT24 := Lib.hid ((HT23.out).trans' t24)
              have HO24 := Lib.hid h24
              clear t24 h24
              try go_wp2_with fail
              refine hK.out _ _ ?_ (fun hHeld => ?_)
              · exact HSC.out _ (HT24.out)
              clear hK K
              try simp only [Act.put, List.setIfInBounds_toArray, List.set_cons_zero, List.set_cons_succ]
              refine wpAnyH_ready (rs := [36]) (by kernel_rfl) (by simp) ?_
              refine AllReadyH.cons (o := { dst := some 131, op := Op.call { callee := Callee.value (Operand.func 24), args := #[Operand.tmp 129, Operand.tmp 130], argTypes := #[30, 3] }, type := 40, pos := _, after := #[{ on := 34, ground := Ground.data }, { on := 35, ground := Ground.data }, { on := 33, ground := Ground.chain }, { on := 30, ground := Ground.guard }], guard := some (30, false) }) rfl (fun K hK => ?_) AllReadyH.nil
              go_simp
              go_at_call 24
              (with_reducible refine (CRRt.out w24 (HT6.out.trans' (HT24.out)) i x HX.out).mono ?_)
              rintro e w25 ⟨U25, rfl, h25, t25⟩
              have HT25 := Lib.hid ((HT24.out).trans' t25)
              have HO24 := Lib.hid (HO24.out.turn' t25)
              have HO25 := Lib.hid h25
              clear t25 h25
              try go_wp2_with fail
              refine hK.out _ _ ?_ (fun hHeld => ?_)
              · exact HSC.out _ (HT25.out)
              clear hK K
              try simp only [Act.put, List.setIfInBounds_toArray, List.set_cons_zero, List.set_cons_succ]
              refine wpAnyH_ready (rs := [37]) (by kernel_rfl) (by simp) ?_
              refine AllReadyH.cons (o := { dst := some 132, op := Op.call { callee := Callee.value (Operand.func 13), args := #[Operand.tmp 128, Operand.tmp 131], argTypes := #[40, 40] }, type := 4, pos := _, after := #[{ on := 33, ground := Ground.data }, { on := 36, ground := Ground.data }, { on := 36, ground := Ground.chain }, { on := 30, ground := Ground.guard }], guard := some (30, false) }) rfl (fun K hK => ?_) AllReadyH.nil
              go_simp
              go_at_call 13
              (with_reducible refine (same_own w25 HO24.out HO25.out (by simp only [ofN, List.length_map]; exact HRL.out)).mono ?_)
              rintro e w26 ⟨rfl, t26⟩
              have HT26 := Lib.hid ((HT25.out).trans' t26)
              clear t26
              try go_wp2_with fail
              refine hK.out _ _ ?_ (fun hHeld => ?_)
              · exact HSC.out _ (HT26.out)
              clear hK K
              try simp only [Act.put, List.setIfInBounds_toArray, List.set_cons_zero, List.set_cons_succ]
              refine wpAnyH_take (i := 38) (oi := { dst := some 133, op := Op.unOp UnOp.not 4 (Operand.tmp 132), type := 4, pos := _, after := #[{ on := 37, ground := Ground.data }, { on := 30, ground := Ground.guard }], guard := some (30, false) }) (v := ?_) rfl (by kernel_rfl) (by kernel_rfl) (by kernel_rfl) (fun _ _ _ h => h) (Or.inl ⟨by rfl, ?_⟩) (by assumption) ?_
              rotate_left
              · intro w hSw; (try dsimp only at hSw); go_simp; (try with_reducible rfl)
              try simp only [Act.put, List.setIfInBounds_toArray, List.set_cons_zero, List.set_cons_succ]
              refine wpAnyH_take (i := 39) (oi := { dst := some 134, op := Op.pick (Operand.tmp 125) (Operand.const (Value.bool true)) (Operand.tmp 133), type := 4, pos := _, after := #[{ on := 30, ground := Ground.data }, { on := 38, ground := Ground.data }], guard := none }) (v := ?_) rfl (by kernel_rfl) (by kernel_rfl) (by kernel_rfl) (fun _ _ _ h => h) (Or.inl ⟨by rfl, ?_⟩) (by assumption) ?_
              rotate_left
              · intro w hSw; (try dsimp only at hSw); go_simp; (try with_reducible rfl)
              try simp only [Act.put, List.setIfInBounds_toArray, List.set_cons_zero, List.set_cons_succ]
              refine wpAnyH_take (i := 40) (oi := { dst := some 135, op := Op.move (Operand.tmp 134), type := 4, pos := _, after := #[{ on := 39, ground := Ground.data }, { on := 37, ground := Ground.chain }], guard := none }) (v := ?_) rfl (by kernel_rfl) (by kernel_rfl) (by kernel_rfl) (fun _ _ _ h => h) (Or.inl ⟨by rfl, ?_⟩) (by assumption) ?_
              rotate_left
              · intro w hSw; (try dsimp only at hSw); go_simp; (try with_reducible rfl)
              try simp only [Act.put, List.setIfInBounds_toArray, List.set_cons_zero, List.set_cons_succ]
              refine wpAnyH_take (i := 41) (oi := { dst := some 136, op := Op.move (Operand.tmp 7), type := 33, pos := _, after := #[{ on := 40, ground := Ground.guard }], guard := some (40, false) }) (v := ?_) rfl (by kernel_rfl) (by kernel_rfl) (by kernel_rfl) (fun _ _ _ h => h) (Or.inl ⟨by rfl, ?_⟩) (by assumption) ?_
              rotate_left
              · intro w hSw; (try dsimp only at hSw); go_simp; (try with_reducible rfl)
              try simp only [Act.put, List.setIfInBounds_toArray, List.set_cons_zero, List.set_cons_succ]
              refine wpAnyH_take (i := 42) (oi := { dst := some 137, op := Op.move (Operand.tmp 9), type := 3, pos := _, after := #[{ on := 40, ground := Ground.guard }], guard := some (40, false) }) (v := ?_) rfl (by kernel_rfl) (by kernel_rfl) (by kernel_rfl) (fun _ _ _ h => h) (Or.inl ⟨by rfl, ?_⟩) (by assumption) ?_
              rotate_left
              · intro w hSw; (try dsimp only at hSw); go_simp; (try with_reducible rfl)
              try simp only [Act.put, List.setIfInBounds_toArray, List.set_cons_zero, List.set_cons_succ]
              refine wpAnyH_take (i := 45) (oi := { dst := some 140, op := Op.load 30 (Operand.tmp 3), type := 30, pos := _, after := #[{ on := 40, ground := Ground.guard }], guard := some (40, false) }) (v := ?_) rfl (by kernel_rfl) (by kernel_rfl) (by kernel_rfl) (fun _ _ _ h => h) (Or.inl ⟨by rfl, ?_⟩) (by assumption) ?_
              rotate_left
              · intro w hSw; (try dsimp only at hSw); go_simp; (try with_reducible rfl)
              try simp only [Act.put, List.setIfInBounds_toArray, List.set_cons_zero, List.set_cons_succ]
              refine wpAnyH_take (i := 46) (oi := { dst := some 141, op := Op.move (Operand.tmp 9), type := 3, pos := _, after := #[{ on := 40, ground := Ground.guard }], guard := some (40, false) }) (v := ?_) rfl (by kernel_rfl) (by kernel_rfl) (by kernel_rfl) (fun _ _ _ h => h) (Or.inl ⟨by rfl, ?_⟩) (by assumption) ?_
              rotate_left
              · intro w hSw; (try dsimp only at hSw); go_simp; (try with_reducible rfl)
              try simp only [Act.put, List.setIfInBounds_toArray, List.set_cons_zero, List.set_cons_succ]
              refine wpAnyH_ready (rs := [43, 47]) (by kernel_rfl) (by simp) ?_
              refine AllReadyH.cons (o := { dst := some 138, op := Op.buildSlice 40 1 #[(0, Operand.tmp 137)], type := 40, pos := _, after := #[{ on := 42, ground := Ground.data }, { on := 40, ground := Ground.guard }], guard := some (40, false) }) rfl (fun K hK => ?_) (AllReadyH.cons (o := { dst := some 142, op := Op.buildSlice 40 1 #[(0, Operand.tmp 141)], type := 40, pos := _, after := #[{ on := 46, ground := Ground.data }, { on := 40, ground := Ground.guard }], guard := some (40, false) }) rfl (fun K hK => ?_) AllReadyH.nil)
              · go_simp
                have a27 : Turn [] w26 (w26.alloc (.cells #[.int .i64 (i : Int)] 3)) := (Turn.refl [] w26).alloc _
                have HI27 : Hid (Ints (w26.alloc (.cells #[.int .i64 (i : Int)] 3)) (some ⟨w26.heap.size, 0, none⟩) [(i : Int)]) := Lib.hid (by rw [show w26.heap.size = w26.heap.size from by simp]; exact ints_one w26 3 (i : Int))
                have HT27 := Lib.hid ((HT26.out).trans' a27)
                clear a27
                refine hK.out _ _ ?_ (fun hHeld => ?_)
                · exact HSC.out _ (HT27.out)
                clear hK K
                try simp only [Act.put, List.setIfInBounds_toArray, List.set_cons_zero, List.set_cons_succ]
                refine wpAnyH_ready (rs := [44, 47]) (by kernel_rfl) (by simp) ?_
                refine AllReadyH.cons (o := { dst := some 139, op := Op.call { callee := Callee.value (Operand.func 16), args := #[Operand.tmp 136, Operand.tmp 138], argTypes := #[33, 40] }, type := 40, pos := _, after := #[{ on := 41, ground := Ground.data }, { on := 43, ground := Ground.data }, { on := 40, ground := Ground.chain }, { on := 40, ground := Ground.guard }], guard := some (40, false) }) rfl (fun K hK => ?_) (AllReadyH.cons (o := { dst := some 142, op := Op.buildSlice 40 1 #[(0, Operand.tmp 141)], type := 40, pos := _, after := #[{ on := 46, ground := Ground.data }, { on := 40, ground := Ground.guard }], guard := some (40, false) }) rfl (fun K hK => ?_) AllReadyH.nil)
                · go_simp
                  go_at_call 16
                  (with_reducible refine (CAbv.out (w26.alloc (.cells #[.int .i64 (i : Int)] 3)) (HT6.out.trans' (HT27.out)) _ 1 1 [(i : Int)] HI27.out rfl (by omega)).mono ?_)
                  rintro e w28 ⟨U28, rfl, h28, t28⟩
                  have HT28 := Lib.hid ((HT27.out).trans' t28)
                  have HI27 := Lib.hid (HI27.out.below t28)
                  have HO28 := Lib.hid h28
                  clear t28 h28
                  try go_wp2_with fail
                  refine hK.out _ _ ?_ (fun hHeld => ?_)
                  · exact HSC.out _ (HT28.out)
                  clear hK K
                  try simp only [Act.put, List.setIfInBounds_toArray, List.set_cons_zero, List.set_cons_succ]
                  refine wpAnyH_ready (rs := [47]) (by kernel_rfl) (by simp) ?_
                  refine AllReadyH.cons (o := { dst := some 142, op := Op.buildSlice 40 1 #[(0, Operand.tmp 141)], type := 40, pos := _, after := #[{ on := 46, ground := Ground.data }, { on := 40, ground := Ground.guard }], guard := some (40, false) }) rfl (fun K hK => ?_) AllReadyH.nil
                  go_simp
                  have a29 : Turn [] w28 (w28.alloc (.cells #[.int .i64 (i : Int)] 3)) := (Turn.refl [] w28).alloc _
                  have HI29 : Hid (Ints (w28.alloc (.cells #[.int .i64 (i : Int)] 3)) (some ⟨w28.heap.size, 0, none⟩) [(i : Int)]) := Lib.hid (by rw [show w28.heap.size = w28.heap.size from by simp]; exact ints_one w28 3 (i : Int))
                  have HT29 := Lib.hid ((HT28.out).trans' a29)
                  have HI27 := Lib.hid (HI27.out.below a29)
                  have HO28 := Lib.hid (HO28.out.turn' a29)
                  clear a29
                  refine hK.out _ _ ?_ (fun hHeld => ?_)
                  · exact HSC.out _ (HT29.out)
                  clear hK K
                  try simp only [Act.put, List.setIfInBounds_toArray, List.set_cons_zero, List.set_cons_succ]
                  refine wpAnyH_ready (rs := [48]) (by kernel_rfl) (by simp) ?_
                  refine AllReadyH.cons (o := { dst := some 143, op := Op.call { callee := Callee.value (Operand.func 17), args := #[Operand.tmp 140, Operand.tmp 142], argTypes := #[30, 40] }, type := 40, pos := _, after := #[{ on := 45, ground := Ground.data }, { on := 47, ground := Ground.data }, { on := 44, ground := Ground.chain }, { on := 40, ground := Ground.guard }], guard := some (40, false) }) rfl (fun K hK => ?_) AllReadyH.nil
                  go_simp
                  go_at_call 17
                  (with_reducible refine (CRAb.out (w28.alloc (.cells #[.int .i64 (i : Int)] 3)) (HT6.out.trans' (HT29.out)) _ 1 1 [(i : Int)] HI29.out rfl (by omega)).mono ?_)
                  rintro e w30 ⟨U30, rfl, h30, t30⟩
                  have HT30 := Lib.hid ((HT29.out).trans' t30)
                  have HI27 := Lib.hid (HI27.out.below t30)
                  have HO28 := Lib.hid (HO28.out.turn' t30)
                  have HI29 := Lib.hid (HI29.out.below t30)
                  have HO30 := Lib.hid h30
                  clear t30 h30
                  try go_wp2_with fail
                  refine hK.out _ _ ?_ (fun hHeld => ?_)
                  · exact HSC.out _ (HT30.out)
                  clear hK K
                  try simp only [Act.put, List.setIfInBounds_toArray, List.set_cons_zero, List.set_cons_succ]
                  refine wpAnyH_ready (rs := [49]) (by kernel_rfl) (by simp) ?_
                  refine AllReadyH.cons (o := { dst := some 144, op := Op.call { callee := Callee.value (Operand.func 13), args := #[Operand.tmp 139, Operand.tmp 143], argTypes := #[40, 40] }, type := 4, pos := _, after := #[{ on := 44, ground := Ground.data }, { on := 48, ground := Ground.data }, { on := 48, ground := Ground.chain }, { on := 40, ground := Ground.guard }], guard := some (40, false) }) rfl (fun K hK => ?_) AllReadyH.nil
                  go_simp
                  go_at_call 13
                  (with_reducible refine (same_own w30 HO28.out HO30.out (HAL.out _)).mono ?_)
                  rintro e w31 ⟨rfl, t31⟩
                  have HT31 := Lib.hid ((HT30.out).trans' t31)
                  clear t31
                  try go_wp2_with fail
                  refine hK.out _ _ ?_ (fun hHeld => ?_)
                  · exact HSC.out _ (HT31.out)
                  clear hK K
                  try simp only [Act.put, List.setIfInBounds_toArray, List.set_cons_zero, List.set_cons_succ]
                  refine wpAnyH_take (i := 50) (oi := { dst := some 145, op := Op.unOp UnOp.not 4 (Operand.tmp 144), type := 4, pos := _, after := #[{ on := 49, ground := Ground.data }, { on := 40, ground := Ground.guard }], guard := some (40, false) }) (v := ?_) rfl (by kernel_rfl) (by kernel_rfl) (by kernel_rfl) (fun _ _ _ h => h) (Or.inl ⟨by rfl, ?_⟩) (by assumption) ?_
                  rotate_left
                  · intro w hSw; (try dsimp only at hSw); go_simp; (try with_reducible rfl)
                  try simp only [Act.put, List.setIfInBounds_toArray, List.set_cons_zero, List.set_cons_succ]
                  refine wpAnyH_take (i := 51) (oi := { dst := some 146, op := Op.pick (Operand.tmp 135) (Operand.const (Value.bool true)) (Operand.tmp 145), type := 4, pos := _, after := #[{ on := 40, ground := Ground.data }, { on := 50, ground := Ground.data }], guard := none }) (v := ?_) rfl (by kernel_rfl) (by kernel_rfl) (by kernel_rfl) (fun _ _ _ h => h) (Or.inl ⟨by rfl, ?_⟩) (by assumption) ?_
                  rotate_left
                  · intro w hSw; (try dsimp only at hSw); go_simp; (try with_reducible rfl)
                  try simp only [Act.put, List.setIfInBounds_toArray, List.set_cons_zero, List.set_cons_succ]
                  refine wpAnyH_done (by kernel_rfl) ?_ _
                  go_wp2_with fail
                  go_roundw
                  case rel => exact ⟨i + 1, by omega, by go_num, Lib.hid (HT6.out.trans' (HT31.out))⟩
                  case measure => simp [intOf]; omega
                · go_simp
                  have a28 : Turn [] (w26.alloc (.cells #[.int .i64 (i : Int)] 3)) ((w26.alloc (.cells #[.int .i64 (i : Int)] 3)).alloc (.cells #[.int .i64 (i : Int)] 3)) := (Turn.refl [] (w26.alloc (.cells #[.int .i64 (i : Int)] 3))).alloc _
                  have HI28 : Hid (Ints ((w26.alloc (.cells #[.int .i64 (i : Int)] 3)).alloc (.cells #[.int .i64 (i : Int)] 3)) (some ⟨w26.heap.size + 1, 0, none⟩) [(i : Int)]) := Lib.hid (by rw [show w26.heap.size + 1 = (w26.alloc (.cells #[.int .i64 (i : Int)] 3)).heap.size from by simp]; exact ints_one (w26.alloc (.cells #[.int .i64 (i : Int)] 3)) 3 (i : Int))
                  have HT28 := Lib.hid ((HT27.out).trans' a28)
                  have HI27 := Lib.hid (HI27.out.below a28)
                  clear a28
                  refine hK.out _ _ ?_ (fun hHeld => ?_)
                  · exact HSC.out _ (HT28.out)
                  clear hK K
                  try simp only [Act.put, List.setIfInBounds_toArray, List.set_cons_zero, List.set_cons_succ]
                  refine wpAnyH_ready (rs := [44]) (by kernel_rfl) (by simp) ?_
                  refine AllReadyH.cons (o := { dst := some 139, op := Op.call { callee := Callee.value (Operand.func 16), args := #[Operand.tmp 136, Operand.tmp 138], argTypes := #[33, 40] }, type := 40, pos := _, after := #[{ on := 41, ground := Ground.data }, { on := 43, ground := Ground.data }, { on := 40, ground := Ground.chain }, { on := 40, ground := Ground.guard }], guard := some (40, false) }) rfl (fun K hK => ?_) AllReadyH.nil
                  go_simp
                  go_at_call 16
                  (with_reducible refine (CAbv.out ((w26.alloc (.cells #[.int .i64 (i : Int)] 3)).alloc (.cells #[.int .i64 (i : Int)] 3)) (HT6.out.trans' (HT28.out)) _ 1 1 [(i : Int)] HI27.out rfl (by omega)).mono ?_)
                  rintro e w29 ⟨U29, rfl, h29, t29⟩
                  have HT29 := Lib.hid ((HT28.out).trans' t29)
                  have HI27 := Lib.hid (HI27.out.below t29)
                  have HI28 := Lib.hid (HI28.out.below t29)
                  have HO29 := Lib.hid h29
                  clear t29 h29
                  try go_wp2_with fail
                  refine hK.out _ _ ?_ (fun hHeld => ?_)
                  · exact HSC.out _ (HT29.out)
                  clear hK K
                  try simp only [Act.put, List.setIfInBounds_toArray, List.set_cons_zero, List.set_cons_succ]
                  refine wpAnyH_ready (rs := [48]) (by kernel_rfl) (by simp) ?_
                  refine AllReadyH.cons (o := { dst := some 143, op := Op.call { callee := Callee.value (Operand.func 17), args := #[Operand.tmp 140, Operand.tmp 142], argTypes := #[30, 40] }, type := 40, pos := _, after := #[{ on := 45, ground := Ground.data }, { on := 47, ground := Ground.data }, { on := 44, ground := Ground.chain }, { on := 40, ground := Ground.guard }], guard := some (40, false) }) rfl (fun K hK => ?_) AllReadyH.nil
                  go_simp
                  go_at_call 17
                  (with_reducible refine (CRAb.out w29 (HT6.out.trans' (HT29.out)) _ 1 1 [(i : Int)] HI28.out rfl (by omega)).mono ?_)
                  rintro e w30 ⟨U30, rfl, h30, t30⟩
                  have HT30 := Lib.hid ((HT29.out).trans' t30)
                  have HI27 := Lib.hid (HI27.out.below t30)
                  have HI28 := Lib.hid (HI28.out.below t30)
                  have HO29 := Lib.hid (HO29.out.turn' t30)
                  have HO30 := Lib.hid h30
                  clear t30 h30
                  try go_wp2_with fail
                  refine hK.out _ _ ?_ (fun hHeld => ?_)
                  · exact HSC.out _ (HT30.out)
                  clear hK K
                  try simp only [Act.put, List.setIfInBounds_toArray, List.set_cons_zero, List.set_cons_succ]
                  refine wpAnyH_ready (rs := [49]) (by kernel_rfl) (by simp) ?_
                  refine AllReadyH.cons (o := { dst := some 144, op := Op.call { callee := Callee.value (Operand.func 13), args := #[Operand.tmp 139, Operand.tmp 143], argTypes := #[40, 40] }, type := 4, pos := _, after := #[{ on := 44, ground := Ground.data }, { on := 48, ground := Ground.data }, { on := 48, ground := Ground.chain }, { on := 40, ground := Ground.guard }], guard := some (40, false) }) rfl (fun K hK => ?_) AllReadyH.nil
                  go_simp
                  go_at_call 13
                  (with_reducible refine (same_own w30 HO29.out HO30.out (HAL.out _)).mono ?_)
                  rintro e w31 ⟨rfl, t31⟩
                  have HT31 := Lib.hid ((HT30.out).trans' t31)
                  clear t31
                  try go_wp2_with fail
                  refine hK.out _ _ ?_ (fun hHeld => ?_)
                  · exact HSC.out _ (HT31.out)
                  clear hK K
                  try simp only [Act.put, List.setIfInBounds_toArray, List.set_cons_zero, List.set_cons_succ]
                  refine wpAnyH_take (i := 50) (oi := { dst := some 145, op := Op.unOp UnOp.not 4 (Operand.tmp 144), type := 4, pos := _, after := #[{ on := 49, ground := Ground.data }, { on := 40, ground := Ground.guard }], guard := some (40, false) }) (v := ?_) rfl (by kernel_rfl) (by kernel_rfl) (by kernel_rfl) (fun _ _ _ h => h) (Or.inl ⟨by rfl, ?_⟩) (by assumption) ?_
                  rotate_left
                  · intro w hSw; (try dsimp only at hSw); go_simp; (try with_reducible rfl)
                  try simp only [Act.put, List.setIfInBounds_toArray, List.set_cons_zero, List.set_cons_succ]
                  refine wpAnyH_take (i := 51) (oi := { dst := some 146, op := Op.pick (Operand.tmp 135) (Operand.const (Value.bool true)) (Operand.tmp 145), type := 4, pos := _, after := #[{ on := 40, ground := Ground.data }, { on := 50, ground := Ground.data }], guard := none }) (v := ?_) rfl (by kernel_rfl) (by kernel_rfl) (by kernel_rfl) (fun _ _ _ h => h) (Or.inl ⟨by rfl, ?_⟩) (by assumption) ?_
                  rotate_left
                  · intro w hSw; (try dsimp only at hSw); go_simp; (try with_reducible rfl)
                  try simp only [Act.put, List.setIfInBounds_toArray, List.set_cons_zero, List.set_cons_succ]
                  refine wpAnyH_done (by kernel_rfl) ?_ _
                  go_wp2_with fail
                  go_roundw
                  case rel => exact ⟨i + 1, by omega, by go_num, Lib.hid (HT6.out.trans' (HT31.out))⟩
                  case measure => simp [intOf]; omega
              · go_simp
                have a27 : Turn [] w26 (w26.alloc (.cells #[.int .i64 (i : Int)] 3)) := (Turn.refl [] w26).alloc _
                have HI27 : Hid (Ints (w26.alloc (.cells #[.int .i64 (i : Int)] 3)) (some ⟨w26.heap.size, 0, none⟩) [(i : Int)]) := Lib.hid (by rw [show w26.heap.size = w26.heap.size from by simp]; exact ints_one w26 3 (i : Int))
                have HT27 := Lib.hid ((HT26.out).trans' a27)
                clear a27
                refine hK.out _ _ ?_ (fun hHeld => ?_)
                · exact HSC.out _ (HT27.out)
                clear hK K
                try simp only [Act.put, List.setIfInBounds_toArray, List.set_cons_zero, List.set_cons_succ]
                refine wpAnyH_ready (rs := [43]) (by kernel_rfl) (by simp) ?_
                refine AllReadyH.cons (o := { dst := some 138, op := Op.buildSlice 40 1 #[(0, Operand.tmp 137)], type := 40, pos := _, after := #[{ on := 42, ground := Ground.data }, { on := 40, ground := Ground.guard }], guard := some (40, false) }) rfl (fun K hK => ?_) AllReadyH.nil
                go_simp
                have a28 : Turn [] (w26.alloc (.cells #[.int .i64 (i : Int)] 3)) ((w26.alloc (.cells #[.int .i64 (i : Int)] 3)).alloc (.cells #[.int .i64 (i : Int)] 3)) := (Turn.refl [] (w26.alloc (.cells #[.int .i64 (i : Int)] 3))).alloc _
                have HI28 : Hid (Ints ((w26.alloc (.cells #[.int .i64 (i : Int)] 3)).alloc (.cells #[.int .i64 (i : Int)] 3)) (some ⟨w26.heap.size + 1, 0, none⟩) [(i : Int)]) := Lib.hid (by rw [show w26.heap.size + 1 = (w26.alloc (.cells #[.int .i64 (i : Int)] 3)).heap.size from by simp]; exact ints_one (w26.alloc (.cells #[.int .i64 (i : Int)] 3)) 3 (i : Int))
                have HT28 := Lib.hid ((HT27.out).trans' a28)
                have HI27 := Lib.hid (HI27.out.below a28)
                clear a28
                refine hK.out _ _ ?_ (fun hHeld => ?_)
                · exact HSC.out _ (HT28.out)
                clear hK K
                try simp only [Act.put, List.setIfInBounds_toArray, List.set_cons_zero, List.set_cons_succ]
                refine wpAnyH_ready (rs := [44]) (by kernel_rfl) (by simp) ?_
                refine AllReadyH.cons (o := { dst := some 139, op := Op.call { callee := Callee.value (Operand.func 16), args := #[Operand.tmp 136, Operand.tmp 138], argTypes := #[33, 40] }, type := 40, pos := _, after := #[{ on := 41, ground := Ground.data }, { on := 43, ground := Ground.data }, { on := 40, ground := Ground.chain }, { on := 40, ground := Ground.guard }], guard := some (40, false) }) rfl (fun K hK => ?_) AllReadyH.nil
                go_simp
                go_at_call 16
                (with_reducible refine (CAbv.out ((w26.alloc (.cells #[.int .i64 (i : Int)] 3)).alloc (.cells #[.int .i64 (i : Int)] 3)) (HT6.out.trans' (HT28.out)) _ 1 1 [(i : Int)] HI28.out rfl (by omega)).mono ?_)
                rintro e w29 ⟨U29, rfl, h29, t29⟩
                have HT29 := Lib.hid ((HT28.out).trans' t29)
                have HI27 := Lib.hid (HI27.out.below t29)
                have HI28 := Lib.hid (HI28.out.below t29)
                have HO29 := Lib.hid h29
                clear t29 h29
                try go_wp2_with fail
                refine hK.out _ _ ?_ (fun hHeld => ?_)
                · exact HSC.out _ (HT29.out)
                clear hK K
                try simp only [Act.put, List.setIfInBounds_toArray, List.set_cons_zero, List.set_cons_succ]
                refine wpAnyH_ready (rs := [48]) (by kernel_rfl) (by simp) ?_
                refine AllReadyH.cons (o := { dst := some 143, op := Op.call { callee := Callee.value (Operand.func 17), args := #[Operand.tmp 140, Operand.tmp 142], argTypes := #[30, 40] }, type := 40, pos := _, after := #[{ on := 45, ground := Ground.data }, { on := 47, ground := Ground.data }, { on := 44, ground := Ground.chain }, { on := 40, ground := Ground.guard }], guard := some (40, false) }) rfl (fun K hK => ?_) AllReadyH.nil
                go_simp
                go_at_call 17
                (with_reducible refine (CRAb.out w29 (HT6.out.trans' (HT29.out)) _ 1 1 [(i : Int)] HI27.out rfl (by omega)).mono ?_)
                rintro e w30 ⟨U30, rfl, h30, t30⟩
                have HT30 := Lib.hid ((HT29.out).trans' t30)
                have HI27 := Lib.hid (HI27.out.below t30)
                have HI28 := Lib.hid (HI28.out.below t30)
                have HO29 := Lib.hid (HO29.out.turn' t30)
                have HO30 := Lib.hid h30
                clear t30 h30
                try go_wp2_with fail
                refine hK.out _ _ ?_ (fun hHeld => ?_)
                · exact HSC.out _ (HT30.out)
                clear hK K
                try simp only [Act.put, List.setIfInBounds_toArray, List.set_cons_zero, List.set_cons_succ]
                refine wpAnyH_ready (rs := [49]) (by kernel_rfl) (by simp) ?_
                refine AllReadyH.cons (o := { dst := some 144, op := Op.call { callee := Callee.value (Operand.func 13), args := #[Operand.tmp 139, Operand.tmp 143], argTypes := #[40, 40] }, type := 4, pos := _, after := #[{ on := 44, ground := Ground.data }, { on := 48, ground := Ground.data }, { on := 48, ground := Ground.chain }, { on := 40, ground := Ground.guard }], guard := some (40, false) }) rfl (fun K hK => ?_) AllReadyH.nil
                go_simp
                go_at_call 13
                (with_reducible refine (same_own w30 HO29.out HO30.out (HAL.out _)).mono ?_)
                rintro e w31 ⟨rfl, t31⟩
                have HT31 := Lib.hid ((HT30.out).trans' t31)
                clear t31
                try go_wp2_with fail
                refine hK.out _ _ ?_ (fun hHeld => ?_)
                · exact HSC.out _ (HT31.out)
                clear hK K
                try simp only [Act.put, List.setIfInBounds_toArray, List.set_cons_zero, List.set_cons_succ]
                refine wpAnyH_take (i := 50) (oi := { dst := some 145, op := Op.unOp UnOp.not 4 (Operand.tmp 144), type := 4, pos := _, after := #[{ on := 49, ground := Ground.data }, { on := 40, ground := Ground.guard }], guard := some (40, false) }) (v := ?_) rfl (by kernel_rfl) (by kernel_rfl) (by kernel_rfl) (fun _ _ _ h => h) (Or.inl ⟨by rfl, ?_⟩) (by assumption) ?_
                rotate_left
                · intro w hSw; (try dsimp only at hSw); go_simp; (try with_reducible rfl)
                try simp only [Act.put, List.setIfInBounds_toArray, List.set_cons_zero, List.set_cons_succ]
                refine wpAnyH_take (i := 51) (oi := { dst := some 146, op := Op.pick (Operand.tmp 135) (Operand.const (Value.bool true)) (Operand.tmp 145), type := 4, pos := _, after := #[{ on := 40, ground := Ground.data }, { on := 50, ground := Ground.data }], guard := none }) (v := ?_) rfl (by kernel_rfl) (by kernel_rfl) (by kernel_rfl) (fun _ _ _ h => h) (Or.inl ⟨by rfl, ?_⟩) (by assumption) ?_
                rotate_left
                · intro w hSw; (try dsimp only at hSw); go_simp; (try with_reducible rfl)
                try simp only [Act.put, List.setIfInBounds_toArray, List.set_cons_zero, List.set_cons_succ]
                refine wpAnyH_done (by kernel_rfl) ?_ _
                go_wp2_with fail
                go_roundw
                case rel => exact ⟨i + 1, by omega, by go_num, Lib.hid (HT6.out.trans' (HT31.out))⟩
                case measure => simp [intOf]; omega
          · obtain rfl : i = n := by omega
            have d1 : decide ((i : Int) < (i : Int)) = false := by simp
            have q0 : wr.cell? ⟨r, 0, none⟩ = some (.slice A i c) := HP.out wr HR.out 0 _ rfl
            have q1 : wr.cell? ⟨r, 1, none⟩ = some m0 := HP.out wr HR.out 1 _ rfl
            have q2 : wr.cell? ⟨r, 2, none⟩ = some m1 := HP.out wr HR.out 2 _ rfl
            have q3 : wr.cell? ⟨r, 3, none⟩ = some m2 := HP.out wr HR.out 3 _ rfl
            have q4 : wr.cell? ⟨r, 4, none⟩ = some m3 := HP.out wr HR.out 4 _ rfl
            have q5 : wr.cell? ⟨r, 5, none⟩ = some m4 := HP.out wr HR.out 5 _ rfl
            have q6 : wr.cell? ⟨r, 6, none⟩ = some m5 := HP.out wr HR.out 6 _ rfl
            have q7 : wr.cell? ⟨r, 7, none⟩ = some m6 := HP.out wr HR.out 7 _ rfl
            have q8 : wr.cell? ⟨r, 8, none⟩ = some m7 := HP.out wr HR.out 8 _ rfl
            have q9 : wr.cell? ⟨r, 9, none⟩ = some m8 := HP.out wr HR.out 9 _ rfl
            obtain ⟨h1, h2, h3⟩ := fnd_index l nm
            have HFx := Lib.hid (CFd.out wr HR.out nm)
            obtain ⟨k, hk⟩ : ∃ k, fndI l nm = k := ⟨_, rfl⟩
            rw [hk] at HFx h1 h2 h3
            have CIx : Hid (∀ W, Turn [] Wb W → Calls Tryd.prog 19 #[.pointer (some ⟨t, 0, none⟩), .string nm] W fun e w' => e = .returned (.tuple #[.int .i64 (((fstF l l.length nm).getD 0 : Nat) : Int), .bool (fstF l l.length nm).isSome]) ∧ Turn [] W w') := Lib.hid fun W u => bk_index W (HBk.out W u) nm HNZ.out
            have CNm : Hid (∀ W, Turn [] Wb W → Calls Tryd.prog 20 #[.pointer (some ⟨t, 0, none⟩), .int .i64 (-1)] W fun e w' => e = .returned (.string ⟨#[]⟩) ∧ Turn [] W w') := Lib.hid fun W u => by
              have := bk_name W (HBk.out W u) (-1)
              rw [Rgt.out (by omega)] at this
              exact this
            have CFc : Hid (∀ W, Turn [] Wb W → Calls Tryd.prog 21 #[.pointer (some ⟨t, 0, none⟩), .int .i64 (i : Int)] W fun e w' => e = .returned (.bool false) ∧ Turn [] W w') := Lib.hid fun W u => by
              have := bk_face W (HBk.out W u) (i : Int)
              rw [Rgt.out (by rw [HN.out]; omega)] at this
              exact this
            have CSp : Hid (∀ W, Turn [] Wb W → Calls Tryd.prog 22 #[.pointer (some ⟨t, 0, none⟩), .int .i64 (i : Int)] W fun e w' => e = .returned (.int .i64 (-1)) ∧ Turn [] W w') := Lib.hid fun W u => by
              have := bk_super W (HBk.out W u) (i : Int)
              rw [Rgt.out (by rw [HN.out]; omega)] at this
              exact this
            have CRz : Hid (∀ W, Turn [] Wb W → Calls Tryd.prog 23 #[.pointer (some ⟨t, 0, none⟩), .int .i64 (-1)] W fun e w' => ∃ P c, e = .returned (.slice P 0 c) ∧ Turn [] W w') := Lib.hid fun W u => by
              have := CRt.out W u (-1)
              rw [Rgt.out (by omega)] at this
              refine (this (by simp [en0])).mono ?_
              rintro e w' ⟨U, rfl, h1, h2⟩
              obtain ⟨P, c, rfl, _, _⟩ := h1.form
              exact ⟨P, c, rfl, h2⟩
            clear hk
            go_wp2_with fail
            refine HFx.out.mono ?_
            rintro e w5 ⟨rfl, t5⟩
            have HT5 := Lib.hid (HR.out.trans' t5)
            have HIx := Lib.hid (CIx.out w5 HT5.out)
            clear t5 q0 q1 q2 q3 q4 q5 q6 q7 q8 q9
            go_wp2_with fail
            refine HIx.out.mono ?_
            rintro e w6 ⟨rfl, t6⟩
            have HT6 := Lib.hid (HT5.out.trans' t6)
            obtain ⟨x, hx⟩ : ∃ x, (fstF l l.length nm).getD 0 = x := ⟨_, rfl⟩
            obtain ⟨ok, hok⟩ : ∃ ok, (fstF l l.length nm).isSome = ok := ⟨_, rfl⟩
            rw [hx] at h2 h3
            rw [hok] at h1
            rw [hx, hok]
            have HSC : Hid (∀ w', Turn [] w6 w' → (w'.cell? ⟨r, 0, none⟩ = some (.slice A i c))) := Lib.hid fun W u => HP.out W (HT6.out.trans' u) 0 _ rfl
            clear t6 hx hok HIx
            cases ok with
            | true =>
              have hk0 : 0 ≤ k := by simpa using h1.symm
              obtain rfl : (x : Int) = k := h2 hk0
              have d3 : decide ((x : Int) ≥ 0) = true := by simp
              have d4 : decide ((0 : Int) ≤ (x : Int)) = true := by simp
              clear h1 h2 h3
              have HN7 := Lib.hid (CNm.out w6 HT6.out)
              go_wp2_with fail
              refine HN7.out.mono ?_
              rintro e w7 ⟨rfl, t7⟩
              have HT7 := Lib.hid (HT6.out.trans' t7)
              have z0 : w7.cell? ⟨r, 0, none⟩ = some (.slice A i c) := HSC.out w7 t7
              have HN8 := Lib.hid (CSp.out w7 HT7.out)
              have HSC7 := Lib.hid t7
              clear t7 HN7
              go_wp2_with fail
              refine HN8.out.mono ?_
              rintro e w8 ⟨rfl, t8⟩
              have HT8 := Lib.hid (HT7.out.trans' t8)
              have y0 : w8.cell? ⟨r, 0, none⟩ = some (.slice A i c) := HSC.out w8 (HSC7.out.trans' t8)
              have HN9 := Lib.hid (CFc.out w8 HT8.out)
              clear t8 HN8 z0
              go_wp2_with fail
              refine HN9.out.mono ?_
              rintro e w9 ⟨rfl, t9⟩
              have HT9 := Lib.hid (HT8.out.trans' t9)
              have HN10 := Lib.hid (CRz.out w9 HT9.out)
              clear t9 HN9 y0
              go_wp2_with fail
              refine HN10.out.mono ?_
              rintro e w10 ⟨P10, c10, rfl, t10⟩
              have HT10 := Lib.hid (HT9.out.trans' t10)
              clear t10 HN10
              go_wp2_with fail
              go_ret
              exact ⟨rfl, (HT0.out.trans' HTb0.out).trans' HT10.out⟩
            | false =>
              have hk0 : k < 0 := by have := h1.symm; simp at this; omega
              have hx0 : x = 0 := h3 hk0
              subst hx0
              have d3 : decide (k ≥ 0) = false := by simp; omega
              have d4 : decide ((0 : Int) ≤ k) = false := by simp; omega
              clear h1 h2 h3
              have HN7 := Lib.hid (CNm.out w6 HT6.out)
              go_wp2_with fail
              refine HN7.out.mono ?_
              rintro e w7 ⟨rfl, t7⟩
              have HT7 := Lib.hid (HT6.out.trans' t7)
              have z0 : w7.cell? ⟨r, 0, none⟩ = some (.slice A i c) := HSC.out w7 t7
              have HN8 := Lib.hid (CSp.out w7 HT7.out)
              have HSC7 := Lib.hid t7
              clear t7 HN7
              go_wp2_with fail
              refine HN8.out.mono ?_
              rintro e w8 ⟨rfl, t8⟩
              have HT8 := Lib.hid (HT7.out.trans' t8)
              have y0 : w8.cell? ⟨r, 0, none⟩ = some (.slice A i c) := HSC.out w8 (HSC7.out.trans' t8)
              have HN9 := Lib.hid (CFc.out w8 HT8.out)
              clear t8 HN8 z0
              go_wp2_with fail
              refine HN9.out.mono ?_
              rintro e w9 ⟨rfl, t9⟩
              have HT9 := Lib.hid (HT8.out.trans' t9)
              have HN10 := Lib.hid (CRz.out w9 HT9.out)
              clear t9 HN9 y0
              go_wp2_with fail
              refine HN10.out.mono ?_
              rintro e w10 ⟨P10, c10, rfl, t10⟩
              have HT10 := Lib.hid (HT9.out.trans' t10)
              clear t10 HN10
              go_wp2_with fail
              go_ret
              exact ⟨rfl, (HT0.out.trans' HTb0.out).trans' HT10.out⟩
end Go.Proofs.YtjnphoeifonenaaDoor
