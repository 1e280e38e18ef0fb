/- SubUnder: the law. -/
import Derived.Test.YtbocejiclellfaaDoorQ20Scf
import Derived.Deep.RegionHeld3
import Derived.BigQuiet

set_option linter.unusedSimpArgs false
set_option linter.unusedVariables false
set_option maxRecDepth 100000
namespace Go.Proofs.YtbocejiclellfaaDoor
open Go.RowKit

attribute [local go_sem] eq_ptrT
set_option maxHeartbeats 25600000 in
theorem subunder_law (A : Option Addr) (c B : Nat) (l : List K8) (m0 m1 m2 m3 m4 m5 m6 m7 m8 : Value) (w : World) (hr : RdKs B w A l) (hB : B ≤ w.heap.size) (hnm : NmOk l) (hT : Tab w) :
    Calls Tryd.prog 4 #[.agg #[.slice A l.length c, m0, m1, m2, m3, m4, m5, m6, m7, m8]] w fun e w' => e = .returned (.bool true) ∧ Turn [] w w' := by
  obtain ⟨n, hn⟩ : ∃ n, l.length = n := ⟨_, rfl⟩
  obtain ⟨r, hrr⟩ : ∃ r, w.heap.size = r := ⟨_, rfl⟩
  obtain ⟨W0, hW0⟩ : ∃ W, w.alloc (.cells #[.slice A n c, m0, m1, m2, m3, m4, m5, m6, m7, m8] 30) = W := ⟨_, rfl⟩
  have t0 : Turn [] w W0 := by rw [← hW0]; exact (Turn.refl [] w).alloc _
  have b0 : W0.heap[r]? = some (.cells #[.slice A n c, m0, m1, m2, m3, m4, m5, m6, m7, m8] 30 (0, 0)) := by rw [← hW0, ← hrr]; exact heap_alloc_new w _
  have HAw : Hid (∀ W, Turn [] W0 W → Calls Tryd.prog 6 #[] W fun e w' => e = .returned (.bool true) ∧ Turn [] W w') := Lib.hid fun W t => awake9_any W ((hT.turn' t0).turn' t)
  have HRi : Hid (∀ W, Turn [] W0 W → Calls Tryd.prog 7 #[.agg #[.slice A n c, m0, m1, m2, m3, m4, m5, m6, m7, m8]] W fun e w' => ∃ b, e = .returned (.bool b) ∧ (b = true → smallB l = true ∧ Rgt l ∧ PlainL l) ∧ Turn [] W w') := Lib.hid fun W t => by
    rw [← hn]
    exact right9_any A c B l m0 m1 m2 m3 m4 m5 m6 m7 m8 W ((hr.turn t0 (by simp)).turn t (by simp)) hnm
  have HMd : Hid (Rgt l → ∀ W, Turn [] W0 W → Calls Tryd.prog 8 #[.agg #[.slice A n c, m0, m1, m2, m3, m4, m5, m6, m7, m8]] W fun e w' => ∃ r t m sz V x VO, e = .returned (.pointer (some ⟨x, 0, none⟩)) ∧ Ty A B l r t m sz V x VO w' ∧ Turn [] W w') := Lib.hid fun g W t => by
    rw [← hn]
    exact made_any A c B l m0 m1 m2 m3 m4 m5 m6 m7 m8 g W ((hr.turn t0 (by simp)).turn t (by simp)) (by have := t0.size; have := t.size; omega) ((hT.turn' t0).turn' t)
  have HAl : Hid (Rgt l → ∀ W, Turn [] W0 W → Calls Tryd.prog 9 #[.agg #[.slice A n c, m0, m1, m2, m3, m4, m5, m6, m7, m8]] W fun e w' => ∃ U, e = .returned U ∧ OwnS w' U (allT l (min n 8)) ∧ Turn [] W w') := Lib.hid fun g W t => by
    rw [← hn]
    exact all9_any A c B l m0 m1 m2 m3 m4 m5 m6 m7 m8 W ((hr.turn t0 (by simp)).turn t (by simp)) (by have := t0.size; have := t.size; omega) g.kok.len (fun x hx => (hnm x hx).1)
  have hcl : ∀ W, Turn [] W0 W → ∀ (i : Nat) (v : Value), (#[Value.slice A n c, m0, m1, m2, m3, m4, m5, m6, m7, m8] : Array Value)[i]? = some v → W.cell? ⟨r, i, none⟩ = some v := fun W t i v hv => (cell_of_row W r i _ _ _ (t.heap b0 (by simp))).trans hv
  have HCL := Lib.hid hcl
  have HT0 := Lib.hid t0
  have HW0 := Lib.hid hW0
  have HRR := Lib.hid hrr
  have HN := Lib.hid hn
  have HNM := Lib.hid hnm
  have HA0 := Lib.hid (HAw.out W0 (Turn.refl _ _))
  rw [hn]
  clear hr hB hnm hT hn hrr hW0 t0 b0 hcl
  go_enter Tryd.func4, Tryd.ntmps4
  go_wp2_with fail
  rw [HRR.out, HW0.out]
  refine HA0.out.mono ?_
  rintro e w1 ⟨rfl, t1⟩
  have HT1 := Lib.hid t1
  have HR1 := Lib.hid (HRi.out w1 t1)
  have g0 := HCL.out w1 (t1) 0 _ rfl
  have g1 := HCL.out w1 (t1) 1 _ rfl
  have g2 := HCL.out w1 (t1) 2 _ rfl
  have g3 := HCL.out w1 (t1) 3 _ rfl
  have g4 := HCL.out w1 (t1) 4 _ rfl
  have g5 := HCL.out w1 (t1) 5 _ rfl
  have g6 := HCL.out w1 (t1) 6 _ rfl
  have g7 := HCL.out w1 (t1) 7 _ rfl
  have g8 := HCL.out w1 (t1) 8 _ rfl
  have g9 := HCL.out w1 (t1) 9 _ rfl
  clear t1 HA0
  go_wp2_with fail
  refine HR1.out.mono ?_
  rintro e w2 ⟨rt, rfl, hrt, t2⟩
  have HT2 := Lib.hid (HT1.out.trans' t2)
  have HRT := Lib.hid hrt
  clear t2 HR1 hrt g0 g1 g2 g3 g4 g5 g6 g7 g8 g9
  cases rt with
  | false =>
    have HA2 := Lib.hid (HAw.out w2 HT2.out)
    go_wp2_with fail
    refine HA2.out.mono ?_
    rintro e w3 ⟨rfl, t3⟩
    have HT3 := Lib.hid t3
    clear t3
    go_wp2_with fail
    go_ret
    exact ⟨rfl, (HT0.out.trans' HT2.out).trans' HT3.out⟩
  | true =>
    obtain ⟨hsm, hg, hp⟩ := HRT.out rfl
    have HG := Lib.hid hg
    have HPl := Lib.hid hp
    have HM2 := Lib.hid (HMd.out hg w2 HT2.out)
    have g0 := HCL.out w2 (HT2.out) 0 _ rfl
    have g1 := HCL.out w2 (HT2.out) 1 _ rfl
    have g2 := HCL.out w2 (HT2.out) 2 _ rfl
    have g3 := HCL.out w2 (HT2.out) 3 _ rfl
    have g4 := HCL.out w2 (HT2.out) 4 _ rfl
    have g5 := HCL.out w2 (HT2.out) 5 _ rfl
    have g6 := HCL.out w2 (HT2.out) 6 _ rfl
    have g7 := HCL.out w2 (HT2.out) 7 _ rfl
    have g8 := HCL.out w2 (HT2.out) 8 _ rfl
    have g9 := HCL.out w2 (HT2.out) 9 _ rfl
    clear hsm hg hp
    go_wp2_with fail
    refine HM2.out.mono ?_
    rintro e w3 ⟨r', t, m, sz, V, x, VO, rfl, hTy, t3⟩
    have HTy := Lib.hid hTy
    have HT3 := Lib.hid (HT2.out.trans' t3)
    have HA3 := Lib.hid (HAl.out HG.out w3 (HT2.out.trans' t3))
    clear t3 hTy HM2 g0 g1 g2 g3 g4 g5 g6 g7 g8 g9
    have g0 := HCL.out w3 (HT3.out) 0 _ rfl
    have g1 := HCL.out w3 (HT3.out) 1 _ rfl
    have g2 := HCL.out w3 (HT3.out) 2 _ rfl
    have g3 := HCL.out w3 (HT3.out) 3 _ rfl
    have g4 := HCL.out w3 (HT3.out) 4 _ rfl
    have g5 := HCL.out w3 (HT3.out) 5 _ rfl
    have g6 := HCL.out w3 (HT3.out) 6 _ rfl
    have g7 := HCL.out w3 (HT3.out) 7 _ rfl
    have g8 := HCL.out w3 (HT3.out) 8 _ rfl
    have g9 := HCL.out w3 (HT3.out) 9 _ rfl
    go_wp2_with fail
    refine HA3.out.mono ?_
    rintro e Wb ⟨U, rfl, hU, t4⟩
    obtain ⟨b, off, cU, rfl, hlw⟩ := lw_of HG.out HPl.out (fun x hx => (HNM.out x hx).1) (HTy.out.turn t4) (by rw [HN.out]; omega) hU
    have HLw := Lib.hid hlw
    have HTb := Lib.hid (HT3.out.trans' t4)
    obtain ⟨N, hN⟩ : ∃ N, 2 + 2 * min n 8 = N := ⟨_, rfl⟩
    have hNb : N ≤ 18 := by omega
    rw [hN] at HLw ⊢
    have HTyb := Lib.hid (HTy.out.turn t4)
    clear t4 hU hlw hN HA3 g0 g1 g2 g3 g4 g5 g6 g7 g8 g9
    have HBG : Hid (∀ W, Turn [] Wb W → ∀ a b, okKd l a → okKd l b → Calls Tryd.prog 11 #[.pointer (some ⟨x, 0, none⟩), .string (txK l a), .string (txK l b)] W fun e w' => e = .returned (.bool (belK l a b)) ∧ Turn [] W w') := Lib.hid fun W k a b ha hb => by
      have := tBelow_any HG.out.kok W (HTyb.out.turn k) _ _ (tx_size (fun x hx => (HNM.out x hx).1) ha) (tx_size (fun x hx => (HNM.out x hx).1) hb)
      rw [bel_tx HG.out HPl.out ha hb] at this
      exact this
    have HUG : Hid (∀ W, Turn [] Wb W → ∀ a, okKd l a → Calls Tryd.prog 12 #[.pointer (some ⟨x, 0, none⟩), .string (txK l a)] W fun e w' => ∃ U, e = .returned U ∧ OwnS w' U ((undK l a).map (txK l)) ∧ Turn [] W w') := Lib.hid fun W k a ha => by
      have := tUnder_any HG.out HPl.out (fun x hx => (HNM.out x hx).1) W (HTyb.out.turn k) _ (tx_size (fun x hx => (HNM.out x hx).1) ha)
      rw [und_tx HG.out HPl.out ha] at this
      exact this
    have HP : Hid (∀ W, Turn [] Wb W → W.cell? ⟨r, 0, none⟩ = some (.slice A n c)) := Lib.hid fun W k => HCL.out W (HTb.out.trans' k) 0 _ rfl
    have HRD : Hid (∀ W, Turn [] Wb W → RdKs B W A l) := Lib.hid fun W k => (HTyb.out.turn k).bk.rd
    have hn1 : n ≤ 1000 := by have := HG.out.kok.len; have := HN.out; omega
    go_wp2_with fail
    go_loopw [5] (fun v5 wr => ∃ i : Nat, i ≤ N ∧ v5 = .int .i64 (i : Int) ∧ Hid (Turn [] Wb wr)) (fun v5 _ => N - (intOf v5).toNat)
    case atStart => exact ⟨0, Nat.zero_le _, rfl, Lib.hid (Turn.refl _ _)⟩
    case round =>
      obtain ⟨i, hi, rfl, HO⟩ := hrel
      by_cases hin : i < N
      · have d1 : decide ((i : Int) < (N : Int)) = true := by simp; omega
        have d2 : (i : Int) < (N : Int) := by omega
        have hoki := HLw.out.ok i hin
        have HEl : Hid (∀ W, Turn [] Wb W → Calls Tryd.prog 13 #[.pointer (some ⟨x, 0, none⟩), .string (txK l (kdAt i))] W fun e w' => ∃ z, e = .returned (.tuple #[.string z, .bool (isAr (kdAt i))]) ∧ Turn [] W w') := Lib.hid fun W q => HLw.out.elem W q i hin
        have HCi : Hid (∀ W, Turn [] Wb W → W.cell? ⟨b, off + i, none⟩ = some (.string (txK l (kdAt i)))) := Lib.hid fun W q => HLw.out.cell W q i hin
        obtain ⟨kd, hkd⟩ : ∃ kd, kdAt i = kd := ⟨_, rfl⟩
        rw [hkd] at hoki HEl HCi
        have hcu := cnt_und HG.out hoki
        have HBGi : Hid (∀ W, Turn [] Wb W → ∀ a, okKd l a → Calls Tryd.prog 11 #[.pointer (some ⟨x, 0, none⟩), .string (txK l a), .string (txK l kd)] W fun e w' => e = .returned (.bool (belK l a kd)) ∧ Turn [] W w') := Lib.hid fun W q a ha => HBG.out W q a kd ha hoki
        have HUi := Lib.hid (HUG.out wr HO.out kd hoki)
        have HUM : Hid (∀ a ∈ undK l kd, okKd l a ∧ belK l a kd = true) := Lib.hid fun a ha => und_mem HG.out hoki ha
        obtain ⟨ti, hti⟩ : ∃ ti, txK l kd = ti := ⟨_, rfl⟩
        rw [hti] at HEl HCi HBGi HUi
        obtain ⟨us, hus⟩ : ∃ us, undK l kd = us := ⟨_, rfl⟩
        have HND : Hid us.Nodup := Lib.hid (by rw [← hus]; exact und_nodup l kd)
        rw [hus] at HUi HUM hcu
        obtain ⟨M, hM⟩ : ∃ M, us.length = M := ⟨_, rfl⟩
        rw [hM] at hcu
        have HCU := Lib.hid hcu
        have HM := Lib.hid hM
        have c0 := HCi.out wr HO.out
        clear hoki hkd hti hus hcu hM
        go_wp2_with fail
        refine HUi.out.mono ?_
        rintro e w5 ⟨U, rfl, hU, t5⟩
        obtain ⟨PU, cU2, rfl, htU⟩ := hU.txs
        have HTX := Lib.hid htU
        have HO5 := Lib.hid (HO.out.trans' t5)
        rw [List.length_map, HM.out]
        clear hU htU t5 HUi HO c0
        go_wp2_with fail
        go_loopw [7, 8] (fun v7 v8 wr => ∃ k : Nat, k ≤ n ∧ v7 = .int .i64 (cntK l kd k : Int) ∧ v8 = .int .i64 (k : Int) ∧ Hid (Turn [] w5 wr)) (fun _ v8 _ => n - (intOf v8).toNat)
        case atStart => exact ⟨0, Nat.zero_le _, rfl, rfl, Lib.hid (Turn.refl _ _)⟩
        case round =>
          obtain ⟨k, hk, rfl, rfl, HO6⟩ := hrel
          have HO := Lib.hid (HO5.out.trans' HO6.out)
          have p0 := HP.out wr HO.out
          by_cases hkn : k < n
          · have d3 : decide ((k : Int) < (n : Int)) = true := by simp; omega
            have d4 : (k : Int) < (n : Int) := by omega
            obtain ⟨y, hy⟩ := at_lt (show k < l.length by have := HN.out; omega)
            have hcn := cntK_next l kd k
            have hcl := cntK_le l kd k
            have hfc : (enAt (esL l) (k : Int)).face = y.face := by rw [HG.out.ent hy]
            have hnm : txK l (.cl k) = y.nm := by rw [txK, nmL_at hy]
            have HBk : Hid (∀ W, Turn [] Wb W → Calls Tryd.prog 11 #[.pointer (some ⟨x, 0, none⟩), .string y.nm, .string ti] W fun e w' => e = .returned (.bool (belK l (.cl k) kd)) ∧ Turn [] W w') := Lib.hid fun W q => by
              have := HBGi.out W q (.cl k) (by show k < l.length; have := HN.out; omega)
              rw [hnm] at this
              exact this
            rw [hfc] at hcn
            obtain ⟨kb, koff, cs, rfl, hb, hbl, hcell, A3, c3, A4, n4, c4, A5, n5, c5, A6, n6, c6, I, rfl, hst⟩ := HRD.out wr HO.out k y hy
            have e0 : wr.cell? ⟨kb, koff + k * 10, none⟩ = some (.string y.nm) := hcell 0 _ rfl
            have e2 : wr.cell? ⟨kb, koff + k * 10 + 2, none⟩ = some (.bool y.face) := hcell 2 _ rfl
            obtain ⟨kn, hkn'⟩ : ∃ kn, y.nm = kn := ⟨_, rfl⟩
            obtain ⟨kf, hkf⟩ : ∃ kf, y.face = kf := ⟨_, rfl⟩
            rw [hkn'] at e0 HBk
            rw [hkf] at e2 hcn
            have HSS : Hid (∀ w', Turn [] wr w' → (w'.cell? ⟨r, 0, none⟩ = some (.slice (some ⟨kb, koff, none⟩) n c) ∧ w'.cell? ⟨kb, koff + k * 10, none⟩ = some (.string kn) ∧ w'.cell? ⟨kb, koff + k * 10 + 2, none⟩ = some (.bool kf) ∧ w'.cell? ⟨b, off + i, none⟩ = some (.string ti))) := Lib.hid fun w' q => ⟨HP.out w' (HO.out.trans' q), (q.cell (p := ⟨kb, koff + k * 10, none⟩) hbl (by simp)).trans e0, (q.cell (p := ⟨kb, koff + k * 10 + 2, none⟩) hbl (by simp)).trans e2, HCi.out w' (HO.out.trans' q)⟩
            have HO6' := HO6
            obtain ⟨ck, hck⟩ : ∃ ck, cntK l kd k = ck := ⟨_, rfl⟩
            rw [hck] at hcn hcl ⊢
            clear hy hfc hnm hcell hst hb hbl hkn' hkf hck e0 e2
            go_upto_region 15 with fail
            cases kf with
            | true =>
              have HCN : Hid (cntK l kd (k + 1) = ck) := Lib.hid hcn
              clear hcn
              refine wp_region_held_drew (S := fun w' => w'.cell? ⟨r, 0, none⟩ = some (.slice (some ⟨kb, koff, none⟩) n c) ∧ w'.cell? ⟨kb, koff + k * 10, none⟩ = some (.string kn) ∧ w'.cell? ⟨kb, koff + k * 10 + 2, none⟩ = some (.bool true) ∧ w'.cell? ⟨b, off + i, none⟩ = some (.string ti)) (by kernel_rfl) ?_ (fun hHeld => ?_)
              · exact HSS.out _ (Turn.refl [] wr).drew
              refine wpAnyH_take (i := 0) (oi := { dst := some 45, op := Op.fieldAddr 30 (Operand.tmp 1) 0, type := 0, pos := _, after := #[], guard := none }) (v := ?_) rfl (by kernel_rfl) (by kernel_rfl) (by kernel_rfl) (fun _ _ _ h => h) (Or.inl ⟨by rfl, ?_⟩) (by assumption) ?_
              rotate_left
              · intro w hSw; (try dsimp only at hSw); go_simp; (try with_reducible rfl)
              try simp only [Act.put, List.setIfInBounds_toArray, List.set_cons_zero, List.set_cons_succ]
              refine wpAnyH_take (i := 1) (oi := { dst := some 46, op := Op.load 22 (Operand.tmp 45), type := 22, pos := _, after := #[{ on := 0, ground := Ground.data }], guard := none }) (v := ?_) rfl (by kernel_rfl) (by kernel_rfl) (by kernel_rfl) (fun _ _ _ h => h) (Or.inl ⟨by rfl, ?_⟩) (by assumption) ?_
              rotate_left
              · intro w hSw; (try dsimp only at hSw); go_simp; (try with_reducible rfl)
              try simp only [Act.put, List.setIfInBounds_toArray, List.set_cons_zero, List.set_cons_succ]
              refine wpAnyH_take (i := 2) (oi := { dst := some 47, op := Op.move (Operand.tmp 8), type := 3, pos := _, after := #[], guard := none }) (v := ?_) rfl (by kernel_rfl) (by kernel_rfl) (by kernel_rfl) (fun _ _ _ h => h) (Or.inl ⟨by rfl, ?_⟩) (by assumption) ?_
              rotate_left
              · intro w hSw; (try dsimp only at hSw); go_simp; (try with_reducible rfl)
              try simp only [Act.put, List.setIfInBounds_toArray, List.set_cons_zero, List.set_cons_succ]
              refine wpAnyH_take (i := 3) (oi := { dst := some 48, op := Op.indexAddr 22 (Operand.tmp 46) (Operand.tmp 47), type := 0, pos := _, after := #[{ on := 1, ground := Ground.data }, { on := 2, ground := Ground.data }], guard := none }) (v := ?_) rfl (by kernel_rfl) (by kernel_rfl) (by kernel_rfl) (fun _ _ _ h => h) (Or.inl ⟨by rfl, ?_⟩) (by assumption) ?_
              rotate_left
              · intro w hSw; (try dsimp only at hSw); go_simp; (try with_reducible rfl)
              try simp only [Act.put, List.setIfInBounds_toArray, List.set_cons_zero, List.set_cons_succ]
              refine wpAnyH_take (i := 4) (oi := { dst := some 49, op := Op.fieldAddr 43 (Operand.tmp 48) 2, type := 0, pos := _, after := #[{ on := 3, ground := Ground.data }], guard := none }) (v := ?_) rfl (by kernel_rfl) (by kernel_rfl) (by kernel_rfl) (fun _ _ _ h => h) (Or.inl ⟨by rfl, ?_⟩) (by assumption) ?_
              rotate_left
              · intro w hSw; (try dsimp only at hSw); go_simp; (try with_reducible rfl)
              try simp only [Act.put, List.setIfInBounds_toArray, List.set_cons_zero, List.set_cons_succ]
              refine wpAnyH_take (i := 5) (oi := { dst := some 50, op := Op.load 4 (Operand.tmp 49), type := 4, pos := _, after := #[{ on := 4, ground := Ground.data }], guard := none }) (v := ?_) rfl (by kernel_rfl) (by kernel_rfl) (by kernel_rfl) (fun _ _ _ h => h) (Or.inl ⟨by rfl, ?_⟩) (by assumption) ?_
              rotate_left
              · intro w hSw; (try dsimp only at hSw); go_simp; (try with_reducible rfl)
              try simp only [Act.put, List.setIfInBounds_toArray, List.set_cons_zero, List.set_cons_succ]
              refine wpAnyH_take (i := 6) (oi := { dst := some 51, op := Op.unOp UnOp.not 4 (Operand.tmp 50), type := 4, pos := _, after := #[{ on := 5, ground := Ground.data }], guard := none }) (v := ?_) rfl (by kernel_rfl) (by kernel_rfl) (by kernel_rfl) (fun _ _ _ h => h) (Or.inl ⟨by rfl, ?_⟩) (by assumption) ?_
              rotate_left
              · intro w hSw; (try dsimp only at hSw); go_simp; (try with_reducible rfl)
              try simp only [Act.put, List.setIfInBounds_toArray, List.set_cons_zero, List.set_cons_succ]
              refine wpAnyH_take (i := 7) (oi := { dst := some 52, op := Op.move (Operand.tmp 51), type := 4, pos := _, after := #[{ on := 6, ground := Ground.data }], guard := none }) (v := ?_) rfl (by kernel_rfl) (by kernel_rfl) (by kernel_rfl) (fun _ _ _ h => h) (Or.inl ⟨by rfl, ?_⟩) (by assumption) ?_
              rotate_left
              · intro w hSw; (try dsimp only at hSw); go_simp; (try with_reducible rfl)
              try simp only [Act.put, List.setIfInBounds_toArray, List.set_cons_zero, List.set_cons_succ]
              refine wpAnyH_take (i := 8) (oi := { dst := some 53, op := Op.move (Operand.tmp 3), type := 33, pos := _, after := #[{ on := 7, ground := Ground.guard }], guard := some (7, true) }) (v := undef) rfl (by kernel_rfl) (by kernel_rfl) (by kernel_rfl) (fun _ _ _ h => h) (Or.inr ⟨by rfl, rfl⟩) (by assumption) ?_
              try simp only [Act.put, List.setIfInBounds_toArray, List.set_cons_zero, List.set_cons_succ]
              refine wpAnyH_take (i := 9) (oi := { dst := some 54, op := Op.fieldAddr 30 (Operand.tmp 1) 0, type := 0, pos := _, after := #[{ on := 7, ground := Ground.guard }], guard := some (7, true) }) (v := undef) rfl (by kernel_rfl) (by kernel_rfl) (by kernel_rfl) (fun _ _ _ h => h) (Or.inr ⟨by rfl, rfl⟩) (by assumption) ?_
              try simp only [Act.put, List.setIfInBounds_toArray, List.set_cons_zero, List.set_cons_succ]
              refine wpAnyH_take (i := 10) (oi := { dst := some 55, op := Op.load 22 (Operand.tmp 54), type := 22, pos := _, after := #[{ on := 9, ground := Ground.data }, { on := 7, ground := Ground.guard }], guard := some (7, true) }) (v := undef) rfl (by kernel_rfl) (by kernel_rfl) (by kernel_rfl) (fun _ _ _ h => h) (Or.inr ⟨by rfl, rfl⟩) (by assumption) ?_
              try simp only [Act.put, List.setIfInBounds_toArray, List.set_cons_zero, List.set_cons_succ]
              refine wpAnyH_take (i := 11) (oi := { dst := some 56, op := Op.move (Operand.tmp 8), type := 3, pos := _, after := #[{ on := 7, ground := Ground.guard }], guard := some (7, true) }) (v := undef) rfl (by kernel_rfl) (by kernel_rfl) (by kernel_rfl) (fun _ _ _ h => h) (Or.inr ⟨by rfl, rfl⟩) (by assumption) ?_
              try simp only [Act.put, List.setIfInBounds_toArray, List.set_cons_zero, List.set_cons_succ]
              refine wpAnyH_take (i := 12) (oi := { dst := some 57, op := Op.indexAddr 22 (Operand.tmp 55) (Operand.tmp 56), type := 0, pos := _, after := #[{ on := 10, ground := Ground.data }, { on := 11, ground := Ground.data }, { on := 7, ground := Ground.guard }], guard := some (7, true) }) (v := undef) rfl (by kernel_rfl) (by kernel_rfl) (by kernel_rfl) (fun _ _ _ h => h) (Or.inr ⟨by rfl, rfl⟩) (by assumption) ?_
              try simp only [Act.put, List.setIfInBounds_toArray, List.set_cons_zero, List.set_cons_succ]
              refine wpAnyH_take (i := 13) (oi := { dst := some 58, op := Op.fieldAddr 43 (Operand.tmp 57) 0, type := 0, pos := _, after := #[{ on := 12, ground := Ground.data }, { on := 7, ground := Ground.guard }], guard := some (7, true) }) (v := undef) rfl (by kernel_rfl) (by kernel_rfl) (by kernel_rfl) (fun _ _ _ h => h) (Or.inr ⟨by rfl, rfl⟩) (by assumption) ?_
              try simp only [Act.put, List.setIfInBounds_toArray, List.set_cons_zero, List.set_cons_succ]
              refine wpAnyH_take (i := 14) (oi := { dst := some 59, op := Op.load 9 (Operand.tmp 58), type := 9, pos := _, after := #[{ on := 13, ground := Ground.data }, { on := 7, ground := Ground.guard }], guard := some (7, true) }) (v := undef) rfl (by kernel_rfl) (by kernel_rfl) (by kernel_rfl) (fun _ _ _ h => h) (Or.inr ⟨by rfl, rfl⟩) (by assumption) ?_
              try simp only [Act.put, List.setIfInBounds_toArray, List.set_cons_zero, List.set_cons_succ]
              refine wpAnyH_take (i := 15) (oi := { dst := some 60, op := Op.move (Operand.tmp 4), type := 35, pos := _, after := #[{ on := 7, ground := Ground.guard }], guard := some (7, true) }) (v := undef) rfl (by kernel_rfl) (by kernel_rfl) (by kernel_rfl) (fun _ _ _ h => h) (Or.inr ⟨by rfl, rfl⟩) (by assumption) ?_
              try simp only [Act.put, List.setIfInBounds_toArray, List.set_cons_zero, List.set_cons_succ]
              refine wpAnyH_take (i := 16) (oi := { dst := some 61, op := Op.move (Operand.tmp 5), type := 3, pos := _, after := #[{ on := 7, ground := Ground.guard }], guard := some (7, true) }) (v := undef) rfl (by kernel_rfl) (by kernel_rfl) (by kernel_rfl) (fun _ _ _ h => h) (Or.inr ⟨by rfl, rfl⟩) (by assumption) ?_
              try simp only [Act.put, List.setIfInBounds_toArray, List.set_cons_zero, List.set_cons_succ]
              refine wpAnyH_take (i := 17) (oi := { dst := some 62, op := Op.indexAddr 35 (Operand.tmp 60) (Operand.tmp 61), type := 0, pos := _, after := #[{ on := 15, ground := Ground.data }, { on := 16, ground := Ground.data }, { on := 7, ground := Ground.guard }], guard := some (7, true) }) (v := undef) rfl (by kernel_rfl) (by kernel_rfl) (by kernel_rfl) (fun _ _ _ h => h) (Or.inr ⟨by rfl, rfl⟩) (by assumption) ?_
              try simp only [Act.put, List.setIfInBounds_toArray, List.set_cons_zero, List.set_cons_succ]
              refine wpAnyH_take (i := 18) (oi := { dst := some 63, op := Op.load 9 (Operand.tmp 62), type := 9, pos := _, after := #[{ on := 17, ground := Ground.data }, { on := 7, ground := Ground.guard }], guard := some (7, true) }) (v := undef) rfl (by kernel_rfl) (by kernel_rfl) (by kernel_rfl) (fun _ _ _ h => h) (Or.inr ⟨by rfl, rfl⟩) (by assumption) ?_
              try simp only [Act.put, List.setIfInBounds_toArray, List.set_cons_zero, List.set_cons_succ]
              refine wpAnyH_take (i := 19) (oi := { dst := some 64, op := Op.call { callee := Callee.value (Operand.func 11), args := #[Operand.tmp 53, Operand.tmp 59, Operand.tmp 63], argTypes := #[33, 9, 9] }, type := 4, pos := _, after := #[{ on := 8, ground := Ground.data }, { on := 14, ground := Ground.data }, { on := 18, ground := Ground.data }, { on := 7, ground := Ground.chain }, { on := 7, ground := Ground.guard }], guard := some (7, true) }) (v := undef) rfl (by kernel_rfl) (by kernel_rfl) (by kernel_rfl) (fun _ _ _ h => h) (Or.inr ⟨by rfl, rfl⟩) (by assumption) ?_
              try simp only [Act.put, List.setIfInBounds_toArray, List.set_cons_zero, List.set_cons_succ]
              refine wpAnyH_take (i := 20) (oi := { dst := some 65, op := Op.pick (Operand.tmp 52) (Operand.tmp 64) (Operand.const (Value.bool false)), type := 4, pos := _, after := #[{ on := 7, ground := Ground.data }, { on := 19, ground := Ground.data }], guard := none }) (v := ?_) rfl (by kernel_rfl) (by kernel_rfl) (by kernel_rfl) (fun _ _ _ h => h) (Or.inl ⟨by rfl, ?_⟩) (by assumption) ?_
              rotate_left
              · intro w hSw; (try dsimp only at hSw); go_simp; (try with_reducible rfl)
              try simp only [Act.put, List.setIfInBounds_toArray, List.set_cons_zero, List.set_cons_succ]
              refine wpAnyH_done (by kernel_rfl) ?_ _
              go_wp2_with fail
              go_roundw
              case rel => exact ⟨k + 1, by omega, by rw [HCN.out], by go_num, Lib.hid (HO6.out.trans' ((Turn.refl [] wr).drew))⟩
              case measure => simp [intOf]; omega
            | false =>
              obtain ⟨bv, hbv⟩ : ∃ bv, belK l (.cl k) kd = bv := ⟨_, rfl⟩
              rw [hbv] at HBk hcn
              clear hbv
              cases bv with
              | true =>
                have HCN : Hid (cntK l kd (k + 1) = ck + 1) := Lib.hid hcn
                clear hcn
                refine wp_region_held_drew (S := fun w' => w'.cell? ⟨r, 0, none⟩ = some (.slice (some ⟨kb, koff, none⟩) n c) ∧ w'.cell? ⟨kb, koff + k * 10, none⟩ = some (.string kn) ∧ w'.cell? ⟨kb, koff + k * 10 + 2, none⟩ = some (.bool false) ∧ w'.cell? ⟨b, off + i, none⟩ = some (.string ti)) (by kernel_rfl) ?_ (fun hHeld => ?_)
                · exact HSS.out _ (Turn.refl [] wr).drew
                refine wpAnyH_take (i := 0) (oi := { dst := some 45, op := Op.fieldAddr 30 (Operand.tmp 1) 0, type := 0, pos := _, after := #[], guard := none }) (v := ?_) rfl (by kernel_rfl) (by kernel_rfl) (by kernel_rfl) (fun _ _ _ h => h) (Or.inl ⟨by rfl, ?_⟩) (by assumption) ?_
                rotate_left
                · intro w hSw; (try dsimp only at hSw); go_simp; (try with_reducible rfl)
                try simp only [Act.put, List.setIfInBounds_toArray, List.set_cons_zero, List.set_cons_succ]
                refine wpAnyH_take (i := 1) (oi := { dst := some 46, op := Op.load 22 (Operand.tmp 45), type := 22, pos := _, after := #[{ on := 0, ground := Ground.data }], guard := none }) (v := ?_) rfl (by kernel_rfl) (by kernel_rfl) (by kernel_rfl) (fun _ _ _ h => h) (Or.inl ⟨by rfl, ?_⟩) (by assumption) ?_
                rotate_left
                · intro w hSw; (try dsimp only at hSw); go_simp; (try with_reducible rfl)
                try simp only [Act.put, List.setIfInBounds_toArray, List.set_cons_zero, List.set_cons_succ]
                refine wpAnyH_take (i := 2) (oi := { dst := some 47, op := Op.move (Operand.tmp 8), type := 3, pos := _, after := #[], guard := none }) (v := ?_) rfl (by kernel_rfl) (by kernel_rfl) (by kernel_rfl) (fun _ _ _ h => h) (Or.inl ⟨by rfl, ?_⟩) (by assumption) ?_
                rotate_left
                · intro w hSw; (try dsimp only at hSw); go_simp; (try with_reducible rfl)
                try simp only [Act.put, List.setIfInBounds_toArray, List.set_cons_zero, List.set_cons_succ]
                refine wpAnyH_take (i := 3) (oi := { dst := some 48, op := Op.indexAddr 22 (Operand.tmp 46) (Operand.tmp 47), type := 0, pos := _, after := #[{ on := 1, ground := Ground.data }, { on := 2, ground := Ground.data }], guard := none }) (v := ?_) rfl (by kernel_rfl) (by kernel_rfl) (by kernel_rfl) (fun _ _ _ h => h) (Or.inl ⟨by rfl, ?_⟩) (by assumption) ?_
                rotate_left
                · intro w hSw; (try dsimp only at hSw); go_simp; (try with_reducible rfl)
                try simp only [Act.put, List.setIfInBounds_toArray, List.set_cons_zero, List.set_cons_succ]
                refine wpAnyH_take (i := 4) (oi := { dst := some 49, op := Op.fieldAddr 43 (Operand.tmp 48) 2, type := 0, pos := _, after := #[{ on := 3, ground := Ground.data }], guard := none }) (v := ?_) rfl (by kernel_rfl) (by kernel_rfl) (by kernel_rfl) (fun _ _ _ h => h) (Or.inl ⟨by rfl, ?_⟩) (by assumption) ?_
                rotate_left
                · intro w hSw; (try dsimp only at hSw); go_simp; (try with_reducible rfl)
                try simp only [Act.put, List.setIfInBounds_toArray, List.set_cons_zero, List.set_cons_succ]
                refine wpAnyH_take (i := 5) (oi := { dst := some 50, op := Op.load 4 (Operand.tmp 49), type := 4, pos := _, after := #[{ on := 4, ground := Ground.data }], guard := none }) (v := ?_) rfl (by kernel_rfl) (by kernel_rfl) (by kernel_rfl) (fun _ _ _ h => h) (Or.inl ⟨by rfl, ?_⟩) (by assumption) ?_
                rotate_left
                · intro w hSw; (try dsimp only at hSw); go_simp; (try with_reducible rfl)
                try simp only [Act.put, List.setIfInBounds_toArray, List.set_cons_zero, List.set_cons_succ]
                refine wpAnyH_take (i := 6) (oi := { dst := some 51, op := Op.unOp UnOp.not 4 (Operand.tmp 50), type := 4, pos := _, after := #[{ on := 5, ground := Ground.data }], guard := none }) (v := ?_) rfl (by kernel_rfl) (by kernel_rfl) (by kernel_rfl) (fun _ _ _ h => h) (Or.inl ⟨by rfl, ?_⟩) (by assumption) ?_
                rotate_left
                · intro w hSw; (try dsimp only at hSw); go_simp; (try with_reducible rfl)
                try simp only [Act.put, List.setIfInBounds_toArray, List.set_cons_zero, List.set_cons_succ]
                refine wpAnyH_take (i := 7) (oi := { dst := some 52, op := Op.move (Operand.tmp 51), type := 4, pos := _, after := #[{ on := 6, ground := Ground.data }], guard := none }) (v := ?_) rfl (by kernel_rfl) (by kernel_rfl) (by kernel_rfl) (fun _ _ _ h => h) (Or.inl ⟨by rfl, ?_⟩) (by assumption) ?_
                rotate_left
                · intro w hSw; (try dsimp only at hSw); go_simp; (try with_reducible rfl)
                try simp only [Act.put, List.setIfInBounds_toArray, List.set_cons_zero, List.set_cons_succ]
                refine wpAnyH_take (i := 8) (oi := { dst := some 53, op := Op.move (Operand.tmp 3), type := 33, pos := _, after := #[{ on := 7, ground := Ground.guard }], guard := some (7, true) }) (v := ?_) rfl (by kernel_rfl) (by kernel_rfl) (by kernel_rfl) (fun _ _ _ h => h) (Or.inl ⟨by rfl, ?_⟩) (by assumption) ?_
                rotate_left
                · intro w hSw; (try dsimp only at hSw); go_simp; (try with_reducible rfl)
                try simp only [Act.put, List.setIfInBounds_toArray, List.set_cons_zero, List.set_cons_succ]
                refine wpAnyH_take (i := 9) (oi := { dst := some 54, op := Op.fieldAddr 30 (Operand.tmp 1) 0, type := 0, pos := _, after := #[{ on := 7, ground := Ground.guard }], guard := some (7, true) }) (v := ?_) rfl (by kernel_rfl) (by kernel_rfl) (by kernel_rfl) (fun _ _ _ h => h) (Or.inl ⟨by rfl, ?_⟩) (by assumption) ?_
                rotate_left
                · intro w hSw; (try dsimp only at hSw); go_simp; (try with_reducible rfl)
                try simp only [Act.put, List.setIfInBounds_toArray, List.set_cons_zero, List.set_cons_succ]
                refine wpAnyH_take (i := 10) (oi := { dst := some 55, op := Op.load 22 (Operand.tmp 54), type := 22, pos := _, after := #[{ on := 9, ground := Ground.data }, { on := 7, ground := Ground.guard }], guard := some (7, true) }) (v := ?_) rfl (by kernel_rfl) (by kernel_rfl) (by kernel_rfl) (fun _ _ _ h => h) (Or.inl ⟨by rfl, ?_⟩) (by assumption) ?_
                rotate_left
                · intro w hSw; (try dsimp only at hSw); go_simp; (try with_reducible rfl)
                try simp only [Act.put, List.setIfInBounds_toArray, List.set_cons_zero, List.set_cons_succ]
                refine wpAnyH_take (i := 11) (oi := { dst := some 56, op := Op.move (Operand.tmp 8), type := 3, pos := _, after := #[{ on := 7, ground := Ground.guard }], guard := some (7, true) }) (v := ?_) rfl (by kernel_rfl) (by kernel_rfl) (by kernel_rfl) (fun _ _ _ h => h) (Or.inl ⟨by rfl, ?_⟩) (by assumption) ?_
                rotate_left
                · intro w hSw; (try dsimp only at hSw); go_simp; (try with_reducible rfl)
                try simp only [Act.put, List.setIfInBounds_toArray, List.set_cons_zero, List.set_cons_succ]
                refine wpAnyH_take (i := 12) (oi := { dst := some 57, op := Op.indexAddr 22 (Operand.tmp 55) (Operand.tmp 56), type := 0, pos := _, after := #[{ on := 10, ground := Ground.data }, { on := 11, ground := Ground.data }, { on := 7, ground := Ground.guard }], guard := some (7, true) }) (v := ?_) rfl (by kernel_rfl) (by kernel_rfl) (by kernel_rfl) (fun _ _ _ h => h) (Or.inl ⟨by rfl, ?_⟩) (by assumption) ?_
                rotate_left
                · intro w hSw; (try dsimp only at hSw); go_simp; (try with_reducible rfl)
                try simp only [Act.put, List.setIfInBounds_toArray, List.set_cons_zero, List.set_cons_succ]
                refine wpAnyH_take (i := 13) (oi := { dst := some 58, op := Op.fieldAddr 43 (Operand.tmp 57) 0, type := 0, pos := _, after := #[{ on := 12, ground := Ground.data }, { on := 7, ground := Ground.guard }], guard := some (7, true) }) (v := ?_) rfl (by kernel_rfl) (by kernel_rfl) (by kernel_rfl) (fun _ _ _ h => h) (Or.inl ⟨by rfl, ?_⟩) (by assumption) ?_
                rotate_left
                · intro w hSw; (try dsimp only at hSw); go_simp; (try with_reducible rfl)
                try simp only [Act.put, List.setIfInBounds_toArray, List.set_cons_zero, List.set_cons_succ]
                refine wpAnyH_take (i := 14) (oi := { dst := some 59, op := Op.load 9 (Operand.tmp 58), type := 9, pos := _, after := #[{ on := 13, ground := Ground.data }, { on := 7, ground := Ground.guard }], guard := some (7, true) }) (v := ?_) rfl (by kernel_rfl) (by kernel_rfl) (by kernel_rfl) (fun _ _ _ h => h) (Or.inl ⟨by rfl, ?_⟩) (by assumption) ?_
                rotate_left
                · intro w hSw; (try dsimp only at hSw); go_simp; (try with_reducible rfl)
                try simp only [Act.put, List.setIfInBounds_toArray, List.set_cons_zero, List.set_cons_succ]
                refine wpAnyH_take (i := 15) (oi := { dst := some 60, op := Op.move (Operand.tmp 4), type := 35, pos := _, after := #[{ on := 7, ground := Ground.guard }], guard := some (7, true) }) (v := ?_) rfl (by kernel_rfl) (by kernel_rfl) (by kernel_rfl) (fun _ _ _ h => h) (Or.inl ⟨by rfl, ?_⟩) (by assumption) ?_
                rotate_left
                · intro w hSw; (try dsimp only at hSw); go_simp; (try with_reducible rfl)
                try simp only [Act.put, List.setIfInBounds_toArray, List.set_cons_zero, List.set_cons_succ]
                refine wpAnyH_take (i := 16) (oi := { dst := some 61, op := Op.move (Operand.tmp 5), type := 3, pos := _, after := #[{ on := 7, ground := Ground.guard }], guard := some (7, true) }) (v := ?_) rfl (by kernel_rfl) (by kernel_rfl) (by kernel_rfl) (fun _ _ _ h => h) (Or.inl ⟨by rfl, ?_⟩) (by assumption) ?_
                rotate_left
                · intro w hSw; (try dsimp only at hSw); go_simp; (try with_reducible rfl)
                try simp only [Act.put, List.setIfInBounds_toArray, List.set_cons_zero, List.set_cons_succ]
                refine wpAnyH_take (i := 17) (oi := { dst := some 62, op := Op.indexAddr 35 (Operand.tmp 60) (Operand.tmp 61), type := 0, pos := _, after := #[{ on := 15, ground := Ground.data }, { on := 16, ground := Ground.data }, { on := 7, ground := Ground.guard }], guard := some (7, true) }) (v := ?_) rfl (by kernel_rfl) (by kernel_rfl) (by kernel_rfl) (fun _ _ _ h => h) (Or.inl ⟨by rfl, ?_⟩) (by assumption) ?_
                rotate_left
                · intro w hSw; (try dsimp only at hSw); go_simp; (try with_reducible rfl)
                try simp only [Act.put, List.setIfInBounds_toArray, List.set_cons_zero, List.set_cons_succ]
                refine wpAnyH_take (i := 18) (oi := { dst := some 63, op := Op.load 9 (Operand.tmp 62), type := 9, pos := _, after := #[{ on := 17, ground := Ground.data }, { on := 7, ground := Ground.guard }], guard := some (7, true) }) (v := ?_) rfl (by kernel_rfl) (by kernel_rfl) (by kernel_rfl) (fun _ _ _ h => h) (Or.inl ⟨by rfl, ?_⟩) (by assumption) ?_
                rotate_left
                · intro w hSw; (try dsimp only at hSw); go_simp; (try with_reducible rfl)
                try simp only [Act.put, List.setIfInBounds_toArray, List.set_cons_zero, List.set_cons_succ]
                refine wpAnyH_ready (rs := [19]) (by kernel_rfl) (by simp) ?_
                refine AllReadyH.cons (o := { dst := some 64, op := Op.call { callee := Callee.value (Operand.func 11), args := #[Operand.tmp 53, Operand.tmp 59, Operand.tmp 63], argTypes := #[33, 9, 9] }, type := 4, pos := _, after := #[{ on := 8, ground := Ground.data }, { on := 14, ground := Ground.data }, { on := 18, ground := Ground.data }, { on := 7, ground := Ground.chain }, { on := 7, ground := Ground.guard }], guard := some (7, true) }) rfl (fun K hK => ?_) AllReadyH.nil
                go_simp
                go_at_call 11
                (with_reducible refine (HBk.out wr.drew (HO.out.trans' ((Turn.refl [] wr).drew))).mono ?_)
                rintro e w21 ⟨rfl, t21⟩
                have HT21 := Lib.hid (((Turn.refl [] wr).drew).trans' t21)
                clear t21
                try go_wp2_with fail
                refine hK.out _ _ ?_ (fun hHeld => ?_)
                · exact HSS.out _ (HT21.out)
                clear hK K
                try simp only [Act.put, List.setIfInBounds_toArray, List.set_cons_zero, List.set_cons_succ]
                refine wpAnyH_take (i := 20) (oi := { dst := some 65, op := Op.pick (Operand.tmp 52) (Operand.tmp 64) (Operand.const (Value.bool false)), type := 4, pos := _, after := #[{ on := 7, ground := Ground.data }, { on := 19, ground := Ground.data }], guard := none }) (v := ?_) rfl (by kernel_rfl) (by kernel_rfl) (by kernel_rfl) (fun _ _ _ h => h) (Or.inl ⟨by rfl, ?_⟩) (by assumption) ?_
                rotate_left
                · intro w hSw; (try dsimp only at hSw); go_simp; (try with_reducible rfl)
                try simp only [Act.put, List.setIfInBounds_toArray, List.set_cons_zero, List.set_cons_succ]
                refine wpAnyH_done (by kernel_rfl) ?_ _
                go_wp2_with fail
                go_roundw
                case rel => exact ⟨k + 1, by omega, by rw [HCN.out]; go_num, by go_num, Lib.hid (HO6.out.trans' (HT21.out))⟩
                case measure => simp [intOf]; omega
              | false =>
                have HCN : Hid (cntK l kd (k + 1) = ck) := Lib.hid hcn
                clear hcn
                refine wp_region_held_drew (S := fun w' => w'.cell? ⟨r, 0, none⟩ = some (.slice (some ⟨kb, koff, none⟩) n c) ∧ w'.cell? ⟨kb, koff + k * 10, none⟩ = some (.string kn) ∧ w'.cell? ⟨kb, koff + k * 10 + 2, none⟩ = some (.bool false) ∧ w'.cell? ⟨b, off + i, none⟩ = some (.string ti)) (by kernel_rfl) ?_ (fun hHeld => ?_)
                · exact HSS.out _ (Turn.refl [] wr).drew
                refine wpAnyH_take (i := 0) (oi := { dst := some 45, op := Op.fieldAddr 30 (Operand.tmp 1) 0, type := 0, pos := _, after := #[], guard := none }) (v := ?_) rfl (by kernel_rfl) (by kernel_rfl) (by kernel_rfl) (fun _ _ _ h => h) (Or.inl ⟨by rfl, ?_⟩) (by assumption) ?_
                rotate_left
                · intro w hSw; (try dsimp only at hSw); go_simp; (try with_reducible rfl)
                try simp only [Act.put, List.setIfInBounds_toArray, List.set_cons_zero, List.set_cons_succ]
                refine wpAnyH_take (i := 1) (oi := { dst := some 46, op := Op.load 22 (Operand.tmp 45), type := 22, pos := _, after := #[{ on := 0, ground := Ground.data }], guard := none }) (v := ?_) rfl (by kernel_rfl) (by kernel_rfl) (by kernel_rfl) (fun _ _ _ h => h) (Or.inl ⟨by rfl, ?_⟩) (by assumption) ?_
                rotate_left
                · intro w hSw; (try dsimp only at hSw); go_simp; (try with_reducible rfl)
                try simp only [Act.put, List.setIfInBounds_toArray, List.set_cons_zero, List.set_cons_succ]
                refine wpAnyH_take (i := 2) (oi := { dst := some 47, op := Op.move (Operand.tmp 8), type := 3, pos := _, after := #[], guard := none }) (v := ?_) rfl (by kernel_rfl) (by kernel_rfl) (by kernel_rfl) (fun _ _ _ h => h) (Or.inl ⟨by rfl, ?_⟩) (by assumption) ?_
                rotate_left
                · intro w hSw; (try dsimp only at hSw); go_simp; (try with_reducible rfl)
                try simp only [Act.put, List.setIfInBounds_toArray, List.set_cons_zero, List.set_cons_succ]
                refine wpAnyH_take (i := 3) (oi := { dst := some 48, op := Op.indexAddr 22 (Operand.tmp 46) (Operand.tmp 47), type := 0, pos := _, after := #[{ on := 1, ground := Ground.data }, { on := 2, ground := Ground.data }], guard := none }) (v := ?_) rfl (by kernel_rfl) (by kernel_rfl) (by kernel_rfl) (fun _ _ _ h => h) (Or.inl ⟨by rfl, ?_⟩) (by assumption) ?_
                rotate_left
                · intro w hSw; (try dsimp only at hSw); go_simp; (try with_reducible rfl)
                try simp only [Act.put, List.setIfInBounds_toArray, List.set_cons_zero, List.set_cons_succ]
                refine wpAnyH_take (i := 4) (oi := { dst := some 49, op := Op.fieldAddr 43 (Operand.tmp 48) 2, type := 0, pos := _, after := #[{ on := 3, ground := Ground.data }], guard := none }) (v := ?_) rfl (by kernel_rfl) (by kernel_rfl) (by kernel_rfl) (fun _ _ _ h => h) (Or.inl ⟨by rfl, ?_⟩) (by assumption) ?_
                rotate_left
                · intro w hSw; (try dsimp only at hSw); go_simp; (try with_reducible rfl)
                try simp only [Act.put, List.setIfInBounds_toArray, List.set_cons_zero, List.set_cons_succ]
                refine wpAnyH_take (i := 5) (oi := { dst := some 50, op := Op.load 4 (Operand.tmp 49), type := 4, pos := _, after := #[{ on := 4, ground := Ground.data }], guard := none }) (v := ?_) rfl (by kernel_rfl) (by kernel_rfl) (by kernel_rfl) (fun _ _ _ h => h) (Or.inl ⟨by rfl, ?_⟩) (by assumption) ?_
                rotate_left
                · intro w hSw; (try dsimp only at hSw); go_simp; (try with_reducible rfl)
                try simp only [Act.put, List.setIfInBounds_toArray, List.set_cons_zero, List.set_cons_succ]
                refine wpAnyH_take (i := 6) (oi := { dst := some 51, op := Op.unOp UnOp.not 4 (Operand.tmp 50), type := 4, pos := _, after := #[{ on := 5, ground := Ground.data }], guard := none }) (v := ?_) rfl (by kernel_rfl) (by kernel_rfl) (by kernel_rfl) (fun _ _ _ h => h) (Or.inl ⟨by rfl, ?_⟩) (by assumption) ?_
                rotate_left
                · intro w hSw; (try dsimp only at hSw); go_simp; (try with_reducible rfl)
                try simp only [Act.put, List.setIfInBounds_toArray, List.set_cons_zero, List.set_cons_succ]
                refine wpAnyH_take (i := 7) (oi := { dst := some 52, op := Op.move (Operand.tmp 51), type := 4, pos := _, after := #[{ on := 6, ground := Ground.data }], guard := none }) (v := ?_) rfl (by kernel_rfl) (by kernel_rfl) (by kernel_rfl) (fun _ _ _ h => h) (Or.inl ⟨by rfl, ?_⟩) (by assumption) ?_
                rotate_left
                · intro w hSw; (try dsimp only at hSw); go_simp; (try with_reducible rfl)
                try simp only [Act.put, List.setIfInBounds_toArray, List.set_cons_zero, List.set_cons_succ]
                refine wpAnyH_take (i := 8) (oi := { dst := some 53, op := Op.move (Operand.tmp 3), type := 33, pos := _, after := #[{ on := 7, ground := Ground.guard }], guard := some (7, true) }) (v := ?_) rfl (by kernel_rfl) (by kernel_rfl) (by kernel_rfl) (fun _ _ _ h => h) (Or.inl ⟨by rfl, ?_⟩) (by assumption) ?_
                rotate_left
                · intro w hSw; (try dsimp only at hSw); go_simp; (try with_reducible rfl)
                try simp only [Act.put, List.setIfInBounds_toArray, List.set_cons_zero, List.set_cons_succ]
                refine wpAnyH_take (i := 9) (oi := { dst := some 54, op := Op.fieldAddr 30 (Operand.tmp 1) 0, type := 0, pos := _, after := #[{ on := 7, ground := Ground.guard }], guard := some (7, true) }) (v := ?_) rfl (by kernel_rfl) (by kernel_rfl) (by kernel_rfl) (fun _ _ _ h => h) (Or.inl ⟨by rfl, ?_⟩) (by assumption) ?_
                rotate_left
                · intro w hSw; (try dsimp only at hSw); go_simp; (try with_reducible rfl)
                try simp only [Act.put, List.setIfInBounds_toArray, List.set_cons_zero, List.set_cons_succ]
                refine wpAnyH_take (i := 10) (oi := { dst := some 55, op := Op.load 22 (Operand.tmp 54), type := 22, pos := _, after := #[{ on := 9, ground := Ground.data }, { on := 7, ground := Ground.guard }], guard := some (7, true) }) (v := ?_) rfl (by kernel_rfl) (by kernel_rfl) (by kernel_rfl) (fun _ _ _ h => h) (Or.inl ⟨by rfl, ?_⟩) (by assumption) ?_
                rotate_left
                · intro w hSw; (try dsimp only at hSw); go_simp; (try with_reducible rfl)
                try simp only [Act.put, List.setIfInBounds_toArray, List.set_cons_zero, List.set_cons_succ]
                refine wpAnyH_take (i := 11) (oi := { dst := some 56, op := Op.move (Operand.tmp 8), type := 3, pos := _, after := #[{ on := 7, ground := Ground.guard }], guard := some (7, true) }) (v := ?_) rfl (by kernel_rfl) (by kernel_rfl) (by kernel_rfl) (fun _ _ _ h => h) (Or.inl ⟨by rfl, ?_⟩) (by assumption) ?_
                rotate_left
                · intro w hSw; (try dsimp only at hSw); go_simp; (try with_reducible rfl)
                try simp only [Act.put, List.setIfInBounds_toArray, List.set_cons_zero, List.set_cons_succ]
                refine wpAnyH_take (i := 12) (oi := { dst := some 57, op := Op.indexAddr 22 (Operand.tmp 55) (Operand.tmp 56), type := 0, pos := _, after := #[{ on := 10, ground := Ground.data }, { on := 11, ground := Ground.data }, { on := 7, ground := Ground.guard }], guard := some (7, true) }) (v := ?_) rfl (by kernel_rfl) (by kernel_rfl) (by kernel_rfl) (fun _ _ _ h => h) (Or.inl ⟨by rfl, ?_⟩) (by assumption) ?_
                rotate_left
                · intro w hSw; (try dsimp only at hSw); go_simp; (try with_reducible rfl)
                try simp only [Act.put, List.setIfInBounds_toArray, List.set_cons_zero, List.set_cons_succ]
                refine wpAnyH_take (i := 13) (oi := { dst := some 58, op := Op.fieldAddr 43 (Operand.tmp 57) 0, type := 0, pos := _, after := #[{ on := 12, ground := Ground.data }, { on := 7, ground := Ground.guard }], guard := some (7, true) }) (v := ?_) rfl (by kernel_rfl) (by kernel_rfl) (by kernel_rfl) (fun _ _ _ h => h) (Or.inl ⟨by rfl, ?_⟩) (by assumption) ?_
                rotate_left
                · intro w hSw; (try dsimp only at hSw); go_simp; (try with_reducible rfl)
                try simp only [Act.put, List.setIfInBounds_toArray, List.set_cons_zero, List.set_cons_succ]
                refine wpAnyH_take (i := 14) (oi := { dst := some 59, op := Op.load 9 (Operand.tmp 58), type := 9, pos := _, after := #[{ on := 13, ground := Ground.data }, { on := 7, ground := Ground.guard }], guard := some (7, true) }) (v := ?_) rfl (by kernel_rfl) (by kernel_rfl) (by kernel_rfl) (fun _ _ _ h => h) (Or.inl ⟨by rfl, ?_⟩) (by assumption) ?_
                rotate_left
                · intro w hSw; (try dsimp only at hSw); go_simp; (try with_reducible rfl)
                try simp only [Act.put, List.setIfInBounds_toArray, List.set_cons_zero, List.set_cons_succ]
                refine wpAnyH_take (i := 15) (oi := { dst := some 60, op := Op.move (Operand.tmp 4), type := 35, pos := _, after := #[{ on := 7, ground := Ground.guard }], guard := some (7, true) }) (v := ?_) rfl (by kernel_rfl) (by kernel_rfl) (by kernel_rfl) (fun _ _ _ h => h) (Or.inl ⟨by rfl, ?_⟩) (by assumption) ?_
                rotate_left
                · intro w hSw; (try dsimp only at hSw); go_simp; (try with_reducible rfl)
                try simp only [Act.put, List.setIfInBounds_toArray, List.set_cons_zero, List.set_cons_succ]
                refine wpAnyH_take (i := 16) (oi := { dst := some 61, op := Op.move (Operand.tmp 5), type := 3, pos := _, after := #[{ on := 7, ground := Ground.guard }], guard := some (7, true) }) (v := ?_) rfl (by kernel_rfl) (by kernel_rfl) (by kernel_rfl) (fun _ _ _ h => h) (Or.inl ⟨by rfl, ?_⟩) (by assumption) ?_
                rotate_left
                · intro w hSw; (try dsimp only at hSw); go_simp; (try with_reducible rfl)
                try simp only [Act.put, List.setIfInBounds_toArray, List.set_cons_zero, List.set_cons_succ]
                refine wpAnyH_take (i := 17) (oi := { dst := some 62, op := Op.indexAddr 35 (Operand.tmp 60) (Operand.tmp 61), type := 0, pos := _, after := #[{ on := 15, ground := Ground.data }, { on := 16, ground := Ground.data }, { on := 7, ground := Ground.guard }], guard := some (7, true) }) (v := ?_) rfl (by kernel_rfl) (by kernel_rfl) (by kernel_rfl) (fun _ _ _ h => h) (Or.inl ⟨by rfl, ?_⟩) (by assumption) ?_
                rotate_left
                · intro w hSw; (try dsimp only at hSw); go_simp; (try with_reducible rfl)
                try simp only [Act.put, List.setIfInBounds_toArray, List.set_cons_zero, List.set_cons_succ]
                refine wpAnyH_take (i := 18) (oi := { dst := some 63, op := Op.load 9 (Operand.tmp 62), type := 9, pos := _, after := #[{ on := 17, ground := Ground.data }, { on := 7, ground := Ground.guard }], guard := some (7, true) }) (v := ?_) rfl (by kernel_rfl) (by kernel_rfl) (by kernel_rfl) (fun _ _ _ h => h) (Or.inl ⟨by rfl, ?_⟩) (by assumption) ?_
                rotate_left
                · intro w hSw; (try dsimp only at hSw); go_simp; (try with_reducible rfl)
                try simp only [Act.put, List.setIfInBounds_toArray, List.set_cons_zero, List.set_cons_succ]
                refine wpAnyH_ready (rs := [19]) (by kernel_rfl) (by simp) ?_
                refine AllReadyH.cons (o := { dst := some 64, op := Op.call { callee := Callee.value (Operand.func 11), args := #[Operand.tmp 53, Operand.tmp 59, Operand.tmp 63], argTypes := #[33, 9, 9] }, type := 4, pos := _, after := #[{ on := 8, ground := Ground.data }, { on := 14, ground := Ground.data }, { on := 18, ground := Ground.data }, { on := 7, ground := Ground.chain }, { on := 7, ground := Ground.guard }], guard := some (7, true) }) rfl (fun K hK => ?_) AllReadyH.nil
                go_simp
                go_at_call 11
                (with_reducible refine (HBk.out wr.drew (HO.out.trans' ((Turn.refl [] wr).drew))).mono ?_)
                rintro e w21 ⟨rfl, t21⟩
                have HT21 := Lib.hid (((Turn.refl [] wr).drew).trans' t21)
                clear t21
                try go_wp2_with fail
                refine hK.out _ _ ?_ (fun hHeld => ?_)
                · exact HSS.out _ (HT21.out)
                clear hK K
                try simp only [Act.put, List.setIfInBounds_toArray, List.set_cons_zero, List.set_cons_succ]
                refine wpAnyH_take (i := 20) (oi := { dst := some 65, op := Op.pick (Operand.tmp 52) (Operand.tmp 64) (Operand.const (Value.bool false)), type := 4, pos := _, after := #[{ on := 7, ground := Ground.data }, { on := 19, ground := Ground.data }], guard := none }) (v := ?_) rfl (by kernel_rfl) (by kernel_rfl) (by kernel_rfl) (fun _ _ _ h => h) (Or.inl ⟨by rfl, ?_⟩) (by assumption) ?_
                rotate_left
                · intro w hSw; (try dsimp only at hSw); go_simp; (try with_reducible rfl)
                try simp only [Act.put, List.setIfInBounds_toArray, List.set_cons_zero, List.set_cons_succ]
                refine wpAnyH_done (by kernel_rfl) ?_ _
                go_wp2_with fail
                go_roundw
                case rel => exact ⟨k + 1, by omega, by rw [HCN.out], by go_num, Lib.hid (HO6.out.trans' (HT21.out))⟩
                case measure => simp [intOf]; omega
          · obtain rfl : k = n := by omega
            have d3 : decide ((k : Int) < (k : Int)) = false := by simp
            have hcnM : isAr kd = false → (cntK l kd k : Int) = (M : Int) := fun h => by
              have := HCU.out
              rw [h, HN.out] at this
              simp at this
              omega
            have HCM := Lib.hid hcnM
            obtain ⟨cn, hcn⟩ : ∃ cn : Nat, cntK l kd k = cn := ⟨_, rfl⟩
            rw [hcn] at HCM ⊢
            have HO60 := HO6
            clear hcnM hcn HO HO6
            go_wp2_with fail
            go_loopw [9] (fun v9 wr => ∃ q : Nat, q ≤ M ∧ v9 = .int .i64 (q : Int) ∧ Hid (Turn [] w5 wr)) (fun v9 _ => M - (intOf v9).toNat)
            case atStart => exact ⟨0, Nat.zero_le _, rfl, HO60⟩
            case round =>
              clear HO60
              obtain ⟨q, hq, rfl, HO6⟩ := hrel
              have HO := Lib.hid (HO5.out.trans' HO6.out)
              by_cases hqm : q < M
              · have d5 : decide ((q : Int) < (M : Int)) = true := by simp; omega
                have d6 : (q : Int) < (M : Int) := by omega
                obtain ⟨a, ha⟩ := at_lt (show q < us.length by have := HM.out; omega)
                obtain ⟨hoka, hba⟩ := HUM.out a (List.mem_of_getElem? ha)
                have hMn : M ≤ 1000000 := by
                  have h1 := HCU.out
                  have h2 := cntK_le l kd l.length
                  have h3 := HG.out.kok.len
                  by_cases ha : isAr kd = true
                  · rw [if_pos ha] at h1; omega
                  · rw [if_neg ha] at h1; omega
                obtain ⟨ub, uoff, rfl, hub, cu⟩ := HTX.out.turn HO6.out q (txK l a) (by rw [List.getElem?_map, ha]; rfl)
                have HBu : Hid (∀ W, Turn [] Wb W → Calls Tryd.prog 11 #[.pointer (some ⟨x, 0, none⟩), .string (txK l a), .string ti] W fun e w' => e = .returned (.bool true) ∧ Turn [] W w') := Lib.hid fun W u => by
                  have := HBGi.out W u a hoka
                  rw [hba] at this
                  exact this
                obtain ⟨uk, huk⟩ : ∃ uk, txK l a = uk := ⟨_, rfl⟩
                rw [huk] at cu HBu
                by_cases hq0 : 0 < q
                · have d7 : decide ((q : Int) > 0) = true := by simp; omega
                  have d8 : decide ((0 : Int) < (q : Int)) = true := by simp; omega
                  have d8' : decide (0 < q) = true := by simp; omega
                  obtain ⟨p, hp⟩ : ∃ p : Nat, q = p + 1 := ⟨q - 1, by omega⟩
                  have hqp : (q : Int) - 1 = (p : Int) := by omega
                  have hw : IntKind.i64.wrap ((q : Int) - 1) = (p : Int) := by rw [hqp, IntKind.wrap_i64]; omega
                  have hwp : IntKind.i64.wrap (p : Int) = (p : Int) := by rw [IntKind.wrap_i64]; omega
                  have d9 : (p : Int) < (M : Int) := by omega
                  obtain ⟨a', ha'⟩ := at_lt (show p < us.length by have := HM.out; omega)
                  obtain ⟨hoka', _⟩ := HUM.out a' (List.mem_of_getElem? ha')
                  obtain ⟨ub', uoff', e', hub', cu'⟩ := HTX.out.turn HO6.out p (txK l a') (by rw [List.getElem?_map, ha']; rfl)
                  injection e' with e'
                  injection e' with e1 e2
                  subst e1 e2
                  have hne : txK l a ≠ txK l a' := fun e => by
                    have h1 := tx_inj HG.out HPl.out hoka hoka' e
                    subst h1
                    have h2 := HND.out
                    obtain ⟨x1, y1⟩ := List.getElem?_eq_some_iff.1 ha
                    obtain ⟨x2, y2⟩ := List.getElem?_eq_some_iff.1 ha'
                    have h3 := List.pairwise_iff_getElem.1 h2 p q x2 x1 (by omega)
                    exact h3 (by rw [y1, y2])
                  obtain ⟨uq, huq⟩ : ∃ uq, txK l a' = uq := ⟨_, rfl⟩
                  rw [huk, huq] at hne
                  rw [huq] at cu'
                  have e5 := tx_other hne
                  have HSS : Hid (∀ w', Turn [] wr w' → (w'.cell? ⟨ub, uoff + q, none⟩ = some (.string uk) ∧ w'.cell? ⟨ub, uoff + p, none⟩ = some (.string uq) ∧ w'.cell? ⟨b, off + i, none⟩ = some (.string ti))) := Lib.hid fun w' u => ⟨(u.cell (p := ⟨ub, uoff + q, none⟩) hub (by simp)).trans cu, (u.cell (p := ⟨ub, uoff + p, none⟩) hub (by simp)).trans cu', HCi.out w' (HO.out.trans' u)⟩
                  clear ha ha' hoka hoka' hba hub hub' huk huq hne hp hq0 cu cu'
                  go_upto_region 20 with fail
                  refine wp_region_held_drew (S := fun w' => w'.cell? ⟨ub, uoff + q, none⟩ = some (.string uk) ∧ w'.cell? ⟨ub, uoff + p, none⟩ = some (.string uq) ∧ w'.cell? ⟨b, off + i, none⟩ = some (.string ti)) (by kernel_rfl) ?_ (fun hHeld => ?_)
                  · exact HSS.out _ (Turn.refl [] wr).drew
                  refine wpAnyH_take (i := 0) (oi := { dst := some 74, op := Op.move (Operand.tmp 3), type := 33, pos := _, after := #[], guard := none }) (v := ?_) rfl (by kernel_rfl) (by kernel_rfl) (by kernel_rfl) (fun _ _ _ h => h) (Or.inl ⟨by rfl, ?_⟩) (by assumption) ?_
                  rotate_left
                  · intro w hSw; (try dsimp only at hSw); go_simp; (try with_reducible rfl)
                  try simp only [Act.put, List.setIfInBounds_toArray, List.set_cons_zero, List.set_cons_succ]
                  refine wpAnyH_take (i := 1) (oi := { dst := some 75, op := Op.move (Operand.tmp 6), type := 35, pos := _, after := #[], guard := none }) (v := ?_) rfl (by kernel_rfl) (by kernel_rfl) (by kernel_rfl) (fun _ _ _ h => h) (Or.inl ⟨by rfl, ?_⟩) (by assumption) ?_
                  rotate_left
                  · intro w hSw; (try dsimp only at hSw); go_simp; (try with_reducible rfl)
                  try simp only [Act.put, List.setIfInBounds_toArray, List.set_cons_zero, List.set_cons_succ]
                  refine wpAnyH_take (i := 2) (oi := { dst := some 76, op := Op.move (Operand.tmp 9), type := 3, pos := _, after := #[], guard := none }) (v := ?_) rfl (by kernel_rfl) (by kernel_rfl) (by kernel_rfl) (fun _ _ _ h => h) (Or.inl ⟨by rfl, ?_⟩) (by assumption) ?_
                  rotate_left
                  · intro w hSw; (try dsimp only at hSw); go_simp; (try with_reducible rfl)
                  try simp only [Act.put, List.setIfInBounds_toArray, List.set_cons_zero, List.set_cons_succ]
                  refine wpAnyH_take (i := 3) (oi := { dst := some 77, op := Op.indexAddr 35 (Operand.tmp 75) (Operand.tmp 76), type := 0, pos := _, after := #[{ on := 1, ground := Ground.data }, { on := 2, ground := Ground.data }], guard := none }) (v := ?_) rfl (by kernel_rfl) (by kernel_rfl) (by kernel_rfl) (fun _ _ _ h => h) (Or.inl ⟨by rfl, ?_⟩) (by assumption) ?_
                  rotate_left
                  · intro w hSw; (try dsimp only at hSw); go_simp; (try with_reducible rfl)
                  try simp only [Act.put, List.setIfInBounds_toArray, List.set_cons_zero, List.set_cons_succ]
                  refine wpAnyH_take (i := 4) (oi := { dst := some 78, op := Op.load 9 (Operand.tmp 77), type := 9, pos := _, after := #[{ on := 3, ground := Ground.data }], guard := none }) (v := ?_) rfl (by kernel_rfl) (by kernel_rfl) (by kernel_rfl) (fun _ _ _ h => h) (Or.inl ⟨by rfl, ?_⟩) (by assumption) ?_
                  rotate_left
                  · intro w hSw; (try dsimp only at hSw); go_simp; (try with_reducible rfl)
                  try simp only [Act.put, List.setIfInBounds_toArray, List.set_cons_zero, List.set_cons_succ]
                  refine wpAnyH_take (i := 5) (oi := { dst := some 79, op := Op.move (Operand.tmp 4), type := 35, pos := _, after := #[], guard := none }) (v := ?_) rfl (by kernel_rfl) (by kernel_rfl) (by kernel_rfl) (fun _ _ _ h => h) (Or.inl ⟨by rfl, ?_⟩) (by assumption) ?_
                  rotate_left
                  · intro w hSw; (try dsimp only at hSw); go_simp; (try with_reducible rfl)
                  try simp only [Act.put, List.setIfInBounds_toArray, List.set_cons_zero, List.set_cons_succ]
                  refine wpAnyH_take (i := 6) (oi := { dst := some 80, op := Op.move (Operand.tmp 5), type := 3, pos := _, after := #[], guard := none }) (v := ?_) rfl (by kernel_rfl) (by kernel_rfl) (by kernel_rfl) (fun _ _ _ h => h) (Or.inl ⟨by rfl, ?_⟩) (by assumption) ?_
                  rotate_left
                  · intro w hSw; (try dsimp only at hSw); go_simp; (try with_reducible rfl)
                  try simp only [Act.put, List.setIfInBounds_toArray, List.set_cons_zero, List.set_cons_succ]
                  refine wpAnyH_take (i := 7) (oi := { dst := some 81, op := Op.indexAddr 35 (Operand.tmp 79) (Operand.tmp 80), type := 0, pos := _, after := #[{ on := 5, ground := Ground.data }, { on := 6, ground := Ground.data }], guard := none }) (v := ?_) rfl (by kernel_rfl) (by kernel_rfl) (by kernel_rfl) (fun _ _ _ h => h) (Or.inl ⟨by rfl, ?_⟩) (by assumption) ?_
                  rotate_left
                  · intro w hSw; (try dsimp only at hSw); go_simp; (try with_reducible rfl)
                  try simp only [Act.put, List.setIfInBounds_toArray, List.set_cons_zero, List.set_cons_succ]
                  refine wpAnyH_take (i := 8) (oi := { dst := some 82, op := Op.load 9 (Operand.tmp 81), type := 9, pos := _, after := #[{ on := 7, ground := Ground.data }], guard := none }) (v := ?_) rfl (by kernel_rfl) (by kernel_rfl) (by kernel_rfl) (fun _ _ _ h => h) (Or.inl ⟨by rfl, ?_⟩) (by assumption) ?_
                  rotate_left
                  · intro w hSw; (try dsimp only at hSw); go_simp; (try with_reducible rfl)
                  try simp only [Act.put, List.setIfInBounds_toArray, List.set_cons_zero, List.set_cons_succ]
                  refine wpAnyH_ready (rs := [9]) (by kernel_rfl) (by simp) ?_
                  refine AllReadyH.cons (o := { dst := some 83, op := Op.call { callee := Callee.value (Operand.func 11), args := #[Operand.tmp 74, Operand.tmp 78, Operand.tmp 82], argTypes := #[33, 9, 9] }, type := 4, pos := _, after := #[{ on := 0, ground := Ground.data }, { on := 4, ground := Ground.data }, { on := 8, ground := Ground.data }], guard := none }) rfl (fun K hK => ?_) AllReadyH.nil
                  go_simp
                  go_at_call 11
                  (with_reducible refine (HBu.out wr.drew (HO.out.trans' ((Turn.refl [] wr).drew))).mono ?_)
                  rintro e w41 ⟨rfl, t41⟩
                  have HT41 := Lib.hid (((Turn.refl [] wr).drew).trans' t41)
                  clear t41
                  try go_wp2_with fail
                  refine hK.out _ _ ?_ (fun hHeld => ?_)
                  · exact HSS.out _ (HT41.out)
                  clear hK K
                  try simp only [Act.put, List.setIfInBounds_toArray, List.set_cons_zero, List.set_cons_succ]
                  refine wpAnyH_take (i := 10) (oi := { dst := some 84, op := Op.unOp UnOp.not 4 (Operand.tmp 83), type := 4, pos := _, after := #[{ on := 9, ground := Ground.data }], guard := none }) (v := ?_) rfl (by kernel_rfl) (by kernel_rfl) (by kernel_rfl) (fun _ _ _ h => h) (Or.inl ⟨by rfl, ?_⟩) (by assumption) ?_
                  rotate_left
                  · intro w hSw; (try dsimp only at hSw); go_simp; (try with_reducible rfl)
                  try simp only [Act.put, List.setIfInBounds_toArray, List.set_cons_zero, List.set_cons_succ]
                  refine wpAnyH_take (i := 11) (oi := { dst := some 85, op := Op.move (Operand.tmp 84), type := 4, pos := _, after := #[{ on := 10, ground := Ground.data }, { on := 9, ground := Ground.chain }], guard := none }) (v := ?_) rfl (by kernel_rfl) (by kernel_rfl) (by kernel_rfl) (fun _ _ _ h => h) (Or.inl ⟨by rfl, ?_⟩) (by assumption) ?_
                  rotate_left
                  · intro w hSw; (try dsimp only at hSw); go_simp; (try with_reducible rfl)
                  try simp only [Act.put, List.setIfInBounds_toArray, List.set_cons_zero, List.set_cons_succ]
                  refine wpAnyH_take (i := 12) (oi := { dst := some 86, op := Op.move (Operand.tmp 9), type := 3, pos := _, after := #[{ on := 11, ground := Ground.guard }], guard := some (11, false) }) (v := ?_) rfl (by kernel_rfl) (by kernel_rfl) (by kernel_rfl) (fun _ _ _ h => h) (Or.inl ⟨by rfl, ?_⟩) (by assumption) ?_
                  rotate_left
                  · intro w hSw; (try dsimp only at hSw); go_simp; (try with_reducible rfl)
                  try simp only [Act.put, List.setIfInBounds_toArray, List.set_cons_zero, List.set_cons_succ]
                  refine wpAnyH_take (i := 13) (oi := { dst := some 87, op := Op.binOp BinOp.gtr 3 (Operand.tmp 86) (Operand.const (Value.int IntKind.i64 0)) 3, type := 4, pos := _, after := #[{ on := 12, ground := Ground.data }, { on := 11, ground := Ground.guard }], guard := some (11, false) }) (v := ?_) rfl (by kernel_rfl) (by kernel_rfl) (by kernel_rfl) (fun _ _ _ h => h) (Or.inl ⟨by rfl, ?_⟩) (by assumption) ?_
                  rotate_left
                  · intro w hSw; (try dsimp only at hSw); go_simp; (try with_reducible rfl)
                  try simp only [Act.put, List.setIfInBounds_toArray, List.set_cons_zero, List.set_cons_succ]
                  refine wpAnyH_take (i := 14) (oi := { dst := some 88, op := Op.move (Operand.tmp 87), type := 4, pos := _, after := #[{ on := 13, ground := Ground.data }, { on := 11, ground := Ground.chain }, { on := 11, ground := Ground.guard }], guard := some (11, false) }) (v := ?_) rfl (by kernel_rfl) (by kernel_rfl) (by kernel_rfl) (fun _ _ _ h => h) (Or.inl ⟨by rfl, ?_⟩) (by assumption) ?_
                  rotate_left
                  · intro w hSw; (try dsimp only at hSw); go_simp; (try with_reducible rfl)
                  try simp only [Act.put, List.setIfInBounds_toArray, List.set_cons_zero, List.set_cons_succ]
                  refine wpAnyH_take (i := 15) (oi := { dst := some 89, op := Op.move (Operand.tmp 6), type := 35, pos := _, after := #[{ on := 14, ground := Ground.guard }], guard := some (14, true) }) (v := ?_) rfl (by kernel_rfl) (by kernel_rfl) (by kernel_rfl) (fun _ _ _ h => h) (Or.inl ⟨by rfl, ?_⟩) (by assumption) ?_
                  rotate_left
                  · intro w hSw; (try dsimp only at hSw); go_simp; (try with_reducible rfl)
                  try simp only [Act.put, List.setIfInBounds_toArray, List.set_cons_zero, List.set_cons_succ]
                  refine wpAnyH_take (i := 16) (oi := { dst := some 90, op := Op.move (Operand.tmp 9), type := 3, pos := _, after := #[{ on := 14, ground := Ground.guard }], guard := some (14, true) }) (v := ?_) rfl (by kernel_rfl) (by kernel_rfl) (by kernel_rfl) (fun _ _ _ h => h) (Or.inl ⟨by rfl, ?_⟩) (by assumption) ?_
                  rotate_left
                  · intro w hSw; (try dsimp only at hSw); go_simp; (try with_reducible rfl)
                  try simp only [Act.put, List.setIfInBounds_toArray, List.set_cons_zero, List.set_cons_succ]
                  refine wpAnyH_take (i := 17) (oi := { dst := some 91, op := Op.indexAddr 35 (Operand.tmp 89) (Operand.tmp 90), type := 0, pos := _, after := #[{ on := 15, ground := Ground.data }, { on := 16, ground := Ground.data }, { on := 14, ground := Ground.guard }], guard := some (14, true) }) (v := ?_) rfl (by kernel_rfl) (by kernel_rfl) (by kernel_rfl) (fun _ _ _ h => h) (Or.inl ⟨by rfl, ?_⟩) (by assumption) ?_
                  rotate_left
                  · intro w hSw; (try dsimp only at hSw); go_simp; (try with_reducible rfl)
                  try simp only [Act.put, List.setIfInBounds_toArray, List.set_cons_zero, List.set_cons_succ]
                  refine wpAnyH_take (i := 18) (oi := { dst := some 92, op := Op.load 9 (Operand.tmp 91), type := 9, pos := _, after := #[{ on := 17, ground := Ground.data }, { on := 14, ground := Ground.guard }], guard := some (14, true) }) (v := ?_) rfl (by kernel_rfl) (by kernel_rfl) (by kernel_rfl) (fun _ _ _ h => h) (Or.inl ⟨by rfl, ?_⟩) (by assumption) ?_
                  rotate_left
                  · intro w hSw; (try dsimp only at hSw); go_simp; (try with_reducible rfl)
                  try simp only [Act.put, List.setIfInBounds_toArray, List.set_cons_zero, List.set_cons_succ]
                  refine wpAnyH_take (i := 19) (oi := { dst := some 93, op := Op.move (Operand.tmp 6), type := 35, pos := _, after := #[{ on := 14, ground := Ground.guard }], guard := some (14, true) }) (v := ?_) rfl (by kernel_rfl) (by kernel_rfl) (by kernel_rfl) (fun _ _ _ h => h) (Or.inl ⟨by rfl, ?_⟩) (by assumption) ?_
                  rotate_left
                  · intro w hSw; (try dsimp only at hSw); go_simp; (try with_reducible rfl)
                  try simp only [Act.put, List.setIfInBounds_toArray, List.set_cons_zero, List.set_cons_succ]
                  refine wpAnyH_take (i := 20) (oi := { dst := some 94, op := Op.move (Operand.tmp 9), type := 3, pos := _, after := #[{ on := 14, ground := Ground.guard }], guard := some (14, true) }) (v := ?_) rfl (by kernel_rfl) (by kernel_rfl) (by kernel_rfl) (fun _ _ _ h => h) (Or.inl ⟨by rfl, ?_⟩) (by assumption) ?_
                  rotate_left
                  · intro w hSw; (try dsimp only at hSw); go_simp; (try with_reducible rfl)
                  try simp only [Act.put, List.setIfInBounds_toArray, List.set_cons_zero, List.set_cons_succ]
                  refine wpAnyH_take (i := 21) (oi := { dst := some 95, op := Op.binOp BinOp.sub 3 (Operand.tmp 94) (Operand.const (Value.int IntKind.i64 1)) 3, type := 3, pos := _, after := #[{ on := 20, ground := Ground.data }, { on := 14, ground := Ground.guard }], guard := some (14, true) }) (v := ?_) rfl (by kernel_rfl) (by kernel_rfl) (by kernel_rfl) (fun _ _ _ h => h) (Or.inl ⟨by rfl, ?_⟩) (by assumption) ?_
                  rotate_left
                  · intro w hSw; (try dsimp only at hSw); go_simp; (try with_reducible rfl)
                  try simp only [Act.put, List.setIfInBounds_toArray, List.set_cons_zero, List.set_cons_succ]
                  refine wpAnyH_take (i := 22) (oi := { dst := some 96, op := Op.indexAddr 35 (Operand.tmp 93) (Operand.tmp 95), type := 0, pos := _, after := #[{ on := 19, ground := Ground.data }, { on := 21, ground := Ground.data }, { on := 14, ground := Ground.guard }], guard := some (14, true) }) (v := ?_) rfl (by kernel_rfl) (by kernel_rfl) (by kernel_rfl) (fun _ _ _ h => h) (Or.inl ⟨by rfl, ?_⟩) (by assumption) ?_
                  rotate_left
                  · intro w hSw; (try dsimp only at hSw); go_simp; (try with_reducible rfl)
                  try simp only [Act.put, List.setIfInBounds_toArray, List.set_cons_zero, List.set_cons_succ]
                  refine wpAnyH_take (i := 23) (oi := { dst := some 97, op := Op.load 9 (Operand.tmp 96), type := 9, pos := _, after := #[{ on := 22, ground := Ground.data }, { on := 14, ground := Ground.guard }], guard := some (14, true) }) (v := ?_) rfl (by kernel_rfl) (by kernel_rfl) (by kernel_rfl) (fun _ _ _ h => h) (Or.inl ⟨by rfl, ?_⟩) (by assumption) ?_
                  rotate_left
                  · intro w hSw; (try dsimp only at hSw); go_simp; (try with_reducible rfl)
                  try simp only [Act.put, List.setIfInBounds_toArray, List.set_cons_zero, List.set_cons_succ]
                  refine wpAnyH_take (i := 24) (oi := { dst := some 98, op := Op.binOp BinOp.eql 9 (Operand.tmp 92) (Operand.tmp 97) 9, type := 4, pos := _, after := #[{ on := 18, ground := Ground.data }, { on := 23, ground := Ground.data }, { on := 14, ground := Ground.guard }], guard := some (14, true) }) (v := ?_) rfl (by kernel_rfl) (by kernel_rfl) (by kernel_rfl) (fun _ _ _ h => h) (Or.inl ⟨by rfl, ?_⟩) (by assumption) ?_
                  rotate_left
                  · intro w hSw; (try dsimp only at hSw); go_simp; (try with_reducible rfl)
                  try simp only [Act.put, List.setIfInBounds_toArray, List.set_cons_zero, List.set_cons_succ]
                  refine wpAnyH_take (i := 25) (oi := { dst := some 99, op := Op.pick (Operand.tmp 88) (Operand.tmp 98) (Operand.const (Value.bool false)), type := 4, pos := _, after := #[{ on := 14, ground := Ground.data }, { on := 24, ground := Ground.data }, { on := 11, ground := Ground.guard }], guard := some (11, false) }) (v := ?_) rfl (by kernel_rfl) (by kernel_rfl) (by kernel_rfl) (fun _ _ _ h => h) (Or.inl ⟨by rfl, ?_⟩) (by assumption) ?_
                  rotate_left
                  · intro w hSw; (try dsimp only at hSw); go_simp; (try with_reducible rfl)
                  try simp only [Act.put, List.setIfInBounds_toArray, List.set_cons_zero, List.set_cons_succ]
                  refine wpAnyH_take (i := 26) (oi := { dst := some 100, op := Op.pick (Operand.tmp 85) (Operand.const (Value.bool true)) (Operand.tmp 99), type := 4, pos := _, after := #[{ on := 11, ground := Ground.data }, { on := 25, ground := Ground.data }], guard := none }) (v := ?_) rfl (by kernel_rfl) (by kernel_rfl) (by kernel_rfl) (fun _ _ _ h => h) (Or.inl ⟨by rfl, ?_⟩) (by assumption) ?_
                  rotate_left
                  · intro w hSw; (try dsimp only at hSw); go_simp; (try with_reducible rfl)
                  try simp only [Act.put, List.setIfInBounds_toArray, List.set_cons_zero, List.set_cons_succ]
                  refine wpAnyH_done (by kernel_rfl) ?_ _
                  go_wp2_with fail
                  go_roundw
                  case rel => exact ⟨q + 1, by omega, by go_num, Lib.hid (HO6.out.trans' (HT41.out))⟩
                  case measure => simp [intOf]; omega
                · have d7 : decide ((q : Int) > 0) = false := by simp; omega
                  have d8 : decide ((0 : Int) < (q : Int)) = false := by simp; omega
                  have d8' : decide (0 < q) = false := by simp; omega
                  have HSS : Hid (∀ w', Turn [] wr w' → (w'.cell? ⟨ub, uoff + q, none⟩ = some (.string uk) ∧ w'.cell? ⟨b, off + i, none⟩ = some (.string ti))) := Lib.hid fun w' u => ⟨(u.cell (p := ⟨ub, uoff + q, none⟩) hub (by simp)).trans cu, HCi.out w' (HO.out.trans' u)⟩
                  clear ha hoka hba hub huk hq0 cu
                  go_upto_region 20 with fail
                  refine wp_region_held_drew (S := fun w' => w'.cell? ⟨ub, uoff + q, none⟩ = some (.string uk) ∧ w'.cell? ⟨b, off + i, none⟩ = some (.string ti)) (by kernel_rfl) ?_ (fun hHeld => ?_)
                  · exact HSS.out _ (Turn.refl [] wr).drew
                  refine wpAnyH_take (i := 0) (oi := { dst := some 74, op := Op.move (Operand.tmp 3), type := 33, pos := _, after := #[], guard := none }) (v := ?_) rfl (by kernel_rfl) (by kernel_rfl) (by kernel_rfl) (fun _ _ _ h => h) (Or.inl ⟨by rfl, ?_⟩) (by assumption) ?_
                  rotate_left
                  · intro w hSw; (try dsimp only at hSw); go_simp; (try with_reducible rfl)
                  try simp only [Act.put, List.setIfInBounds_toArray, List.set_cons_zero, List.set_cons_succ]
                  refine wpAnyH_take (i := 1) (oi := { dst := some 75, op := Op.move (Operand.tmp 6), type := 35, pos := _, after := #[], guard := none }) (v := ?_) rfl (by kernel_rfl) (by kernel_rfl) (by kernel_rfl) (fun _ _ _ h => h) (Or.inl ⟨by rfl, ?_⟩) (by assumption) ?_
                  rotate_left
                  · intro w hSw; (try dsimp only at hSw); go_simp; (try with_reducible rfl)
                  try simp only [Act.put, List.setIfInBounds_toArray, List.set_cons_zero, List.set_cons_succ]
                  refine wpAnyH_take (i := 2) (oi := { dst := some 76, op := Op.move (Operand.tmp 9), type := 3, pos := _, after := #[], guard := none }) (v := ?_) rfl (by kernel_rfl) (by kernel_rfl) (by kernel_rfl) (fun _ _ _ h => h) (Or.inl ⟨by rfl, ?_⟩) (by assumption) ?_
                  rotate_left
                  · intro w hSw; (try dsimp only at hSw); go_simp; (try with_reducible rfl)
                  try simp only [Act.put, List.setIfInBounds_toArray, List.set_cons_zero, List.set_cons_succ]
                  refine wpAnyH_take (i := 3) (oi := { dst := some 77, op := Op.indexAddr 35 (Operand.tmp 75) (Operand.tmp 76), type := 0, pos := _, after := #[{ on := 1, ground := Ground.data }, { on := 2, ground := Ground.data }], guard := none }) (v := ?_) rfl (by kernel_rfl) (by kernel_rfl) (by kernel_rfl) (fun _ _ _ h => h) (Or.inl ⟨by rfl, ?_⟩) (by assumption) ?_
                  rotate_left
                  · intro w hSw; (try dsimp only at hSw); go_simp; (try with_reducible rfl)
                  try simp only [Act.put, List.setIfInBounds_toArray, List.set_cons_zero, List.set_cons_succ]
                  refine wpAnyH_take (i := 4) (oi := { dst := some 78, op := Op.load 9 (Operand.tmp 77), type := 9, pos := _, after := #[{ on := 3, ground := Ground.data }], guard := none }) (v := ?_) rfl (by kernel_rfl) (by kernel_rfl) (by kernel_rfl) (fun _ _ _ h => h) (Or.inl ⟨by rfl, ?_⟩) (by assumption) ?_
                  rotate_left
                  · intro w hSw; (try dsimp only at hSw); go_simp; (try with_reducible rfl)
                  try simp only [Act.put, List.setIfInBounds_toArray, List.set_cons_zero, List.set_cons_succ]
                  refine wpAnyH_take (i := 5) (oi := { dst := some 79, op := Op.move (Operand.tmp 4), type := 35, pos := _, after := #[], guard := none }) (v := ?_) rfl (by kernel_rfl) (by kernel_rfl) (by kernel_rfl) (fun _ _ _ h => h) (Or.inl ⟨by rfl, ?_⟩) (by assumption) ?_
                  rotate_left
                  · intro w hSw; (try dsimp only at hSw); go_simp; (try with_reducible rfl)
                  try simp only [Act.put, List.setIfInBounds_toArray, List.set_cons_zero, List.set_cons_succ]
                  refine wpAnyH_take (i := 6) (oi := { dst := some 80, op := Op.move (Operand.tmp 5), type := 3, pos := _, after := #[], guard := none }) (v := ?_) rfl (by kernel_rfl) (by kernel_rfl) (by kernel_rfl) (fun _ _ _ h => h) (Or.inl ⟨by rfl, ?_⟩) (by assumption) ?_
                  rotate_left
                  · intro w hSw; (try dsimp only at hSw); go_simp; (try with_reducible rfl)
                  try simp only [Act.put, List.setIfInBounds_toArray, List.set_cons_zero, List.set_cons_succ]
                  refine wpAnyH_take (i := 7) (oi := { dst := some 81, op := Op.indexAddr 35 (Operand.tmp 79) (Operand.tmp 80), type := 0, pos := _, after := #[{ on := 5, ground := Ground.data }, { on := 6, ground := Ground.data }], guard := none }) (v := ?_) rfl (by kernel_rfl) (by kernel_rfl) (by kernel_rfl) (fun _ _ _ h => h) (Or.inl ⟨by rfl, ?_⟩) (by assumption) ?_
                  rotate_left
                  · intro w hSw; (try dsimp only at hSw); go_simp; (try with_reducible rfl)
                  try simp only [Act.put, List.setIfInBounds_toArray, List.set_cons_zero, List.set_cons_succ]
                  refine wpAnyH_take (i := 8) (oi := { dst := some 82, op := Op.load 9 (Operand.tmp 81), type := 9, pos := _, after := #[{ on := 7, ground := Ground.data }], guard := none }) (v := ?_) rfl (by kernel_rfl) (by kernel_rfl) (by kernel_rfl) (fun _ _ _ h => h) (Or.inl ⟨by rfl, ?_⟩) (by assumption) ?_
                  rotate_left
                  · intro w hSw; (try dsimp only at hSw); go_simp; (try with_reducible rfl)
                  try simp only [Act.put, List.setIfInBounds_toArray, List.set_cons_zero, List.set_cons_succ]
                  refine wpAnyH_ready (rs := [9]) (by kernel_rfl) (by simp) ?_
                  refine AllReadyH.cons (o := { dst := some 83, op := Op.call { callee := Callee.value (Operand.func 11), args := #[Operand.tmp 74, Operand.tmp 78, Operand.tmp 82], argTypes := #[33, 9, 9] }, type := 4, pos := _, after := #[{ on := 0, ground := Ground.data }, { on := 4, ground := Ground.data }, { on := 8, ground := Ground.data }], guard := none }) rfl (fun K hK => ?_) AllReadyH.nil
                  go_simp
                  go_at_call 11
                  (with_reducible refine (HBu.out wr.drew (HO.out.trans' ((Turn.refl [] wr).drew))).mono ?_)
                  rintro e w41 ⟨rfl, t41⟩
                  have HT41 := Lib.hid (((Turn.refl [] wr).drew).trans' t41)
                  clear t41
                  try go_wp2_with fail
                  refine hK.out _ _ ?_ (fun hHeld => ?_)
                  · exact HSS.out _ (HT41.out)
                  clear hK K
                  try simp only [Act.put, List.setIfInBounds_toArray, List.set_cons_zero, List.set_cons_succ]
                  refine wpAnyH_take (i := 10) (oi := { dst := some 84, op := Op.unOp UnOp.not 4 (Operand.tmp 83), type := 4, pos := _, after := #[{ on := 9, ground := Ground.data }], guard := none }) (v := ?_) rfl (by kernel_rfl) (by kernel_rfl) (by kernel_rfl) (fun _ _ _ h => h) (Or.inl ⟨by rfl, ?_⟩) (by assumption) ?_
                  rotate_left
                  · intro w hSw; (try dsimp only at hSw); go_simp; (try with_reducible rfl)
                  try simp only [Act.put, List.setIfInBounds_toArray, List.set_cons_zero, List.set_cons_succ]
                  refine wpAnyH_take (i := 11) (oi := { dst := some 85, op := Op.move (Operand.tmp 84), type := 4, pos := _, after := #[{ on := 10, ground := Ground.data }, { on := 9, ground := Ground.chain }], guard := none }) (v := ?_) rfl (by kernel_rfl) (by kernel_rfl) (by kernel_rfl) (fun _ _ _ h => h) (Or.inl ⟨by rfl, ?_⟩) (by assumption) ?_
                  rotate_left
                  · intro w hSw; (try dsimp only at hSw); go_simp; (try with_reducible rfl)
                  try simp only [Act.put, List.setIfInBounds_toArray, List.set_cons_zero, List.set_cons_succ]
                  refine wpAnyH_take (i := 12) (oi := { dst := some 86, op := Op.move (Operand.tmp 9), type := 3, pos := _, after := #[{ on := 11, ground := Ground.guard }], guard := some (11, false) }) (v := ?_) rfl (by kernel_rfl) (by kernel_rfl) (by kernel_rfl) (fun _ _ _ h => h) (Or.inl ⟨by rfl, ?_⟩) (by assumption) ?_
                  rotate_left
                  · intro w hSw; (try dsimp only at hSw); go_simp; (try with_reducible rfl)
                  try simp only [Act.put, List.setIfInBounds_toArray, List.set_cons_zero, List.set_cons_succ]
                  refine wpAnyH_take (i := 13) (oi := { dst := some 87, op := Op.binOp BinOp.gtr 3 (Operand.tmp 86) (Operand.const (Value.int IntKind.i64 0)) 3, type := 4, pos := _, after := #[{ on := 12, ground := Ground.data }, { on := 11, ground := Ground.guard }], guard := some (11, false) }) (v := ?_) rfl (by kernel_rfl) (by kernel_rfl) (by kernel_rfl) (fun _ _ _ h => h) (Or.inl ⟨by rfl, ?_⟩) (by assumption) ?_
                  rotate_left
                  · intro w hSw; (try dsimp only at hSw); go_simp; (try with_reducible rfl)
                  try simp only [Act.put, List.setIfInBounds_toArray, List.set_cons_zero, List.set_cons_succ]
                  refine wpAnyH_take (i := 14) (oi := { dst := some 88, op := Op.move (Operand.tmp 87), type := 4, pos := _, after := #[{ on := 13, ground := Ground.data }, { on := 11, ground := Ground.chain }, { on := 11, ground := Ground.guard }], guard := some (11, false) }) (v := ?_) rfl (by kernel_rfl) (by kernel_rfl) (by kernel_rfl) (fun _ _ _ h => h) (Or.inl ⟨by rfl, ?_⟩) (by assumption) ?_
                  rotate_left
                  · intro w hSw; (try dsimp only at hSw); go_simp; (try with_reducible rfl)
                  try simp only [Act.put, List.setIfInBounds_toArray, List.set_cons_zero, List.set_cons_succ]
                  refine wpAnyH_take (i := 15) (oi := { dst := some 89, op := Op.move (Operand.tmp 6), type := 35, pos := _, after := #[{ on := 14, ground := Ground.guard }], guard := some (14, true) }) (v := undef) rfl (by kernel_rfl) (by kernel_rfl) (by kernel_rfl) (fun _ _ _ h => h) (Or.inr ⟨by rfl, rfl⟩) (by assumption) ?_
                  try simp only [Act.put, List.setIfInBounds_toArray, List.set_cons_zero, List.set_cons_succ]
                  refine wpAnyH_take (i := 16) (oi := { dst := some 90, op := Op.move (Operand.tmp 9), type := 3, pos := _, after := #[{ on := 14, ground := Ground.guard }], guard := some (14, true) }) (v := undef) rfl (by kernel_rfl) (by kernel_rfl) (by kernel_rfl) (fun _ _ _ h => h) (Or.inr ⟨by rfl, rfl⟩) (by assumption) ?_
                  try simp only [Act.put, List.setIfInBounds_toArray, List.set_cons_zero, List.set_cons_succ]
                  refine wpAnyH_take (i := 17) (oi := { dst := some 91, op := Op.indexAddr 35 (Operand.tmp 89) (Operand.tmp 90), type := 0, pos := _, after := #[{ on := 15, ground := Ground.data }, { on := 16, ground := Ground.data }, { on := 14, ground := Ground.guard }], guard := some (14, true) }) (v := undef) rfl (by kernel_rfl) (by kernel_rfl) (by kernel_rfl) (fun _ _ _ h => h) (Or.inr ⟨by rfl, rfl⟩) (by assumption) ?_
                  try simp only [Act.put, List.setIfInBounds_toArray, List.set_cons_zero, List.set_cons_succ]
                  refine wpAnyH_take (i := 18) (oi := { dst := some 92, op := Op.load 9 (Operand.tmp 91), type := 9, pos := _, after := #[{ on := 17, ground := Ground.data }, { on := 14, ground := Ground.guard }], guard := some (14, true) }) (v := undef) rfl (by kernel_rfl) (by kernel_rfl) (by kernel_rfl) (fun _ _ _ h => h) (Or.inr ⟨by rfl, rfl⟩) (by assumption) ?_
                  try simp only [Act.put, List.setIfInBounds_toArray, List.set_cons_zero, List.set_cons_succ]
                  refine wpAnyH_take (i := 19) (oi := { dst := some 93, op := Op.move (Operand.tmp 6), type := 35, pos := _, after := #[{ on := 14, ground := Ground.guard }], guard := some (14, true) }) (v := undef) rfl (by kernel_rfl) (by kernel_rfl) (by kernel_rfl) (fun _ _ _ h => h) (Or.inr ⟨by rfl, rfl⟩) (by assumption) ?_
                  try simp only [Act.put, List.setIfInBounds_toArray, List.set_cons_zero, List.set_cons_succ]
                  refine wpAnyH_take (i := 20) (oi := { dst := some 94, op := Op.move (Operand.tmp 9), type := 3, pos := _, after := #[{ on := 14, ground := Ground.guard }], guard := some (14, true) }) (v := undef) rfl (by kernel_rfl) (by kernel_rfl) (by kernel_rfl) (fun _ _ _ h => h) (Or.inr ⟨by rfl, rfl⟩) (by assumption) ?_
                  try simp only [Act.put, List.setIfInBounds_toArray, List.set_cons_zero, List.set_cons_succ]
                  refine wpAnyH_take (i := 21) (oi := { dst := some 95, op := Op.binOp BinOp.sub 3 (Operand.tmp 94) (Operand.const (Value.int IntKind.i64 1)) 3, type := 3, pos := _, after := #[{ on := 20, ground := Ground.data }, { on := 14, ground := Ground.guard }], guard := some (14, true) }) (v := undef) rfl (by kernel_rfl) (by kernel_rfl) (by kernel_rfl) (fun _ _ _ h => h) (Or.inr ⟨by rfl, rfl⟩) (by assumption) ?_
                  try simp only [Act.put, List.setIfInBounds_toArray, List.set_cons_zero, List.set_cons_succ]
                  refine wpAnyH_take (i := 22) (oi := { dst := some 96, op := Op.indexAddr 35 (Operand.tmp 93) (Operand.tmp 95), type := 0, pos := _, after := #[{ on := 19, ground := Ground.data }, { on := 21, ground := Ground.data }, { on := 14, ground := Ground.guard }], guard := some (14, true) }) (v := undef) rfl (by kernel_rfl) (by kernel_rfl) (by kernel_rfl) (fun _ _ _ h => h) (Or.inr ⟨by rfl, rfl⟩) (by assumption) ?_
                  try simp only [Act.put, List.setIfInBounds_toArray, List.set_cons_zero, List.set_cons_succ]
                  refine wpAnyH_take (i := 23) (oi := { dst := some 97, op := Op.load 9 (Operand.tmp 96), type := 9, pos := _, after := #[{ on := 22, ground := Ground.data }, { on := 14, ground := Ground.guard }], guard := some (14, true) }) (v := undef) rfl (by kernel_rfl) (by kernel_rfl) (by kernel_rfl) (fun _ _ _ h => h) (Or.inr ⟨by rfl, rfl⟩) (by assumption) ?_
                  try simp only [Act.put, List.setIfInBounds_toArray, List.set_cons_zero, List.set_cons_succ]
                  refine wpAnyH_take (i := 24) (oi := { dst := some 98, op := Op.binOp BinOp.eql 9 (Operand.tmp 92) (Operand.tmp 97) 9, type := 4, pos := _, after := #[{ on := 18, ground := Ground.data }, { on := 23, ground := Ground.data }, { on := 14, ground := Ground.guard }], guard := some (14, true) }) (v := undef) rfl (by kernel_rfl) (by kernel_rfl) (by kernel_rfl) (fun _ _ _ h => h) (Or.inr ⟨by rfl, rfl⟩) (by assumption) ?_
                  try simp only [Act.put, List.setIfInBounds_toArray, List.set_cons_zero, List.set_cons_succ]
                  refine wpAnyH_take (i := 25) (oi := { dst := some 99, op := Op.pick (Operand.tmp 88) (Operand.tmp 98) (Operand.const (Value.bool false)), type := 4, pos := _, after := #[{ on := 14, ground := Ground.data }, { on := 24, ground := Ground.data }, { on := 11, ground := Ground.guard }], guard := some (11, false) }) (v := ?_) rfl (by kernel_rfl) (by kernel_rfl) (by kernel_rfl) (fun _ _ _ h => h) (Or.inl ⟨by rfl, ?_⟩) (by assumption) ?_
                  rotate_left
                  · intro w hSw; (try dsimp only at hSw); go_simp; (try with_reducible rfl)
                  try simp only [Act.put, List.setIfInBounds_toArray, List.set_cons_zero, List.set_cons_succ]
                  refine wpAnyH_take (i := 26) (oi := { dst := some 100, op := Op.pick (Operand.tmp 85) (Operand.const (Value.bool true)) (Operand.tmp 99), type := 4, pos := _, after := #[{ on := 11, ground := Ground.data }, { on := 25, ground := Ground.data }], guard := none }) (v := ?_) rfl (by kernel_rfl) (by kernel_rfl) (by kernel_rfl) (fun _ _ _ h => h) (Or.inl ⟨by rfl, ?_⟩) (by assumption) ?_
                  rotate_left
                  · intro w hSw; (try dsimp only at hSw); go_simp; (try with_reducible rfl)
                  try simp only [Act.put, List.setIfInBounds_toArray, List.set_cons_zero, List.set_cons_succ]
                  refine wpAnyH_done (by kernel_rfl) ?_ _
                  go_wp2_with fail
                  go_roundw
                  case rel => exact ⟨q + 1, by omega, by go_num, Lib.hid (HO6.out.trans' (HT41.out))⟩
                  case measure => simp [intOf]; omega
              · obtain rfl : q = M := by omega
                have d5 : decide ((q : Int) < (q : Int)) = false := by simp
                have c0 := HCi.out wr HO.out
                have HE1 := Lib.hid (HEl.out wr HO.out)
                obtain ⟨ia, hia⟩ : ∃ ia, isAr kd = ia := ⟨_, rfl⟩
                have hc1 := HCU.out
                have hc2 := HCM.out
                rw [hia] at HE1 hc1 hc2
                have HC12 := Lib.hid (And.intro hc1 hc2)
                clear hia HCU HCM HEl hc1 hc2
                go_wp2_with fail
                refine HE1.out.mono ?_
                rintro e w8 ⟨z, rfl, t8⟩
                have HO8 := Lib.hid (HO.out.trans' t8)
                clear t8 HE1 c0
                cases ia with
                | true =>
                  have hq1 : q = 1 := by simpa using HC12.out.1
                  have d6 : ((q : Int) != 1) = false := by simp; omega
                  have d7 : ((q : Int) == 1) = true := by simp; omega
                  have d8 : decide ((q : Int) = 1) = true := by simp; omega
                  clear hq1
                  go_wp2_with fail
                  go_roundw
                  case rel => exact ⟨i + 1, by omega, by go_num, HO8⟩
                  case measure => simp [intOf]; omega
                | false =>
                  have hq1 : (cn : Int) = (q : Int) := HC12.out.2 rfl
                  rw [hq1]
                  clear hq1
                  go_wp2_with fail
                  go_roundw
                  case rel => exact ⟨i + 1, by omega, by go_num, HO8⟩
                  case measure => simp [intOf]; omega
      · obtain rfl : i = N := by omega
        have d1 : decide ((i : Int) < (i : Int)) = false := by simp
        go_wp2_with fail
        go_ret
        exact ⟨rfl, (HT0.out.trans' HTb.out).trans' HO.out⟩
end Go.Proofs.YtbocejiclellfaaDoor
