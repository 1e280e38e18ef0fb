/- SubTells: the law. -/
import Derived.Test.YtbocejiclellfaaGreatDoorQ12Rel

set_option linter.unusedSimpArgs false
set_option linter.unusedVariables false
set_option maxRecDepth 100000
namespace Go.Proofs.YtbocejiclellfaaGreatDoor
open Go.RowKit

attribute [local go_sem] eq_ptrT
theorem txs_two (W : World) (T : TypeId) (s u : ByteArray) : Txs (W.alloc (.cells #[.string s, .string u] T)) (some ⟨W.heap.size, 0, none⟩) [s, u] := fun k z hz => by
  have h := heap_alloc_new W (.cells #[.string s, .string u] T)
  refine ⟨_, 0, rfl, by simp, ?_⟩
  rw [cell_of_row _ W.heap.size _ _ _ _ h]
  match k, hz with
  | 0, hz => simp at hz; subst hz; simp
  | 1, hz => simp at hz; subst hz; simp
  | k + 2, hz => simp at hz
theorem undL_len {l : List K8} (t : ByteArray) : (undL l t).length ≤ 1 + l.length := by
  unfold undL
  split
  · simp
  · split
    · rename_i j _
      have := lstC_len l j l.length
      omega
    · simp
set_option maxHeartbeats 25600000 in
theorem subtells_law (A : Option Addr) (c B : Nat) (l : List K8) (m0 m1 m2 m3 m4 m5 m6 m7 m8 : Value) (t u : ByteArray) (w : World) (hr : RdKs B w A l) (hB : B ≤ w.heap.size) (hnm : NmOk l) (hT : Tab w) :
    Calls Tryz.prog 3 #[.agg #[.slice A l.length c, m0, m1, m2, m3, m4, m5, m6, m7, m8], .string t, .string u] w fun e w' => e = .returned (.bool true) ∧ Turn [] w w' := by
  obtain ⟨n, hn⟩ : ∃ n, l.length = n := ⟨_, rfl⟩
  obtain ⟨r, hrr⟩ : ∃ r, w.heap.size = r := ⟨_, rfl⟩
  obtain ⟨W0, hW0⟩ : ∃ W, w.alloc (.cells #[.slice A n c, m0, m1, m2, m3, m4, m5, m6, m7, m8] 30) = W := ⟨_, rfl⟩
  have t0 : Turn [] w W0 := by rw [← hW0]; exact (Turn.refl [] w).alloc _
  have b0 : W0.heap[r]? = some (.cells #[.slice A n c, m0, m1, m2, m3, m4, m5, m6, m7, m8] 30 (0, 0)) := by rw [← hW0, ← hrr]; exact heap_alloc_new w _
  have HAw : Hid (∀ W, Turn [] W0 W → Calls Tryz.prog 4 #[] W fun e w' => e = .returned (.bool true) ∧ Turn [] W w') := Lib.hid fun W t => awake9_any W ((hT.turn' t0).turn' t)
  have HRi : Hid (∀ W, Turn [] W0 W → Calls Tryz.prog 5 #[.agg #[.slice A n c, m0, m1, m2, m3, m4, m5, m6, m7, m8]] W fun e w' => ∃ b, e = .returned (.bool b) ∧ (b = true → smallB l = true ∧ Rgt l ∧ PlainL l) ∧ Turn [] W w') := Lib.hid fun W t => by
    rw [← hn]
    exact right9_any A c B l m0 m1 m2 m3 m4 m5 m6 m7 m8 W ((hr.turn t0 (by simp)).turn t (by simp)) hnm
  have HMd : Hid (Rgt l → ∀ W, Turn [] W0 W → Calls Tryz.prog 6 #[.agg #[.slice A n c, m0, m1, m2, m3, m4, m5, m6, m7, m8]] W fun e w' => ∃ r t m sz V x VO, e = .returned (.pointer (some ⟨x, 0, none⟩)) ∧ Ty A B l r t m sz V x VO w' ∧ Turn [] W w') := Lib.hid fun g W t => by
    rw [← hn]
    exact made_any A c B l m0 m1 m2 m3 m4 m5 m6 m7 m8 g W ((hr.turn t0 (by simp)).turn t (by simp)) (by have := t0.size; have := t.size; omega) ((hT.turn' t0).turn' t)
  have HRD0 := Lib.hid (hr.turn t0 (by simp))
  have hcl : ∀ W, Turn [] W0 W → ∀ (i : Nat) (v : Value), (#[Value.slice A n c, m0, m1, m2, m3, m4, m5, m6, m7, m8] : Array Value)[i]? = some v → W.cell? ⟨r, i, none⟩ = some v := fun W t i v hv => (cell_of_row W r i _ _ _ (t.heap b0 (by simp))).trans hv
  have HCL := Lib.hid hcl
  have HT0 := Lib.hid t0
  have HW0 := Lib.hid hW0
  have HRR := Lib.hid hrr
  have HN := Lib.hid hn
  have HNM := Lib.hid hnm
  have HA0 := Lib.hid (HAw.out W0 (Turn.refl _ _))
  rw [hn]
  clear hr hB hnm hT hn hrr hW0 t0 b0 hcl
  obtain ⟨zt, hzt⟩ : ∃ z, t.size = z := ⟨_, rfl⟩
  obtain ⟨zu, hzu⟩ : ∃ z, u.size = z := ⟨_, rfl⟩
  have HZZ := Lib.hid (And.intro hzt hzu)
  go_enter Tryz.func3, Tryz.ntmps3
  go_wp2_with fail
  rw [HRR.out, HW0.out]
  refine HA0.out.mono ?_
  rintro e w1 ⟨rfl, t1⟩
  have HT1 := Lib.hid t1
  have HR1 := Lib.hid (HRi.out w1 t1)
  have g0 := HCL.out w1 (t1) 0 _ rfl
  have g1 := HCL.out w1 (t1) 1 _ rfl
  have g2 := HCL.out w1 (t1) 2 _ rfl
  have g3 := HCL.out w1 (t1) 3 _ rfl
  have g4 := HCL.out w1 (t1) 4 _ rfl
  have g5 := HCL.out w1 (t1) 5 _ rfl
  have g6 := HCL.out w1 (t1) 6 _ rfl
  have g7 := HCL.out w1 (t1) 7 _ rfl
  have g8 := HCL.out w1 (t1) 8 _ rfl
  have g9 := HCL.out w1 (t1) 9 _ rfl
  clear t1 HA0
  go_wp2_with fail
  refine HR1.out.mono ?_
  rintro e w2 ⟨rt, rfl, hrt, t2⟩
  have HT2 := Lib.hid (HT1.out.trans' t2)
  have HRT := Lib.hid hrt
  have HA2 := Lib.hid (HAw.out w2 HT2.out)
  clear t2 HR1 hrt g0 g1 g2 g3 g4 g5 g6 g7 g8 g9
  cases rt with
  | false =>
    go_wp2_with fail
    refine HA2.out.mono ?_
    rintro e w3 ⟨rfl, t3⟩
    have HT3 := Lib.hid t3
    clear t3
    go_wp2_with fail
    go_ret
    exact ⟨rfl, (HT0.out.trans' HT2.out).trans' HT3.out⟩
  | true =>
    by_cases h1 : 60 < zt
    · have d1 : decide ((zt : Int) > 60) = true := by simp; omega
      have d2 : decide (60 < zt) = true := by simp; omega
      have d3 : decide ((60 : Int) < (zt : Int)) = true := by simp; omega
      go_wp2_with fail
      refine HA2.out.mono ?_
      rintro e w3 ⟨rfl, t3⟩
      have HT3 := Lib.hid t3
      clear t3
      go_wp2_with fail
      go_ret
      exact ⟨rfl, (HT0.out.trans' HT2.out).trans' HT3.out⟩
    · have d1 : decide ((zt : Int) > 60) = false := by simp; omega
      have d2 : decide (60 < zt) = false := by simp; omega
      have d3 : decide ((60 : Int) < (zt : Int)) = false := by simp; omega
      by_cases h2 : 60 < zu
      · have d4 : decide ((zu : Int) > 60) = true := by simp; omega
        have d5 : decide (60 < zu) = true := by simp; omega
        have d6 : decide ((60 : Int) < (zu : Int)) = true := by simp; omega
        go_wp2_with fail
        refine HA2.out.mono ?_
        rintro e w3 ⟨rfl, t3⟩
        have HT3 := Lib.hid t3
        clear t3
        go_wp2_with fail
        go_ret
        exact ⟨rfl, (HT0.out.trans' HT2.out).trans' HT3.out⟩
      · have d4 : decide ((zu : Int) > 60) = false := by simp; omega
        have d5 : decide (60 < zu) = false := by simp; omega
        have d6 : decide ((60 : Int) < (zu : Int)) = false := by simp; omega
        obtain ⟨hsm, hg, hp⟩ := HRT.out rfl
        have HG := Lib.hid hg
        have HPl := Lib.hid hp
        have HM2 := Lib.hid (HMd.out hg w2 HT2.out)
        have hts : t.size ≤ 562949953421312 := by omega
        have hus : u.size ≤ 562949953421312 := by omega
        have g0 := HCL.out w2 (HT2.out) 0 _ rfl
        have g1 := HCL.out w2 (HT2.out) 1 _ rfl
        have g2 := HCL.out w2 (HT2.out) 2 _ rfl
        have g3 := HCL.out w2 (HT2.out) 3 _ rfl
        have g4 := HCL.out w2 (HT2.out) 4 _ rfl
        have g5 := HCL.out w2 (HT2.out) 5 _ rfl
        have g6 := HCL.out w2 (HT2.out) 6 _ rfl
        have g7 := HCL.out w2 (HT2.out) 7 _ rfl
        have g8 := HCL.out w2 (HT2.out) 8 _ rfl
        have g9 := HCL.out w2 (HT2.out) 9 _ rfl
        clear hsm hg hp HA2
        go_wp2_with fail
        refine HM2.out.mono ?_
        rintro e w3 ⟨r', tt, m, sz, V, x, VO, rfl, hTy, t3⟩
        have HTy : Hid (∀ W, Turn [] w3 W → Ty A B l r' tt m sz V x VO W) := Lib.hid fun W k => hTy.turn k
        have HT3 := Lib.hid (HT2.out.trans' t3)
        have HRD : Hid (∀ W, Turn [] W0 W → RdKs B W A l) := Lib.hid fun W k => HRD0.out.turn k (by simp)
        have C1 := Lib.hid (tElem_any w3 (hTy) t hts)
        have C2 : Hid (∀ W, Turn [] w3 W → Calls Tryz.prog 8 #[.pointer (some ⟨x, 0, none⟩), .string t] W fun e w' => e = .returned (.tuple #[.int .i64 (((fstF l l.length t).getD 0 : Nat) : Int), .bool (fstF l l.length t).isSome]) ∧ Turn [] W w') := Lib.hid fun W k => by
          have := tClass_any W (HTy.out W k) t hts
          rw [cl_fst HPl.out] at this
          exact this
        have C3 : Hid (∀ W, Turn [] W0 W → Calls Tryz.prog 9 #[.agg #[.slice A n c, m0, m1, m2, m3, m4, m5, m6, m7, m8], .string t] W fun e w' => e = .returned (.int .i64 (fndI l t)) ∧ Turn [] W w') := Lib.hid fun W k => by
          rw [← HN.out]
          exact rfind_any A c B l m0 m1 m2 m3 m4 m5 m6 m7 m8 t W (HRD.out W k) HG.out.kok.len
        have C4 : Hid (∀ W, Turn [] W0 W → Calls Tryz.prog 10 #[.agg #[.slice A n c, m0, m1, m2, m3, m4, m5, m6, m7, m8], .string t] W fun e w' => e = .returned (.string (elT l t)) ∧ Turn [] W w') := Lib.hid fun W k => by
          rw [← HN.out]
          exact rElem_any A c B l m0 m1 m2 m3 m4 m5 m6 m7 m8 HPl.out t W (HRD.out W k) HG.out.kok.len hts
        have hel : (elT l t).toList.isEmpty = !(elI l t).isSome := by rw [emp_list, elT_iff HPl.out]
        obtain ⟨et, het⟩ : ∃ et, elT l t = et := ⟨_, rfl⟩
        obtain ⟨ge, hge⟩ : ∃ g, (elI l t).isSome = g := ⟨_, rfl⟩
        obtain ⟨hy1, hy2, hy3⟩ := fnd_index l t
        obtain ⟨y, hy⟩ : ∃ y, (fstF l l.length t).getD 0 = y := ⟨_, rfl⟩
        obtain ⟨f, hf⟩ : ∃ f, (fstF l l.length t).isSome = f := ⟨_, rfl⟩
        obtain ⟨xf, hxf⟩ : ∃ x, fndI l t = x := ⟨_, rfl⟩
        rw [het, hge] at C1 hel
        rw [het] at C4
        rw [hy, hf] at C2
        rw [hxf] at C3
        rw [hf, hxf] at hy1
        rw [hy, hxf] at hy2 hy3
        have HY := Lib.hid (And.intro hy1 (And.intro hy2 hy3))
        have HEL := Lib.hid hel
        have etx := tx_same et
        clear t3 hTy HM2 g0 g1 g2 g3 g4 g5 g6 g7 g8 g9 hel het hge hy1 hy2 hy3 hy hf hxf
        go_wp2_with fail
        refine C1.out.mono ?_
        rintro e w4 ⟨rfl, t4⟩
        have HT4 := Lib.hid t4
        have C24 := Lib.hid (C2.out w4 t4)
        clear t4 C1 C2
        go_wp2_with fail
        refine C24.out.mono ?_
        rintro e w5 ⟨rfl, t5⟩
        have HT5 := Lib.hid (HT4.out.trans' t5)
        have C35 := Lib.hid (C3.out w5 (HT3.out.trans' (HT4.out.trans' t5)))
        have g0 := HCL.out w5 (HT3.out.trans' HT5.out) 0 _ rfl
        have g1 := HCL.out w5 (HT3.out.trans' HT5.out) 1 _ rfl
        have g2 := HCL.out w5 (HT3.out.trans' HT5.out) 2 _ rfl
        have g3 := HCL.out w5 (HT3.out.trans' HT5.out) 3 _ rfl
        have g4 := HCL.out w5 (HT3.out.trans' HT5.out) 4 _ rfl
        have g5 := HCL.out w5 (HT3.out.trans' HT5.out) 5 _ rfl
        have g6 := HCL.out w5 (HT3.out.trans' HT5.out) 6 _ rfl
        have g7 := HCL.out w5 (HT3.out.trans' HT5.out) 7 _ rfl
        have g8 := HCL.out w5 (HT3.out.trans' HT5.out) 8 _ rfl
        have g9 := HCL.out w5 (HT3.out.trans' HT5.out) 9 _ rfl
        clear t5 C24 C3
        go_wp2_with fail
        refine C35.out.mono ?_
        rintro e w6 ⟨rfl, t6⟩
        have HT6 := Lib.hid (HT5.out.trans' t6)
        have C46 := Lib.hid (C4.out w6 (HT3.out.trans' (HT5.out.trans' t6)))
        clear t6 C35 C4 g0 g1 g2 g3 g4 g5 g6 g7 g8 g9
        go_upto_region 9 with fail
        go_cut [82] (fun v82 w' => v82 = .bool false ∧ Hid (Turn [] w3 w'))
        case first =>
          have g0 := HCL.out w6 (HT3.out.trans' HT6.out) 0 _ rfl
          have g1 := HCL.out w6 (HT3.out.trans' HT6.out) 1 _ rfl
          have g2 := HCL.out w6 (HT3.out.trans' HT6.out) 2 _ rfl
          have g3 := HCL.out w6 (HT3.out.trans' HT6.out) 3 _ rfl
          have g4 := HCL.out w6 (HT3.out.trans' HT6.out) 4 _ rfl
          have g5 := HCL.out w6 (HT3.out.trans' HT6.out) 5 _ rfl
          have g6 := HCL.out w6 (HT3.out.trans' HT6.out) 6 _ rfl
          have g7 := HCL.out w6 (HT3.out.trans' HT6.out) 7 _ rfl
          have g8 := HCL.out w6 (HT3.out.trans' HT6.out) 8 _ rfl
          have g9 := HCL.out w6 (HT3.out.trans' HT6.out) 9 _ rfl
          go_wp2_with fail
          refine C46.out.mono ?_
          rintro e w7 ⟨rfl, t7⟩
          have HT7 := Lib.hid (HT6.out.trans' t7)
          clear t7 C46 g0 g1 g2 g3 g4 g5 g6 g7 g8 g9
          cases f with
          | false =>
            have hx0 : decide (0 ≤ xf) = false := HY.out.1.symm
            have hx1 : decide (xf ≥ 0) = false := hx0
            have hy0 : y = 0 := HY.out.2.2 (by simpa using hx0)
            subst hy0
            cases ge with
            | false =>
              have he : et.toList.isEmpty = true := HEL.out
              go_wp2_with fail
              go_meet
              exact ⟨rfl, Lib.hid HT7.out⟩
            | true =>
              have he : et.toList.isEmpty = false := HEL.out
              go_wp2_with fail
              go_meet
              exact ⟨rfl, Lib.hid HT7.out⟩
          | true =>
            have hx0 : decide (0 ≤ xf) = true := HY.out.1.symm
            have hxy : (y : Int) = xf := HY.out.2.1 (by simpa using hx0)
            subst hxy
            have hx1 : decide ((y : Int) ≥ 0) = true := hx0
            cases ge with
            | false =>
              have he : et.toList.isEmpty = true := HEL.out
              go_wp2_with fail
              go_meet
              exact ⟨rfl, Lib.hid HT7.out⟩
            | true =>
              have he : et.toList.isEmpty = false := HEL.out
              go_wp2_with fail
              go_meet
              exact ⟨rfl, Lib.hid HT7.out⟩
        case rest =>
          obtain ⟨rfl, HC⟩ := hcut
          rename World => Wb
          have HTb := Lib.hid (HT3.out.trans' HC.out)
          have HTyb : Hid (∀ W, Turn [] Wb W → Ty A B l r' tt m sz V x VO W) := Lib.hid fun W k => HTy.out W (HC.out.trans' k)
          have HRb : Hid (∀ W, Turn [] Wb W → RdKs B W A l) := Lib.hid fun W k => HRD.out W (HTb.out.trans' k)
          have hl := HG.out.kok.len
          obtain ⟨a, ha⟩ : ∃ a, tyB l t = a := ⟨_, rfl⟩
          obtain ⟨b, hb⟩ : ∃ b, tyB l u = b := ⟨_, rfl⟩
          obtain ⟨rf, hrf⟩ : ∃ rf, refB l t = rf := ⟨_, rfl⟩
          obtain ⟨bl, hbl⟩ : ∃ bl, belB l t u = bl := ⟨_, rfl⟩
          have CI1 : Hid (∀ W, Turn [] Wb W → ∀ (P : Option Addr) (c : Nat), Txs W P [t] → Calls Tryz.prog 11 #[.pointer (some ⟨x, 0, none⟩), .slice P 1 c] W fun e w' => e = .returned (.bool a) ∧ Turn [] W w') := Lib.hid fun W k P c hP => by
            have := tIs_any W (HTyb.out W k) P 1 c [t] hP rfl (by omega) (fun s hs => by simp at hs; rw [hs]; exact hts)
            simp only [List.all_cons, List.all_nil, Bool.and_true, ha] at this
            exact this
          have CI2 : Hid (∀ W, Turn [] Wb W → ∀ (P : Option Addr) (c : Nat), Txs W P [t, u] → Calls Tryz.prog 11 #[.pointer (some ⟨x, 0, none⟩), .slice P 2 c] W fun e w' => e = .returned (.bool (a && b)) ∧ Turn [] W w') := Lib.hid fun W k P c hP => by
            have := tIs_any W (HTyb.out W k) P 2 c [t, u] hP rfl (by omega) (fun s hs => by simp at hs; rcases hs with hs | hs <;> (rw [hs]; assumption))
            simp only [List.all_cons, List.all_nil, Bool.and_true, ha, hb] at this
            exact this
          have CRt : Hid (∀ W, Turn [] Wb W → Calls Tryz.prog 12 #[.agg #[.slice A n c, m0, m1, m2, m3, m4, m5, m6, m7, m8], .string t] W fun e w' => e = .returned (.bool a) ∧ Turn [] W w') := Lib.hid fun W k => by
            rw [← HN.out, ← ha]
            exact rIs_any A c B l m0 m1 m2 m3 m4 m5 m6 m7 m8 HPl.out t W (HRb.out W k) hl hts
          have CRu : Hid (∀ W, Turn [] Wb W → Calls Tryz.prog 12 #[.agg #[.slice A n c, m0, m1, m2, m3, m4, m5, m6, m7, m8], .string u] W fun e w' => e = .returned (.bool b) ∧ Turn [] W w') := Lib.hid fun W k => by
            rw [← HN.out, ← hb]
            exact rIs_any A c B l m0 m1 m2 m3 m4 m5 m6 m7 m8 HPl.out u W (HRb.out W k) hl hus
          have CFt : Hid (∀ W, Turn [] Wb W → Calls Tryz.prog 13 #[.pointer (some ⟨x, 0, none⟩), .string t] W fun e w' => e = .returned (.bool rf) ∧ Turn [] W w') := Lib.hid fun W k => by rw [← hrf]; exact tRef_any W (HTyb.out W k) t hts
          have CRf : Hid (∀ W, Turn [] Wb W → Calls Tryz.prog 14 #[.agg #[.slice A n c, m0, m1, m2, m3, m4, m5, m6, m7, m8], .string t] W fun e w' => e = .returned (.bool rf) ∧ Turn [] W w') := Lib.hid fun W k => by
            rw [← HN.out, ← hrf]
            exact rRef_any A c B l m0 m1 m2 m3 m4 m5 m6 m7 m8 HPl.out t W (HRb.out W k) hl hts
          have CBl : Hid (∀ W, Turn [] Wb W → Calls Tryz.prog 15 #[.pointer (some ⟨x, 0, none⟩), .string t, .string u] W fun e w' => e = .returned (.bool bl) ∧ Turn [] W w') := Lib.hid fun W k => by rw [← hbl]; exact tBelow_any HG.out.kok W (HTyb.out W k) t u hts hus
          have CRb : Hid (∀ W, Turn [] Wb W → Calls Tryz.prog 16 #[.agg #[.slice A n c, m0, m1, m2, m3, m4, m5, m6, m7, m8], .string t, .string u] W fun e w' => e = .returned (.bool bl) ∧ Turn [] W w') := Lib.hid fun W k => by
            rw [← HN.out, ← hbl]
            exact rBelow_any A c B l m0 m1 m2 m3 m4 m5 m6 m7 m8 HG.out HPl.out t u W (HRb.out W k) hts hus
          have CUn : Hid (∀ W, Turn [] Wb W → Calls Tryz.prog 18 #[.pointer (some ⟨x, 0, none⟩), .string t] W fun e w' => ∃ U, e = .returned U ∧ OwnS w' U (undL l t) ∧ Turn [] W w') := Lib.hid fun W k => tUnder_any HG.out HPl.out (fun x hx => (HNM.out x hx).1) W (HTyb.out W k) t hts
          have CRn : Hid (∀ W, Turn [] Wb W → Calls Tryz.prog 19 #[.agg #[.slice A n c, m0, m1, m2, m3, m4, m5, m6, m7, m8], .string t] W fun e w' => ∃ U, e = .returned U ∧ OwnS w' U (undL l t) ∧ Turn [] W w') := Lib.hid fun W k => by
            rw [← HN.out]
            exact rUnder_any A c B l m0 m1 m2 m3 m4 m5 m6 m7 m8 HG.out HPl.out (fun x hx => (HNM.out x hx).1) t W (HRb.out W k) hts
          have HUL : Hid ((undL l t).length ≤ 1000000) := Lib.hid (by have := undL_len (l := l) t; omega)
          have HSS : Hid (∀ w', Turn [] Wb w' → (w'.cell? ⟨r, 0, none⟩ = some (.slice A n c) ∧ w'.cell? ⟨r, 1, none⟩ = some m0 ∧ w'.cell? ⟨r, 2, none⟩ = some m1 ∧ w'.cell? ⟨r, 3, none⟩ = some m2 ∧ w'.cell? ⟨r, 4, none⟩ = some m3 ∧ w'.cell? ⟨r, 5, none⟩ = some m4 ∧ w'.cell? ⟨r, 6, none⟩ = some m5 ∧ w'.cell? ⟨r, 7, none⟩ = some m6 ∧ w'.cell? ⟨r, 8, none⟩ = some m7 ∧ w'.cell? ⟨r, 9, none⟩ = some m8)) := Lib.hid fun W' u => ⟨HCL.out W' (HTb.out.trans' u) 0 _ rfl, HCL.out W' (HTb.out.trans' u) 1 _ rfl, HCL.out W' (HTb.out.trans' u) 2 _ rfl, HCL.out W' (HTb.out.trans' u) 3 _ rfl, HCL.out W' (HTb.out.trans' u) 4 _ rfl, HCL.out W' (HTb.out.trans' u) 5 _ rfl, HCL.out W' (HTb.out.trans' u) 6 _ rfl, HCL.out W' (HTb.out.trans' u) 7 _ rfl, HCL.out W' (HTb.out.trans' u) 8 _ rfl, HCL.out W' (HTb.out.trans' u) 9 _ rfl⟩
          clear ha hb hrf hbl hl hts hus
          go_upto_region 11 with fail
          cases a with
          | false =>
          refine wp_region_held_drew (S := fun w' => w'.cell? ⟨r, 0, none⟩ = some (.slice A n c) ∧ w'.cell? ⟨r, 1, none⟩ = some m0 ∧ w'.cell? ⟨r, 2, none⟩ = some m1 ∧ w'.cell? ⟨r, 3, none⟩ = some m2 ∧ w'.cell? ⟨r, 4, none⟩ = some m3 ∧ w'.cell? ⟨r, 5, none⟩ = some m4 ∧ w'.cell? ⟨r, 6, none⟩ = some m5 ∧ w'.cell? ⟨r, 7, none⟩ = some m6 ∧ w'.cell? ⟨r, 8, none⟩ = some m7 ∧ w'.cell? ⟨r, 9, none⟩ = some m8) (by kernel_rfl) ?_ (fun hHeld => ?_)
          · exact HSS.out _ (Turn.refl [] Wb).drew
          refine wpAnyH_take (i := 0) (oi := { dst := some 83, op := Op.move (Operand.tmp 7), type := 33, pos := _, after := #[], guard := none }) (v := ?_) rfl (by kernel_rfl) (by kernel_rfl) (by kernel_rfl) (fun _ _ _ h => h) (Or.inl ⟨by rfl, ?_⟩) (by assumption) ?_
          rotate_left
          · intro w hSw; (try dsimp only at hSw); go_simp; (try with_reducible rfl)
          try simp only [Act.put, List.setIfInBounds_toArray, List.set_cons_zero, List.set_cons_succ]
          refine wpAnyH_take (i := 1) (oi := { dst := some 84, op := Op.move (Operand.tmp 1), type := 9, pos := _, after := #[], guard := none }) (v := ?_) rfl (by kernel_rfl) (by kernel_rfl) (by kernel_rfl) (fun _ _ _ h => h) (Or.inl ⟨by rfl, ?_⟩) (by assumption) ?_
          rotate_left
          · intro w hSw; (try dsimp only at hSw); go_simp; (try with_reducible rfl)
          try simp only [Act.put, List.setIfInBounds_toArray, List.set_cons_zero, List.set_cons_succ]
          refine wpAnyH_take (i := 4) (oi := { dst := some 87, op := Op.load 30 (Operand.tmp 3), type := 30, pos := _, after := #[], guard := none }) (v := ?_) rfl (by kernel_rfl) (by kernel_rfl) (by kernel_rfl) (fun _ _ _ h => h) (Or.inl ⟨by rfl, ?_⟩) (by assumption) ?_
          rotate_left
          · intro w hSw; (try dsimp only at hSw); go_simp; (try with_reducible rfl)
          try simp only [Act.put, List.setIfInBounds_toArray, List.set_cons_zero, List.set_cons_succ]
          refine wpAnyH_take (i := 5) (oi := { dst := some 88, op := Op.move (Operand.tmp 1), type := 9, pos := _, after := #[], guard := none }) (v := ?_) rfl (by kernel_rfl) (by kernel_rfl) (by kernel_rfl) (fun _ _ _ h => h) (Or.inl ⟨by rfl, ?_⟩) (by assumption) ?_
          rotate_left
          · intro w hSw; (try dsimp only at hSw); go_simp; (try with_reducible rfl)
          try simp only [Act.put, List.setIfInBounds_toArray, List.set_cons_zero, List.set_cons_succ]
          refine wpAnyH_ready (rs := [2]) (by kernel_rfl) (by simp) ?_
          refine AllReadyH.cons (o := { dst := some 85, op := Op.buildSlice 47 1 #[(0, Operand.tmp 84)], type := 47, pos := _, after := #[{ on := 1, ground := Ground.data }], guard := none }) rfl (fun K hK => ?_) AllReadyH.nil
          go_simp
          have HT21 : Hid (Turn [] Wb ((Wb.alloc (.cells #[.string t] 9)).drew)) := Lib.hid ((Turn.refl [] Wb).alloc _).drew
          have HX21 : Hid (Txs ((Wb.alloc (.cells #[.string t] 9)).drew) (some ⟨Wb.heap.size, 0, none⟩) [t]) := Lib.hid ((txs_one Wb 9 t).turn (Turn.refl [] _).drew)
          refine hK.out _ _ ?_ (fun hHeld => ?_)
          · exact HSS.out _ (HT21.out)
          clear hK K
          try simp only [Act.put, List.setIfInBounds_toArray, List.set_cons_zero, List.set_cons_succ]
          refine wpAnyH_ready (rs := [3]) (by kernel_rfl) (by simp) ?_
          refine AllReadyH.cons (o := { dst := some 86, op := Op.call { callee := Callee.value (Operand.func 11), args := #[Operand.tmp 83, Operand.tmp 85], argTypes := #[33, 47] }, type := 4, pos := _, after := #[{ on := 0, ground := Ground.data }, { on := 2, ground := Ground.data }], guard := none }) rfl (fun K hK => ?_) AllReadyH.nil
          go_simp
          go_at_call 11
          (with_reducible refine (CI1.out ((Wb.alloc (.cells #[.string t] 9)).drew) (HT21.out) _ 1 HX21.out).mono ?_)
          rintro e w22 ⟨rfl, t22⟩
          have HT22 := Lib.hid ((HT21.out).trans' t22)
          clear t22
          try go_wp2_with fail
          refine hK.out _ _ ?_ (fun hHeld => ?_)
          · exact HSS.out _ (HT22.out)
          clear hK K
          try simp only [Act.put, List.setIfInBounds_toArray, List.set_cons_zero, List.set_cons_succ]
          refine wpAnyH_ready (rs := [6]) (by kernel_rfl) (by simp) ?_
          refine AllReadyH.cons (o := { dst := some 89, op := Op.call { callee := Callee.value (Operand.func 12), args := #[Operand.tmp 87, Operand.tmp 88], argTypes := #[30, 9] }, type := 4, pos := _, after := #[{ on := 4, ground := Ground.data }, { on := 5, ground := Ground.data }, { on := 3, ground := Ground.chain }], guard := none }) rfl (fun K hK => ?_) AllReadyH.nil
          go_simp
          go_at_call 12
          (with_reducible refine (CRt.out w22 (HT22.out)).mono ?_)
          rintro e w23 ⟨rfl, t23⟩
          have HT23 := Lib.hid ((HT22.out).trans' t23)
          clear t23
          try go_wp2_with fail
          refine hK.out _ _ ?_ (fun hHeld => ?_)
          · exact HSS.out _ (HT23.out)
          clear hK K
          try simp only [Act.put, List.setIfInBounds_toArray, List.set_cons_zero, List.set_cons_succ]
          refine wpAnyH_take (i := 7) (oi := { dst := some 90, op := Op.binOp BinOp.eql 4 (Operand.tmp 86) (Operand.tmp 89) 4, type := 4, pos := _, after := #[{ on := 3, ground := Ground.data }, { on := 6, ground := Ground.data }], guard := none }) (v := ?_) rfl (by kernel_rfl) (by kernel_rfl) (by kernel_rfl) (fun _ _ _ h => h) (Or.inl ⟨by rfl, ?_⟩) (by assumption) ?_
          rotate_left
          · intro w hSw; (try dsimp only at hSw); go_simp; (try with_reducible rfl)
          try simp only [Act.put, List.setIfInBounds_toArray, List.set_cons_zero, List.set_cons_succ]
          refine wpAnyH_take (i := 8) (oi := { dst := some 91, op := Op.move (Operand.tmp 90), type := 4, pos := _, after := #[{ on := 7, ground := Ground.data }, { on := 6, ground := Ground.chain }], guard := none }) (v := ?_) rfl (by kernel_rfl) (by kernel_rfl) (by kernel_rfl) (fun _ _ _ h => h) (Or.inl ⟨by rfl, ?_⟩) (by assumption) ?_
          rotate_left
          · intro w hSw; (try dsimp only at hSw); go_simp; (try with_reducible rfl)
          try simp only [Act.put, List.setIfInBounds_toArray, List.set_cons_zero, List.set_cons_succ]
          refine wpAnyH_take (i := 9) (oi := { dst := some 92, op := Op.move (Operand.tmp 7), type := 33, pos := _, after := #[{ on := 8, ground := Ground.guard }], guard := some (8, true) }) (v := ?_) rfl (by kernel_rfl) (by kernel_rfl) (by kernel_rfl) (fun _ _ _ h => h) (Or.inl ⟨by rfl, ?_⟩) (by assumption) ?_
          rotate_left
          · intro w hSw; (try dsimp only at hSw); go_simp; (try with_reducible rfl)
          try simp only [Act.put, List.setIfInBounds_toArray, List.set_cons_zero, List.set_cons_succ]
          refine wpAnyH_take (i := 10) (oi := { dst := some 93, op := Op.move (Operand.tmp 1), type := 9, pos := _, after := #[{ on := 8, ground := Ground.guard }], guard := some (8, true) }) (v := ?_) rfl (by kernel_rfl) (by kernel_rfl) (by kernel_rfl) (fun _ _ _ h => h) (Or.inl ⟨by rfl, ?_⟩) (by assumption) ?_
          rotate_left
          · intro w hSw; (try dsimp only at hSw); go_simp; (try with_reducible rfl)
          try simp only [Act.put, List.setIfInBounds_toArray, List.set_cons_zero, List.set_cons_succ]
          refine wpAnyH_take (i := 11) (oi := { dst := some 94, op := Op.move (Operand.tmp 2), type := 9, pos := _, after := #[{ on := 8, ground := Ground.guard }], guard := some (8, true) }) (v := ?_) rfl (by kernel_rfl) (by kernel_rfl) (by kernel_rfl) (fun _ _ _ h => h) (Or.inl ⟨by rfl, ?_⟩) (by assumption) ?_
          rotate_left
          · intro w hSw; (try dsimp only at hSw); go_simp; (try with_reducible rfl)
          try simp only [Act.put, List.setIfInBounds_toArray, List.set_cons_zero, List.set_cons_succ]
          refine wpAnyH_take (i := 14) (oi := { dst := some 97, op := Op.load 30 (Operand.tmp 3), type := 30, pos := _, after := #[{ on := 8, ground := Ground.guard }], guard := some (8, true) }) (v := ?_) rfl (by kernel_rfl) (by kernel_rfl) (by kernel_rfl) (fun _ _ _ h => h) (Or.inl ⟨by rfl, ?_⟩) (by assumption) ?_
          rotate_left
          · intro w hSw; (try dsimp only at hSw); go_simp; (try with_reducible rfl)
          try simp only [Act.put, List.setIfInBounds_toArray, List.set_cons_zero, List.set_cons_succ]
          refine wpAnyH_take (i := 15) (oi := { dst := some 98, op := Op.move (Operand.tmp 1), type := 9, pos := _, after := #[{ on := 8, ground := Ground.guard }], guard := some (8, true) }) (v := ?_) rfl (by kernel_rfl) (by kernel_rfl) (by kernel_rfl) (fun _ _ _ h => h) (Or.inl ⟨by rfl, ?_⟩) (by assumption) ?_
          rotate_left
          · intro w hSw; (try dsimp only at hSw); go_simp; (try with_reducible rfl)
          try simp only [Act.put, List.setIfInBounds_toArray, List.set_cons_zero, List.set_cons_succ]
          refine wpAnyH_ready (rs := [12]) (by kernel_rfl) (by simp) ?_
          refine AllReadyH.cons (o := { dst := some 95, op := Op.buildSlice 47 2 #[(0, Operand.tmp 93), (1, Operand.tmp 94)], type := 47, pos := _, after := #[{ on := 10, ground := Ground.data }, { on := 11, ground := Ground.data }, { on := 8, ground := Ground.guard }], guard := some (8, true) }) rfl (fun K hK => ?_) AllReadyH.nil
          go_simp
          have HX24 : Hid (Txs (w23.alloc (.cells #[.string t, .string u] 9)) (some ⟨w23.heap.size, 0, none⟩) [t, u]) := Lib.hid (txs_two w23 9 t u)
          have HT24 : Hid (Turn [] Wb (w23.alloc (.cells #[.string t, .string u] 9))) := Lib.hid ((HT23.out).alloc _)
          refine hK.out _ _ ?_ (fun hHeld => ?_)
          · exact HSS.out _ (HT24.out)
          clear hK K
          try simp only [Act.put, List.setIfInBounds_toArray, List.set_cons_zero, List.set_cons_succ]
          refine wpAnyH_ready (rs := [13]) (by kernel_rfl) (by simp) ?_
          refine AllReadyH.cons (o := { dst := some 96, op := Op.call { callee := Callee.value (Operand.func 11), args := #[Operand.tmp 92, Operand.tmp 95], argTypes := #[33, 47] }, type := 4, pos := _, after := #[{ on := 9, ground := Ground.data }, { on := 12, ground := Ground.data }, { on := 8, ground := Ground.chain }, { on := 8, ground := Ground.guard }], guard := some (8, true) }) rfl (fun K hK => ?_) AllReadyH.nil
          go_simp
          go_at_call 11
          (with_reducible refine (CI2.out (w23.alloc (.cells #[.string t, .string u] 9)) (HT24.out) _ 2 HX24.out).mono ?_)
          rintro e w25 ⟨rfl, t25⟩
          have HT25 := Lib.hid ((HT24.out).trans' t25)
          clear t25
          try go_wp2_with fail
          refine hK.out _ _ ?_ (fun hHeld => ?_)
          · exact HSS.out _ (HT25.out)
          clear hK K
          try simp only [Act.put, List.setIfInBounds_toArray, List.set_cons_zero, List.set_cons_succ]
          refine wpAnyH_ready (rs := [16]) (by kernel_rfl) (by simp) ?_
          refine AllReadyH.cons (o := { dst := some 99, op := Op.call { callee := Callee.value (Operand.func 12), args := #[Operand.tmp 97, Operand.tmp 98], argTypes := #[30, 9] }, type := 4, pos := _, after := #[{ on := 14, ground := Ground.data }, { on := 15, ground := Ground.data }, { on := 13, ground := Ground.chain }, { on := 8, ground := Ground.guard }], guard := some (8, true) }) rfl (fun K hK => ?_) AllReadyH.nil
          go_simp
          go_at_call 12
          (with_reducible refine (CRt.out w25 (HT25.out)).mono ?_)
          rintro e w26 ⟨rfl, t26⟩
          have HT26 := Lib.hid ((HT25.out).trans' t26)
          clear t26
          try go_wp2_with fail
          refine hK.out _ _ ?_ (fun hHeld => ?_)
          · exact HSS.out _ (HT26.out)
          clear hK K
          try simp only [Act.put, List.setIfInBounds_toArray, List.set_cons_zero, List.set_cons_succ]
          refine wpAnyH_take (i := 17) (oi := { dst := some 100, op := Op.move (Operand.tmp 99), type := 4, pos := _, after := #[{ on := 16, ground := Ground.data }, { on := 16, ground := Ground.chain }, { on := 8, ground := Ground.guard }], guard := some (8, true) }) (v := ?_) rfl (by kernel_rfl) (by kernel_rfl) (by kernel_rfl) (fun _ _ _ h => h) (Or.inl ⟨by rfl, ?_⟩) (by assumption) ?_
          rotate_left
          · intro w hSw; (try dsimp only at hSw); go_simp; (try with_reducible rfl)
          try simp only [Act.put, List.setIfInBounds_toArray, List.set_cons_zero, List.set_cons_succ]
          refine wpAnyH_take (i := 18) (oi := { dst := some 101, op := Op.load 30 (Operand.tmp 3), type := 30, pos := _, after := #[{ on := 17, ground := Ground.guard }], guard := some (17, true) }) (v := undef) rfl (by kernel_rfl) (by kernel_rfl) (by kernel_rfl) (fun _ _ _ h => h) (Or.inr ⟨by rfl, rfl⟩) (by assumption) ?_
          try simp only [Act.put, List.setIfInBounds_toArray, List.set_cons_zero, List.set_cons_succ]
          refine wpAnyH_take (i := 19) (oi := { dst := some 102, op := Op.move (Operand.tmp 2), type := 9, pos := _, after := #[{ on := 17, ground := Ground.guard }], guard := some (17, true) }) (v := undef) rfl (by kernel_rfl) (by kernel_rfl) (by kernel_rfl) (fun _ _ _ h => h) (Or.inr ⟨by rfl, rfl⟩) (by assumption) ?_
          try simp only [Act.put, List.setIfInBounds_toArray, List.set_cons_zero, List.set_cons_succ]
          refine wpAnyH_take (i := 20) (oi := { dst := some 103, op := Op.call { callee := Callee.value (Operand.func 12), args := #[Operand.tmp 101, Operand.tmp 102], argTypes := #[30, 9] }, type := 4, pos := _, after := #[{ on := 18, ground := Ground.data }, { on := 19, ground := Ground.data }, { on := 17, ground := Ground.chain }, { on := 17, ground := Ground.guard }], guard := some (17, true) }) (v := undef) rfl (by kernel_rfl) (by kernel_rfl) (by kernel_rfl) (fun _ _ _ h => h) (Or.inr ⟨by rfl, rfl⟩) (by assumption) ?_
          try simp only [Act.put, List.setIfInBounds_toArray, List.set_cons_zero, List.set_cons_succ]
          refine wpAnyH_take (i := 21) (oi := { dst := some 104, op := Op.pick (Operand.tmp 100) (Operand.tmp 103) (Operand.const (Value.bool false)), type := 4, pos := _, after := #[{ on := 17, ground := Ground.data }, { on := 20, ground := Ground.data }, { on := 8, ground := Ground.guard }], guard := some (8, true) }) (v := ?_) rfl (by kernel_rfl) (by kernel_rfl) (by kernel_rfl) (fun _ _ _ h => h) (Or.inl ⟨by rfl, ?_⟩) (by assumption) ?_
          rotate_left
          · intro w hSw; (try dsimp only at hSw); go_simp; (try with_reducible rfl)
          try simp only [Act.put, List.setIfInBounds_toArray, List.set_cons_zero, List.set_cons_succ]
          refine wpAnyH_take (i := 22) (oi := { dst := some 105, op := Op.binOp BinOp.eql 4 (Operand.tmp 96) (Operand.tmp 104) 4, type := 4, pos := _, after := #[{ on := 13, ground := Ground.data }, { on := 21, ground := Ground.data }, { on := 8, ground := Ground.guard }], guard := some (8, true) }) (v := ?_) rfl (by kernel_rfl) (by kernel_rfl) (by kernel_rfl) (fun _ _ _ h => h) (Or.inl ⟨by rfl, ?_⟩) (by assumption) ?_
          rotate_left
          · intro w hSw; (try dsimp only at hSw); go_simp; (try with_reducible rfl)
          try simp only [Act.put, List.setIfInBounds_toArray, List.set_cons_zero, List.set_cons_succ]
          refine wpAnyH_take (i := 23) (oi := { dst := some 106, op := Op.pick (Operand.tmp 91) (Operand.tmp 105) (Operand.const (Value.bool false)), type := 4, pos := _, after := #[{ on := 8, ground := Ground.data }, { on := 22, ground := Ground.data }], guard := none }) (v := ?_) rfl (by kernel_rfl) (by kernel_rfl) (by kernel_rfl) (fun _ _ _ h => h) (Or.inl ⟨by rfl, ?_⟩) (by assumption) ?_
          rotate_left
          · intro w hSw; (try dsimp only at hSw); go_simp; (try with_reducible rfl)
          try simp only [Act.put, List.setIfInBounds_toArray, List.set_cons_zero, List.set_cons_succ]
          refine wpAnyH_take (i := 24) (oi := { dst := some 107, op := Op.move (Operand.tmp 106), type := 4, pos := _, after := #[{ on := 23, ground := Ground.data }, { on := 20, ground := Ground.chain }], guard := none }) (v := ?_) rfl (by kernel_rfl) (by kernel_rfl) (by kernel_rfl) (fun _ _ _ h => h) (Or.inl ⟨by rfl, ?_⟩) (by assumption) ?_
          rotate_left
          · intro w hSw; (try dsimp only at hSw); go_simp; (try with_reducible rfl)
          try simp only [Act.put, List.setIfInBounds_toArray, List.set_cons_zero, List.set_cons_succ]
          refine wpAnyH_take (i := 25) (oi := { dst := some 108, op := Op.move (Operand.tmp 7), type := 33, pos := _, after := #[{ on := 24, ground := Ground.guard }], guard := some (24, true) }) (v := ?_) rfl (by kernel_rfl) (by kernel_rfl) (by kernel_rfl) (fun _ _ _ h => h) (Or.inl ⟨by rfl, ?_⟩) (by assumption) ?_
          rotate_left
          · intro w hSw; (try dsimp only at hSw); go_simp; (try with_reducible rfl)
          try simp only [Act.put, List.setIfInBounds_toArray, List.set_cons_zero, List.set_cons_succ]
          refine wpAnyH_take (i := 26) (oi := { dst := some 109, op := Op.move (Operand.tmp 1), type := 9, pos := _, after := #[{ on := 24, ground := Ground.guard }], guard := some (24, true) }) (v := ?_) rfl (by kernel_rfl) (by kernel_rfl) (by kernel_rfl) (fun _ _ _ h => h) (Or.inl ⟨by rfl, ?_⟩) (by assumption) ?_
          rotate_left
          · intro w hSw; (try dsimp only at hSw); go_simp; (try with_reducible rfl)
          try simp only [Act.put, List.setIfInBounds_toArray, List.set_cons_zero, List.set_cons_succ]
          refine wpAnyH_take (i := 28) (oi := { dst := some 111, op := Op.load 30 (Operand.tmp 3), type := 30, pos := _, after := #[{ on := 24, ground := Ground.guard }], guard := some (24, true) }) (v := ?_) rfl (by kernel_rfl) (by kernel_rfl) (by kernel_rfl) (fun _ _ _ h => h) (Or.inl ⟨by rfl, ?_⟩) (by assumption) ?_
          rotate_left
          · intro w hSw; (try dsimp only at hSw); go_simp; (try with_reducible rfl)
          try simp only [Act.put, List.setIfInBounds_toArray, List.set_cons_zero, List.set_cons_succ]
          refine wpAnyH_take (i := 29) (oi := { dst := some 112, op := Op.move (Operand.tmp 1), type := 9, pos := _, after := #[{ on := 24, ground := Ground.guard }], guard := some (24, true) }) (v := ?_) rfl (by kernel_rfl) (by kernel_rfl) (by kernel_rfl) (fun _ _ _ h => h) (Or.inl ⟨by rfl, ?_⟩) (by assumption) ?_
          rotate_left
          · intro w hSw; (try dsimp only at hSw); go_simp; (try with_reducible rfl)
          try simp only [Act.put, List.setIfInBounds_toArray, List.set_cons_zero, List.set_cons_succ]
          refine wpAnyH_ready (rs := [27]) (by kernel_rfl) (by simp) ?_
          refine AllReadyH.cons (o := { dst := some 110, op := Op.call { callee := Callee.value (Operand.func 13), args := #[Operand.tmp 108, Operand.tmp 109], argTypes := #[33, 9] }, type := 4, pos := _, after := #[{ on := 25, ground := Ground.data }, { on := 26, ground := Ground.data }, { on := 24, ground := Ground.chain }, { on := 24, ground := Ground.guard }], guard := some (24, true) }) rfl (fun K hK => ?_) AllReadyH.nil
          go_simp
          go_at_call 13
          (with_reducible refine (CFt.out w26 (HT26.out)).mono ?_)
          rintro e w27 ⟨rfl, t27⟩
          have HT27 := Lib.hid ((HT26.out).trans' t27)
          clear t27
          try go_wp2_with fail
          refine hK.out _ _ ?_ (fun hHeld => ?_)
          · exact HSS.out _ (HT27.out)
          clear hK K
          try simp only [Act.put, List.setIfInBounds_toArray, List.set_cons_zero, List.set_cons_succ]
          refine wpAnyH_ready (rs := [30]) (by kernel_rfl) (by simp) ?_
          refine AllReadyH.cons (o := { dst := some 113, op := Op.call { callee := Callee.value (Operand.func 14), args := #[Operand.tmp 111, Operand.tmp 112], argTypes := #[30, 9] }, type := 4, pos := _, after := #[{ on := 28, ground := Ground.data }, { on := 29, ground := Ground.data }, { on := 27, ground := Ground.chain }, { on := 24, ground := Ground.guard }], guard := some (24, true) }) rfl (fun K hK => ?_) AllReadyH.nil
          go_simp
          go_at_call 14
          (with_reducible refine (CRf.out w27 (HT27.out)).mono ?_)
          rintro e w28 ⟨rfl, t28⟩
          have HT28 := Lib.hid ((HT27.out).trans' t28)
          clear t28
          try go_wp2_with fail
          refine hK.out _ _ ?_ (fun hHeld => ?_)
          · exact HSS.out _ (HT28.out)
          clear hK K
          try simp only [Act.put, List.setIfInBounds_toArray, List.set_cons_zero, List.set_cons_succ]
          refine wpAnyH_take (i := 31) (oi := { dst := some 114, op := Op.binOp BinOp.eql 4 (Operand.tmp 110) (Operand.tmp 113) 4, type := 4, pos := _, after := #[{ on := 27, ground := Ground.data }, { on := 30, ground := Ground.data }, { on := 24, ground := Ground.guard }], guard := some (24, true) }) (v := ?_) rfl (by kernel_rfl) (by kernel_rfl) (by kernel_rfl) (fun _ _ _ h => h) (Or.inl ⟨by rfl, ?_⟩) (by assumption) ?_
          rotate_left
          · intro w hSw; (try dsimp only at hSw); go_simp; (try with_reducible rfl)
          try simp only [Act.put, List.setIfInBounds_toArray, List.set_cons_zero, List.set_cons_succ]
          refine wpAnyH_take (i := 32) (oi := { dst := some 115, op := Op.pick (Operand.tmp 107) (Operand.tmp 114) (Operand.const (Value.bool false)), type := 4, pos := _, after := #[{ on := 24, ground := Ground.data }, { on := 31, ground := Ground.data }], guard := none }) (v := ?_) rfl (by kernel_rfl) (by kernel_rfl) (by kernel_rfl) (fun _ _ _ h => h) (Or.inl ⟨by rfl, ?_⟩) (by assumption) ?_
          rotate_left
          · intro w hSw; (try dsimp only at hSw); go_simp; (try with_reducible rfl)
          try simp only [Act.put, List.setIfInBounds_toArray, List.set_cons_zero, List.set_cons_succ]
          refine wpAnyH_take (i := 33) (oi := { dst := some 116, op := Op.move (Operand.tmp 115), type := 4, pos := _, after := #[{ on := 32, ground := Ground.data }, { on := 30, ground := Ground.chain }], guard := none }) (v := ?_) rfl (by kernel_rfl) (by kernel_rfl) (by kernel_rfl) (fun _ _ _ h => h) (Or.inl ⟨by rfl, ?_⟩) (by assumption) ?_
          rotate_left
          · intro w hSw; (try dsimp only at hSw); go_simp; (try with_reducible rfl)
          try simp only [Act.put, List.setIfInBounds_toArray, List.set_cons_zero, List.set_cons_succ]
          refine wpAnyH_take (i := 34) (oi := { dst := some 117, op := Op.move (Operand.tmp 7), type := 33, pos := _, after := #[{ on := 33, ground := Ground.guard }], guard := some (33, true) }) (v := ?_) rfl (by kernel_rfl) (by kernel_rfl) (by kernel_rfl) (fun _ _ _ h => h) (Or.inl ⟨by rfl, ?_⟩) (by assumption) ?_
          rotate_left
          · intro w hSw; (try dsimp only at hSw); go_simp; (try with_reducible rfl)
          try simp only [Act.put, List.setIfInBounds_toArray, List.set_cons_zero, List.set_cons_succ]
          refine wpAnyH_take (i := 35) (oi := { dst := some 118, op := Op.move (Operand.tmp 1), type := 9, pos := _, after := #[{ on := 33, ground := Ground.guard }], guard := some (33, true) }) (v := ?_) rfl (by kernel_rfl) (by kernel_rfl) (by kernel_rfl) (fun _ _ _ h => h) (Or.inl ⟨by rfl, ?_⟩) (by assumption) ?_
          rotate_left
          · intro w hSw; (try dsimp only at hSw); go_simp; (try with_reducible rfl)
          try simp only [Act.put, List.setIfInBounds_toArray, List.set_cons_zero, List.set_cons_succ]
          refine wpAnyH_take (i := 36) (oi := { dst := some 119, op := Op.move (Operand.tmp 2), type := 9, pos := _, after := #[{ on := 33, ground := Ground.guard }], guard := some (33, true) }) (v := ?_) rfl (by kernel_rfl) (by kernel_rfl) (by kernel_rfl) (fun _ _ _ h => h) (Or.inl ⟨by rfl, ?_⟩) (by assumption) ?_
          rotate_left
          · intro w hSw; (try dsimp only at hSw); go_simp; (try with_reducible rfl)
          try simp only [Act.put, List.setIfInBounds_toArray, List.set_cons_zero, List.set_cons_succ]
          refine wpAnyH_take (i := 38) (oi := { dst := some 121, op := Op.load 30 (Operand.tmp 3), type := 30, pos := _, after := #[{ on := 33, ground := Ground.guard }], guard := some (33, true) }) (v := ?_) rfl (by kernel_rfl) (by kernel_rfl) (by kernel_rfl) (fun _ _ _ h => h) (Or.inl ⟨by rfl, ?_⟩) (by assumption) ?_
          rotate_left
          · intro w hSw; (try dsimp only at hSw); go_simp; (try with_reducible rfl)
          try simp only [Act.put, List.setIfInBounds_toArray, List.set_cons_zero, List.set_cons_succ]
          refine wpAnyH_take (i := 39) (oi := { dst := some 122, op := Op.move (Operand.tmp 1), type := 9, pos := _, after := #[{ on := 33, ground := Ground.guard }], guard := some (33, true) }) (v := ?_) rfl (by kernel_rfl) (by kernel_rfl) (by kernel_rfl) (fun _ _ _ h => h) (Or.inl ⟨by rfl, ?_⟩) (by assumption) ?_
          rotate_left
          · intro w hSw; (try dsimp only at hSw); go_simp; (try with_reducible rfl)
          try simp only [Act.put, List.setIfInBounds_toArray, List.set_cons_zero, List.set_cons_succ]
          refine wpAnyH_take (i := 40) (oi := { dst := some 123, op := Op.move (Operand.tmp 2), type := 9, pos := _, after := #[{ on := 33, ground := Ground.guard }], guard := some (33, true) }) (v := ?_) rfl (by kernel_rfl) (by kernel_rfl) (by kernel_rfl) (fun _ _ _ h => h) (Or.inl ⟨by rfl, ?_⟩) (by assumption) ?_
          rotate_left
          · intro w hSw; (try dsimp only at hSw); go_simp; (try with_reducible rfl)
          try simp only [Act.put, List.setIfInBounds_toArray, List.set_cons_zero, List.set_cons_succ]
          refine wpAnyH_ready (rs := [37]) (by kernel_rfl) (by simp) ?_
          refine AllReadyH.cons (o := { dst := some 120, op := Op.call { callee := Callee.value (Operand.func 15), args := #[Operand.tmp 117, Operand.tmp 118, Operand.tmp 119], argTypes := #[33, 9, 9] }, type := 4, pos := _, after := #[{ on := 34, ground := Ground.data }, { on := 35, ground := Ground.data }, { on := 36, ground := Ground.data }, { on := 33, ground := Ground.chain }, { on := 33, ground := Ground.guard }], guard := some (33, true) }) rfl (fun K hK => ?_) AllReadyH.nil
          go_simp
          go_at_call 15
          (with_reducible refine (CBl.out w28 (HT28.out)).mono ?_)
          rintro e w29 ⟨rfl, t29⟩
          have HT29 := Lib.hid ((HT28.out).trans' t29)
          clear t29
          try go_wp2_with fail
          refine hK.out _ _ ?_ (fun hHeld => ?_)
          · exact HSS.out _ (HT29.out)
          clear hK K
          try simp only [Act.put, List.setIfInBounds_toArray, List.set_cons_zero, List.set_cons_succ]
          refine wpAnyH_ready (rs := [41]) (by kernel_rfl) (by simp) ?_
          refine AllReadyH.cons (o := { dst := some 124, op := Op.call { callee := Callee.value (Operand.func 16), args := #[Operand.tmp 121, Operand.tmp 122, Operand.tmp 123], argTypes := #[30, 9, 9] }, type := 4, pos := _, after := #[{ on := 38, ground := Ground.data }, { on := 39, ground := Ground.data }, { on := 40, ground := Ground.data }, { on := 37, ground := Ground.chain }, { on := 33, ground := Ground.guard }], guard := some (33, true) }) rfl (fun K hK => ?_) AllReadyH.nil
          go_simp
          go_at_call 16
          (with_reducible refine (CRb.out w29 (HT29.out)).mono ?_)
          rintro e w30 ⟨rfl, t30⟩
          have HT30 := Lib.hid ((HT29.out).trans' t30)
          clear t30
          try go_wp2_with fail
          refine hK.out _ _ ?_ (fun hHeld => ?_)
          · exact HSS.out _ (HT30.out)
          clear hK K
          try simp only [Act.put, List.setIfInBounds_toArray, List.set_cons_zero, List.set_cons_succ]
          refine wpAnyH_take (i := 42) (oi := { dst := some 125, op := Op.binOp BinOp.eql 4 (Operand.tmp 120) (Operand.tmp 124) 4, type := 4, pos := _, after := #[{ on := 37, ground := Ground.data }, { on := 41, ground := Ground.data }, { on := 33, ground := Ground.guard }], guard := some (33, true) }) (v := ?_) rfl (by kernel_rfl) (by kernel_rfl) (by kernel_rfl) (fun _ _ _ h => h) (Or.inl ⟨by rfl, ?_⟩) (by assumption) ?_
          rotate_left
          · intro w hSw; (try dsimp only at hSw); go_simp; (try with_reducible rfl)
          try simp only [Act.put, List.setIfInBounds_toArray, List.set_cons_zero, List.set_cons_succ]
          refine wpAnyH_take (i := 43) (oi := { dst := some 126, op := Op.pick (Operand.tmp 116) (Operand.tmp 125) (Operand.const (Value.bool false)), type := 4, pos := _, after := #[{ on := 33, ground := Ground.data }, { on := 42, ground := Ground.data }], guard := none }) (v := ?_) rfl (by kernel_rfl) (by kernel_rfl) (by kernel_rfl) (fun _ _ _ h => h) (Or.inl ⟨by rfl, ?_⟩) (by assumption) ?_
          rotate_left
          · intro w hSw; (try dsimp only at hSw); go_simp; (try with_reducible rfl)
          try simp only [Act.put, List.setIfInBounds_toArray, List.set_cons_zero, List.set_cons_succ]
          refine wpAnyH_take (i := 44) (oi := { dst := some 127, op := Op.move (Operand.tmp 126), type := 4, pos := _, after := #[{ on := 43, ground := Ground.data }, { on := 41, ground := Ground.chain }], guard := none }) (v := ?_) rfl (by kernel_rfl) (by kernel_rfl) (by kernel_rfl) (fun _ _ _ h => h) (Or.inl ⟨by rfl, ?_⟩) (by assumption) ?_
          rotate_left
          · intro w hSw; (try dsimp only at hSw); go_simp; (try with_reducible rfl)
          try simp only [Act.put, List.setIfInBounds_toArray, List.set_cons_zero, List.set_cons_succ]
          refine wpAnyH_take (i := 45) (oi := { dst := some 128, op := Op.move (Operand.tmp 7), type := 33, pos := _, after := #[{ on := 44, ground := Ground.guard }], guard := some (44, true) }) (v := ?_) rfl (by kernel_rfl) (by kernel_rfl) (by kernel_rfl) (fun _ _ _ h => h) (Or.inl ⟨by rfl, ?_⟩) (by assumption) ?_
          rotate_left
          · intro w hSw; (try dsimp only at hSw); go_simp; (try with_reducible rfl)
          try simp only [Act.put, List.setIfInBounds_toArray, List.set_cons_zero, List.set_cons_succ]
          refine wpAnyH_take (i := 46) (oi := { dst := some 129, op := Op.move (Operand.tmp 1), type := 9, pos := _, after := #[{ on := 44, ground := Ground.guard }], guard := some (44, true) }) (v := ?_) rfl (by kernel_rfl) (by kernel_rfl) (by kernel_rfl) (fun _ _ _ h => h) (Or.inl ⟨by rfl, ?_⟩) (by assumption) ?_
          rotate_left
          · intro w hSw; (try dsimp only at hSw); go_simp; (try with_reducible rfl)
          try simp only [Act.put, List.setIfInBounds_toArray, List.set_cons_zero, List.set_cons_succ]
          refine wpAnyH_take (i := 48) (oi := { dst := some 131, op := Op.load 30 (Operand.tmp 3), type := 30, pos := _, after := #[{ on := 44, ground := Ground.guard }], guard := some (44, true) }) (v := ?_) rfl (by kernel_rfl) (by kernel_rfl) (by kernel_rfl) (fun _ _ _ h => h) (Or.inl ⟨by rfl, ?_⟩) (by assumption) ?_
          rotate_left
          · intro w hSw; (try dsimp only at hSw); go_simp; (try with_reducible rfl)
          try simp only [Act.put, List.setIfInBounds_toArray, List.set_cons_zero, List.set_cons_succ]
          refine wpAnyH_take (i := 49) (oi := { dst := some 132, op := Op.move (Operand.tmp 1), type := 9, pos := _, after := #[{ on := 44, ground := Ground.guard }], guard := some (44, true) }) (v := ?_) rfl (by kernel_rfl) (by kernel_rfl) (by kernel_rfl) (fun _ _ _ h => h) (Or.inl ⟨by rfl, ?_⟩) (by assumption) ?_
          rotate_left
          · intro w hSw; (try dsimp only at hSw); go_simp; (try with_reducible rfl)
          try simp only [Act.put, List.setIfInBounds_toArray, List.set_cons_zero, List.set_cons_succ]
          refine wpAnyH_ready (rs := [47]) (by kernel_rfl) (by simp) ?_
          refine AllReadyH.cons (o := { dst := some 130, op := Op.call { callee := Callee.value (Operand.func 18), args := #[Operand.tmp 128, Operand.tmp 129], argTypes := #[33, 9] }, type := 47, pos := _, after := #[{ on := 45, ground := Ground.data }, { on := 46, ground := Ground.data }, { on := 44, ground := Ground.chain }, { on := 44, ground := Ground.guard }], guard := some (44, true) }) rfl (fun K hK => ?_) AllReadyH.nil
          go_simp
          go_at_call 18
          (with_reducible refine (CUn.out w30 (HT30.out)).mono ?_)
          rintro e w31 ⟨U31, rfl, h31, t31⟩
          have HT31 := Lib.hid ((HT30.out).trans' t31)
          have HO31 := Lib.hid h31
          clear t31 h31
          try go_wp2_with fail
          refine hK.out _ _ ?_ (fun hHeld => ?_)
          · exact HSS.out _ (HT31.out)
          clear hK K
          try simp only [Act.put, List.setIfInBounds_toArray, List.set_cons_zero, List.set_cons_succ]
          refine wpAnyH_ready (rs := [50]) (by kernel_rfl) (by simp) ?_
          refine AllReadyH.cons (o := { dst := some 133, op := Op.call { callee := Callee.value (Operand.func 19), args := #[Operand.tmp 131, Operand.tmp 132], argTypes := #[30, 9] }, type := 47, pos := _, after := #[{ on := 48, ground := Ground.data }, { on := 49, ground := Ground.data }, { on := 47, ground := Ground.chain }, { on := 44, ground := Ground.guard }], guard := some (44, true) }) rfl (fun K hK => ?_) AllReadyH.nil
          go_simp
          go_at_call 19
          (with_reducible refine (CRn.out w31 (HT31.out)).mono ?_)
          rintro e w32 ⟨U32, rfl, h32, t32⟩
          have HT32 := Lib.hid ((HT31.out).trans' t32)
          have HO31 := Lib.hid (HO31.out.turn' t32)
          have HO32 := Lib.hid h32
          clear t32 h32
          try go_wp2_with fail
          refine hK.out _ _ ?_ (fun hHeld => ?_)
          · exact HSS.out _ (HT32.out)
          clear hK K
          try simp only [Act.put, List.setIfInBounds_toArray, List.set_cons_zero, List.set_cons_succ]
          refine wpAnyH_ready (rs := [51]) (by kernel_rfl) (by simp) ?_
          refine AllReadyH.cons (o := { dst := some 134, op := Op.call { callee := Callee.value (Operand.func 17), args := #[Operand.tmp 130, Operand.tmp 133], argTypes := #[47, 47] }, type := 4, pos := _, after := #[{ on := 47, ground := Ground.data }, { on := 50, ground := Ground.data }, { on := 50, ground := Ground.chain }, { on := 44, ground := Ground.guard }], guard := some (44, true) }) rfl (fun K hK => ?_) AllReadyH.nil
          go_simp
          obtain ⟨Pa, ca, ea, xa⟩ := HO31.out.txs
          obtain ⟨Pb, cb, eb, xb⟩ := HO32.out.txs
          subst ea
          subst eb
          go_at_call 17
          (with_reducible refine (texts_any w32 Pa Pb _ ca cb (undL l t) xa xb rfl HUL.out).mono ?_)
          rintro e w33 ⟨rfl, t33⟩
          have HT33 := Lib.hid ((HT32.out).trans' t33)
          clear t33
          try go_wp2_with fail
          refine hK.out _ _ ?_ (fun hHeld => ?_)
          · exact HSS.out _ (HT33.out)
          clear hK K
          try simp only [Act.put, List.setIfInBounds_toArray, List.set_cons_zero, List.set_cons_succ]
          refine wpAnyH_take (i := 52) (oi := { dst := some 135, op := Op.pick (Operand.tmp 127) (Operand.tmp 134) (Operand.const (Value.bool false)), type := 4, pos := _, after := #[{ on := 44, ground := Ground.data }, { on := 51, ground := Ground.data }], guard := none }) (v := ?_) rfl (by kernel_rfl) (by kernel_rfl) (by kernel_rfl) (fun _ _ _ h => h) (Or.inl ⟨by rfl, ?_⟩) (by assumption) ?_
          rotate_left
          · intro w hSw; (try dsimp only at hSw); go_simp; (try with_reducible rfl)
          try simp only [Act.put, List.setIfInBounds_toArray, List.set_cons_zero, List.set_cons_succ]
          refine wpAnyH_take (i := 53) (oi := { dst := some 6, op := Op.assign (Operand.tmp 135), type := 4, pos := _, after := #[{ on := 52, ground := Ground.data }, { on := 51, ground := Ground.chain }, { on := 0, ground := Ground.phase }, { on := 1, ground := Ground.phase }, { on := 2, ground := Ground.phase }, { on := 3, ground := Ground.phase }, { on := 4, ground := Ground.phase }, { on := 5, ground := Ground.phase }, { on := 6, ground := Ground.phase }, { on := 7, ground := Ground.phase }, { on := 8, ground := Ground.phase }, { on := 9, ground := Ground.phase }, { on := 10, ground := Ground.phase }, { on := 11, ground := Ground.phase }, { on := 12, ground := Ground.phase }, { on := 13, ground := Ground.phase }, { on := 14, ground := Ground.phase }, { on := 15, ground := Ground.phase }, { on := 16, ground := Ground.phase }, { on := 17, ground := Ground.phase }, { on := 18, ground := Ground.phase }, { on := 19, ground := Ground.phase }, { on := 20, ground := Ground.phase }, { on := 21, ground := Ground.phase }, { on := 22, ground := Ground.phase }, { on := 23, ground := Ground.phase }, { on := 24, ground := Ground.phase }, { on := 25, ground := Ground.phase }, { on := 26, ground := Ground.phase }, { on := 27, ground := Ground.phase }, { on := 28, ground := Ground.phase }, { on := 29, ground := Ground.phase }, { on := 30, ground := Ground.phase }, { on := 31, ground := Ground.phase }, { on := 32, ground := Ground.phase }, { on := 33, ground := Ground.phase }, { on := 34, ground := Ground.phase }, { on := 35, ground := Ground.phase }, { on := 36, ground := Ground.phase }, { on := 37, ground := Ground.phase }, { on := 38, ground := Ground.phase }, { on := 39, ground := Ground.phase }, { on := 40, ground := Ground.phase }, { on := 41, ground := Ground.phase }, { on := 42, ground := Ground.phase }, { on := 43, ground := Ground.phase }, { on := 44, ground := Ground.phase }, { on := 45, ground := Ground.phase }, { on := 46, ground := Ground.phase }, { on := 47, ground := Ground.phase }, { on := 48, ground := Ground.phase }, { on := 49, ground := Ground.phase }, { on := 50, ground := Ground.phase }, { on := 51, ground := Ground.phase }, { on := 52, ground := Ground.phase }], guard := none }) (v := ?_) rfl (by kernel_rfl) (by kernel_rfl) (by kernel_rfl) (fun _ _ _ h => h) (Or.inl ⟨by rfl, ?_⟩) (by assumption) ?_
          rotate_left
          · intro w hSw; (try dsimp only at hSw); go_simp; (try with_reducible rfl)
          try simp only [Act.put, List.setIfInBounds_toArray, List.set_cons_zero, List.set_cons_succ]
          refine wpAnyH_done (by kernel_rfl) ?_ _
          go_wp2_with fail
          go_ret
          exact ⟨rfl, (HT0.out.trans' HTb.out).trans' (HT33.out)⟩
          | true =>
          refine wp_region_held_drew (S := fun w' => w'.cell? ⟨r, 0, none⟩ = some (.slice A n c) ∧ w'.cell? ⟨r, 1, none⟩ = some m0 ∧ w'.cell? ⟨r, 2, none⟩ = some m1 ∧ w'.cell? ⟨r, 3, none⟩ = some m2 ∧ w'.cell? ⟨r, 4, none⟩ = some m3 ∧ w'.cell? ⟨r, 5, none⟩ = some m4 ∧ w'.cell? ⟨r, 6, none⟩ = some m5 ∧ w'.cell? ⟨r, 7, none⟩ = some m6 ∧ w'.cell? ⟨r, 8, none⟩ = some m7 ∧ w'.cell? ⟨r, 9, none⟩ = some m8) (by kernel_rfl) ?_ (fun hHeld => ?_)
          · exact HSS.out _ (Turn.refl [] Wb).drew
          refine wpAnyH_take (i := 0) (oi := { dst := some 83, op := Op.move (Operand.tmp 7), type := 33, pos := _, after := #[], guard := none }) (v := ?_) rfl (by kernel_rfl) (by kernel_rfl) (by kernel_rfl) (fun _ _ _ h => h) (Or.inl ⟨by rfl, ?_⟩) (by assumption) ?_
          rotate_left
          · intro w hSw; (try dsimp only at hSw); go_simp; (try with_reducible rfl)
          try simp only [Act.put, List.setIfInBounds_toArray, List.set_cons_zero, List.set_cons_succ]
          refine wpAnyH_take (i := 1) (oi := { dst := some 84, op := Op.move (Operand.tmp 1), type := 9, pos := _, after := #[], guard := none }) (v := ?_) rfl (by kernel_rfl) (by kernel_rfl) (by kernel_rfl) (fun _ _ _ h => h) (Or.inl ⟨by rfl, ?_⟩) (by assumption) ?_
          rotate_left
          · intro w hSw; (try dsimp only at hSw); go_simp; (try with_reducible rfl)
          try simp only [Act.put, List.setIfInBounds_toArray, List.set_cons_zero, List.set_cons_succ]
          refine wpAnyH_take (i := 4) (oi := { dst := some 87, op := Op.load 30 (Operand.tmp 3), type := 30, pos := _, after := #[], guard := none }) (v := ?_) rfl (by kernel_rfl) (by kernel_rfl) (by kernel_rfl) (fun _ _ _ h => h) (Or.inl ⟨by rfl, ?_⟩) (by assumption) ?_
          rotate_left
          · intro w hSw; (try dsimp only at hSw); go_simp; (try with_reducible rfl)
          try simp only [Act.put, List.setIfInBounds_toArray, List.set_cons_zero, List.set_cons_succ]
          refine wpAnyH_take (i := 5) (oi := { dst := some 88, op := Op.move (Operand.tmp 1), type := 9, pos := _, after := #[], guard := none }) (v := ?_) rfl (by kernel_rfl) (by kernel_rfl) (by kernel_rfl) (fun _ _ _ h => h) (Or.inl ⟨by rfl, ?_⟩) (by assumption) ?_
          rotate_left
          · intro w hSw; (try dsimp only at hSw); go_simp; (try with_reducible rfl)
          try simp only [Act.put, List.setIfInBounds_toArray, List.set_cons_zero, List.set_cons_succ]
          refine wpAnyH_ready (rs := [2]) (by kernel_rfl) (by simp) ?_
          refine AllReadyH.cons (o := { dst := some 85, op := Op.buildSlice 47 1 #[(0, Operand.tmp 84)], type := 47, pos := _, after := #[{ on := 1, ground := Ground.data }], guard := none }) rfl (fun K hK => ?_) AllReadyH.nil
          go_simp
          have HT21 : Hid (Turn [] Wb ((Wb.alloc (.cells #[.string t] 9)).drew)) := Lib.hid ((Turn.refl [] Wb).alloc _).drew
          have HX21 : Hid (Txs ((Wb.alloc (.cells #[.string t] 9)).drew) (some ⟨Wb.heap.size, 0, none⟩) [t]) := Lib.hid ((txs_one Wb 9 t).turn (Turn.refl [] _).drew)
          refine hK.out _ _ ?_ (fun hHeld => ?_)
          · exact HSS.out _ (HT21.out)
          clear hK K
          try simp only [Act.put, List.setIfInBounds_toArray, List.set_cons_zero, List.set_cons_succ]
          refine wpAnyH_ready (rs := [3]) (by kernel_rfl) (by simp) ?_
          refine AllReadyH.cons (o := { dst := some 86, op := Op.call { callee := Callee.value (Operand.func 11), args := #[Operand.tmp 83, Operand.tmp 85], argTypes := #[33, 47] }, type := 4, pos := _, after := #[{ on := 0, ground := Ground.data }, { on := 2, ground := Ground.data }], guard := none }) rfl (fun K hK => ?_) AllReadyH.nil
          go_simp
          go_at_call 11
          (with_reducible refine (CI1.out ((Wb.alloc (.cells #[.string t] 9)).drew) (HT21.out) _ 1 HX21.out).mono ?_)
          rintro e w22 ⟨rfl, t22⟩
          have HT22 := Lib.hid ((HT21.out).trans' t22)
          clear t22
          try go_wp2_with fail
          refine hK.out _ _ ?_ (fun hHeld => ?_)
          · exact HSS.out _ (HT22.out)
          clear hK K
          try simp only [Act.put, List.setIfInBounds_toArray, List.set_cons_zero, List.set_cons_succ]
          refine wpAnyH_ready (rs := [6]) (by kernel_rfl) (by simp) ?_
          refine AllReadyH.cons (o := { dst := some 89, op := Op.call { callee := Callee.value (Operand.func 12), args := #[Operand.tmp 87, Operand.tmp 88], argTypes := #[30, 9] }, type := 4, pos := _, after := #[{ on := 4, ground := Ground.data }, { on := 5, ground := Ground.data }, { on := 3, ground := Ground.chain }], guard := none }) rfl (fun K hK => ?_) AllReadyH.nil
          go_simp
          go_at_call 12
          (with_reducible refine (CRt.out w22 (HT22.out)).mono ?_)
          rintro e w23 ⟨rfl, t23⟩
          have HT23 := Lib.hid ((HT22.out).trans' t23)
          clear t23
          try go_wp2_with fail
          refine hK.out _ _ ?_ (fun hHeld => ?_)
          · exact HSS.out _ (HT23.out)
          clear hK K
          try simp only [Act.put, List.setIfInBounds_toArray, List.set_cons_zero, List.set_cons_succ]
          refine wpAnyH_take (i := 7) (oi := { dst := some 90, op := Op.binOp BinOp.eql 4 (Operand.tmp 86) (Operand.tmp 89) 4, type := 4, pos := _, after := #[{ on := 3, ground := Ground.data }, { on := 6, ground := Ground.data }], guard := none }) (v := ?_) rfl (by kernel_rfl) (by kernel_rfl) (by kernel_rfl) (fun _ _ _ h => h) (Or.inl ⟨by rfl, ?_⟩) (by assumption) ?_
          rotate_left
          · intro w hSw; (try dsimp only at hSw); go_simp; (try with_reducible rfl)
          try simp only [Act.put, List.setIfInBounds_toArray, List.set_cons_zero, List.set_cons_succ]
          refine wpAnyH_take (i := 8) (oi := { dst := some 91, op := Op.move (Operand.tmp 90), type := 4, pos := _, after := #[{ on := 7, ground := Ground.data }, { on := 6, ground := Ground.chain }], guard := none }) (v := ?_) rfl (by kernel_rfl) (by kernel_rfl) (by kernel_rfl) (fun _ _ _ h => h) (Or.inl ⟨by rfl, ?_⟩) (by assumption) ?_
          rotate_left
          · intro w hSw; (try dsimp only at hSw); go_simp; (try with_reducible rfl)
          try simp only [Act.put, List.setIfInBounds_toArray, List.set_cons_zero, List.set_cons_succ]
          refine wpAnyH_take (i := 9) (oi := { dst := some 92, op := Op.move (Operand.tmp 7), type := 33, pos := _, after := #[{ on := 8, ground := Ground.guard }], guard := some (8, true) }) (v := ?_) rfl (by kernel_rfl) (by kernel_rfl) (by kernel_rfl) (fun _ _ _ h => h) (Or.inl ⟨by rfl, ?_⟩) (by assumption) ?_
          rotate_left
          · intro w hSw; (try dsimp only at hSw); go_simp; (try with_reducible rfl)
          try simp only [Act.put, List.setIfInBounds_toArray, List.set_cons_zero, List.set_cons_succ]
          refine wpAnyH_take (i := 10) (oi := { dst := some 93, op := Op.move (Operand.tmp 1), type := 9, pos := _, after := #[{ on := 8, ground := Ground.guard }], guard := some (8, true) }) (v := ?_) rfl (by kernel_rfl) (by kernel_rfl) (by kernel_rfl) (fun _ _ _ h => h) (Or.inl ⟨by rfl, ?_⟩) (by assumption) ?_
          rotate_left
          · intro w hSw; (try dsimp only at hSw); go_simp; (try with_reducible rfl)
          try simp only [Act.put, List.setIfInBounds_toArray, List.set_cons_zero, List.set_cons_succ]
          refine wpAnyH_take (i := 11) (oi := { dst := some 94, op := Op.move (Operand.tmp 2), type := 9, pos := _, after := #[{ on := 8, ground := Ground.guard }], guard := some (8, true) }) (v := ?_) rfl (by kernel_rfl) (by kernel_rfl) (by kernel_rfl) (fun _ _ _ h => h) (Or.inl ⟨by rfl, ?_⟩) (by assumption) ?_
          rotate_left
          · intro w hSw; (try dsimp only at hSw); go_simp; (try with_reducible rfl)
          try simp only [Act.put, List.setIfInBounds_toArray, List.set_cons_zero, List.set_cons_succ]
          refine wpAnyH_take (i := 14) (oi := { dst := some 97, op := Op.load 30 (Operand.tmp 3), type := 30, pos := _, after := #[{ on := 8, ground := Ground.guard }], guard := some (8, true) }) (v := ?_) rfl (by kernel_rfl) (by kernel_rfl) (by kernel_rfl) (fun _ _ _ h => h) (Or.inl ⟨by rfl, ?_⟩) (by assumption) ?_
          rotate_left
          · intro w hSw; (try dsimp only at hSw); go_simp; (try with_reducible rfl)
          try simp only [Act.put, List.setIfInBounds_toArray, List.set_cons_zero, List.set_cons_succ]
          refine wpAnyH_take (i := 15) (oi := { dst := some 98, op := Op.move (Operand.tmp 1), type := 9, pos := _, after := #[{ on := 8, ground := Ground.guard }], guard := some (8, true) }) (v := ?_) rfl (by kernel_rfl) (by kernel_rfl) (by kernel_rfl) (fun _ _ _ h => h) (Or.inl ⟨by rfl, ?_⟩) (by assumption) ?_
          rotate_left
          · intro w hSw; (try dsimp only at hSw); go_simp; (try with_reducible rfl)
          try simp only [Act.put, List.setIfInBounds_toArray, List.set_cons_zero, List.set_cons_succ]
          refine wpAnyH_ready (rs := [12]) (by kernel_rfl) (by simp) ?_
          refine AllReadyH.cons (o := { dst := some 95, op := Op.buildSlice 47 2 #[(0, Operand.tmp 93), (1, Operand.tmp 94)], type := 47, pos := _, after := #[{ on := 10, ground := Ground.data }, { on := 11, ground := Ground.data }, { on := 8, ground := Ground.guard }], guard := some (8, true) }) rfl (fun K hK => ?_) AllReadyH.nil
          go_simp
          have HX24 : Hid (Txs (w23.alloc (.cells #[.string t, .string u] 9)) (some ⟨w23.heap.size, 0, none⟩) [t, u]) := Lib.hid (txs_two w23 9 t u)
          have HT24 : Hid (Turn [] Wb (w23.alloc (.cells #[.string t, .string u] 9))) := Lib.hid ((HT23.out).alloc _)
          refine hK.out _ _ ?_ (fun hHeld => ?_)
          · exact HSS.out _ (HT24.out)
          clear hK K
          try simp only [Act.put, List.setIfInBounds_toArray, List.set_cons_zero, List.set_cons_succ]
          refine wpAnyH_ready (rs := [13]) (by kernel_rfl) (by simp) ?_
          refine AllReadyH.cons (o := { dst := some 96, op := Op.call { callee := Callee.value (Operand.func 11), args := #[Operand.tmp 92, Operand.tmp 95], argTypes := #[33, 47] }, type := 4, pos := _, after := #[{ on := 9, ground := Ground.data }, { on := 12, ground := Ground.data }, { on := 8, ground := Ground.chain }, { on := 8, ground := Ground.guard }], guard := some (8, true) }) rfl (fun K hK => ?_) AllReadyH.nil
          go_simp
          go_at_call 11
          (with_reducible refine (CI2.out (w23.alloc (.cells #[.string t, .string u] 9)) (HT24.out) _ 2 HX24.out).mono ?_)
          rintro e w25 ⟨rfl, t25⟩
          have HT25 := Lib.hid ((HT24.out).trans' t25)
          clear t25
          try go_wp2_with fail
          refine hK.out _ _ ?_ (fun hHeld => ?_)
          · exact HSS.out _ (HT25.out)
          clear hK K
          try simp only [Act.put, List.setIfInBounds_toArray, List.set_cons_zero, List.set_cons_succ]
          refine wpAnyH_ready (rs := [16]) (by kernel_rfl) (by simp) ?_
          refine AllReadyH.cons (o := { dst := some 99, op := Op.call { callee := Callee.value (Operand.func 12), args := #[Operand.tmp 97, Operand.tmp 98], argTypes := #[30, 9] }, type := 4, pos := _, after := #[{ on := 14, ground := Ground.data }, { on := 15, ground := Ground.data }, { on := 13, ground := Ground.chain }, { on := 8, ground := Ground.guard }], guard := some (8, true) }) rfl (fun K hK => ?_) AllReadyH.nil
          go_simp
          go_at_call 12
          (with_reducible refine (CRt.out w25 (HT25.out)).mono ?_)
          rintro e w26 ⟨rfl, t26⟩
          have HT26 := Lib.hid ((HT25.out).trans' t26)
          clear t26
          try go_wp2_with fail
          refine hK.out _ _ ?_ (fun hHeld => ?_)
          · exact HSS.out _ (HT26.out)
          clear hK K
          try simp only [Act.put, List.setIfInBounds_toArray, List.set_cons_zero, List.set_cons_succ]
          refine wpAnyH_take (i := 17) (oi := { dst := some 100, op := Op.move (Operand.tmp 99), type := 4, pos := _, after := #[{ on := 16, ground := Ground.data }, { on := 16, ground := Ground.chain }, { on := 8, ground := Ground.guard }], guard := some (8, true) }) (v := ?_) rfl (by kernel_rfl) (by kernel_rfl) (by kernel_rfl) (fun _ _ _ h => h) (Or.inl ⟨by rfl, ?_⟩) (by assumption) ?_
          rotate_left
          · intro w hSw; (try dsimp only at hSw); go_simp; (try with_reducible rfl)
          try simp only [Act.put, List.setIfInBounds_toArray, List.set_cons_zero, List.set_cons_succ]
          refine wpAnyH_take (i := 18) (oi := { dst := some 101, op := Op.load 30 (Operand.tmp 3), type := 30, pos := _, after := #[{ on := 17, ground := Ground.guard }], guard := some (17, true) }) (v := ?_) rfl (by kernel_rfl) (by kernel_rfl) (by kernel_rfl) (fun _ _ _ h => h) (Or.inl ⟨by rfl, ?_⟩) (by assumption) ?_
          rotate_left
          · intro w hSw; (try dsimp only at hSw); go_simp; (try with_reducible rfl)
          try simp only [Act.put, List.setIfInBounds_toArray, List.set_cons_zero, List.set_cons_succ]
          refine wpAnyH_take (i := 19) (oi := { dst := some 102, op := Op.move (Operand.tmp 2), type := 9, pos := _, after := #[{ on := 17, ground := Ground.guard }], guard := some (17, true) }) (v := ?_) rfl (by kernel_rfl) (by kernel_rfl) (by kernel_rfl) (fun _ _ _ h => h) (Or.inl ⟨by rfl, ?_⟩) (by assumption) ?_
          rotate_left
          · intro w hSw; (try dsimp only at hSw); go_simp; (try with_reducible rfl)
          try simp only [Act.put, List.setIfInBounds_toArray, List.set_cons_zero, List.set_cons_succ]
          refine wpAnyH_ready (rs := [20]) (by kernel_rfl) (by simp) ?_
          refine AllReadyH.cons (o := { dst := some 103, op := Op.call { callee := Callee.value (Operand.func 12), args := #[Operand.tmp 101, Operand.tmp 102], argTypes := #[30, 9] }, type := 4, pos := _, after := #[{ on := 18, ground := Ground.data }, { on := 19, ground := Ground.data }, { on := 17, ground := Ground.chain }, { on := 17, ground := Ground.guard }], guard := some (17, true) }) rfl (fun K hK => ?_) AllReadyH.nil
          go_simp
          go_at_call 12
          (with_reducible refine (CRu.out w26 (HT26.out)).mono ?_)
          rintro e w27 ⟨rfl, t27⟩
          have HT27 := Lib.hid ((HT26.out).trans' t27)
          clear t27
          try go_wp2_with fail
          refine hK.out _ _ ?_ (fun hHeld => ?_)
          · exact HSS.out _ (HT27.out)
          clear hK K
          try simp only [Act.put, List.setIfInBounds_toArray, List.set_cons_zero, List.set_cons_succ]
          refine wpAnyH_take (i := 21) (oi := { dst := some 104, op := Op.pick (Operand.tmp 100) (Operand.tmp 103) (Operand.const (Value.bool false)), type := 4, pos := _, after := #[{ on := 17, ground := Ground.data }, { on := 20, ground := Ground.data }, { on := 8, ground := Ground.guard }], guard := some (8, true) }) (v := ?_) rfl (by kernel_rfl) (by kernel_rfl) (by kernel_rfl) (fun _ _ _ h => h) (Or.inl ⟨by rfl, ?_⟩) (by assumption) ?_
          rotate_left
          · intro w hSw; (try dsimp only at hSw); go_simp; (try with_reducible rfl)
          try simp only [Act.put, List.setIfInBounds_toArray, List.set_cons_zero, List.set_cons_succ]
          refine wpAnyH_take (i := 22) (oi := { dst := some 105, op := Op.binOp BinOp.eql 4 (Operand.tmp 96) (Operand.tmp 104) 4, type := 4, pos := _, after := #[{ on := 13, ground := Ground.data }, { on := 21, ground := Ground.data }, { on := 8, ground := Ground.guard }], guard := some (8, true) }) (v := ?_) rfl (by kernel_rfl) (by kernel_rfl) (by kernel_rfl) (fun _ _ _ h => h) (Or.inl ⟨by rfl, ?_⟩) (by assumption) ?_
          rotate_left
          · intro w hSw; (try dsimp only at hSw); go_simp; (try with_reducible rfl)
          try simp only [Act.put, List.setIfInBounds_toArray, List.set_cons_zero, List.set_cons_succ]
          refine wpAnyH_take (i := 23) (oi := { dst := some 106, op := Op.pick (Operand.tmp 91) (Operand.tmp 105) (Operand.const (Value.bool false)), type := 4, pos := _, after := #[{ on := 8, ground := Ground.data }, { on := 22, ground := Ground.data }], guard := none }) (v := ?_) rfl (by kernel_rfl) (by kernel_rfl) (by kernel_rfl) (fun _ _ _ h => h) (Or.inl ⟨by rfl, ?_⟩) (by assumption) ?_
          rotate_left
          · intro w hSw; (try dsimp only at hSw); go_simp; (try with_reducible rfl)
          try simp only [Act.put, List.setIfInBounds_toArray, List.set_cons_zero, List.set_cons_succ]
          refine wpAnyH_take (i := 24) (oi := { dst := some 107, op := Op.move (Operand.tmp 106), type := 4, pos := _, after := #[{ on := 23, ground := Ground.data }, { on := 20, ground := Ground.chain }], guard := none }) (v := ?_) rfl (by kernel_rfl) (by kernel_rfl) (by kernel_rfl) (fun _ _ _ h => h) (Or.inl ⟨by rfl, ?_⟩) (by assumption) ?_
          rotate_left
          · intro w hSw; (try dsimp only at hSw); go_simp; (try with_reducible rfl)
          try simp only [Act.put, List.setIfInBounds_toArray, List.set_cons_zero, List.set_cons_succ]
          refine wpAnyH_take (i := 25) (oi := { dst := some 108, op := Op.move (Operand.tmp 7), type := 33, pos := _, after := #[{ on := 24, ground := Ground.guard }], guard := some (24, true) }) (v := ?_) rfl (by kernel_rfl) (by kernel_rfl) (by kernel_rfl) (fun _ _ _ h => h) (Or.inl ⟨by rfl, ?_⟩) (by assumption) ?_
          rotate_left
          · intro w hSw; (try dsimp only at hSw); go_simp; (try with_reducible rfl)
          try simp only [Act.put, List.setIfInBounds_toArray, List.set_cons_zero, List.set_cons_succ]
          refine wpAnyH_take (i := 26) (oi := { dst := some 109, op := Op.move (Operand.tmp 1), type := 9, pos := _, after := #[{ on := 24, ground := Ground.guard }], guard := some (24, true) }) (v := ?_) rfl (by kernel_rfl) (by kernel_rfl) (by kernel_rfl) (fun _ _ _ h => h) (Or.inl ⟨by rfl, ?_⟩) (by assumption) ?_
          rotate_left
          · intro w hSw; (try dsimp only at hSw); go_simp; (try with_reducible rfl)
          try simp only [Act.put, List.setIfInBounds_toArray, List.set_cons_zero, List.set_cons_succ]
          refine wpAnyH_take (i := 28) (oi := { dst := some 111, op := Op.load 30 (Operand.tmp 3), type := 30, pos := _, after := #[{ on := 24, ground := Ground.guard }], guard := some (24, true) }) (v := ?_) rfl (by kernel_rfl) (by kernel_rfl) (by kernel_rfl) (fun _ _ _ h => h) (Or.inl ⟨by rfl, ?_⟩) (by assumption) ?_
          rotate_left
          · intro w hSw; (try dsimp only at hSw); go_simp; (try with_reducible rfl)
          try simp only [Act.put, List.setIfInBounds_toArray, List.set_cons_zero, List.set_cons_succ]
          refine wpAnyH_take (i := 29) (oi := { dst := some 112, op := Op.move (Operand.tmp 1), type := 9, pos := _, after := #[{ on := 24, ground := Ground.guard }], guard := some (24, true) }) (v := ?_) rfl (by kernel_rfl) (by kernel_rfl) (by kernel_rfl) (fun _ _ _ h => h) (Or.inl ⟨by rfl, ?_⟩) (by assumption) ?_
          rotate_left
          · intro w hSw; (try dsimp only at hSw); go_simp; (try with_reducible rfl)
          try simp only [Act.put, List.setIfInBounds_toArray, List.set_cons_zero, List.set_cons_succ]
          refine wpAnyH_ready (rs := [27]) (by kernel_rfl) (by simp) ?_
          refine AllReadyH.cons (o := { dst := some 110, op := Op.call { callee := Callee.value (Operand.func 13), args := #[Operand.tmp 108, Operand.tmp 109], argTypes := #[33, 9] }, type := 4, pos := _, after := #[{ on := 25, ground := Ground.data }, { on := 26, ground := Ground.data }, { on := 24, ground := Ground.chain }, { on := 24, ground := Ground.guard }], guard := some (24, true) }) rfl (fun K hK => ?_) AllReadyH.nil
          go_simp
          go_at_call 13
          (with_reducible refine (CFt.out w27 (HT27.out)).mono ?_)
          rintro e w28 ⟨rfl, t28⟩
          have HT28 := Lib.hid ((HT27.out).trans' t28)
          clear t28
          try go_wp2_with fail
          refine hK.out _ _ ?_ (fun hHeld => ?_)
          · exact HSS.out _ (HT28.out)
          clear hK K
          try simp only [Act.put, List.setIfInBounds_toArray, List.set_cons_zero, List.set_cons_succ]
          refine wpAnyH_ready (rs := [30]) (by kernel_rfl) (by simp) ?_
          refine AllReadyH.cons (o := { dst := some 113, op := Op.call { callee := Callee.value (Operand.func 14), args := #[Operand.tmp 111, Operand.tmp 112], argTypes := #[30, 9] }, type := 4, pos := _, after := #[{ on := 28, ground := Ground.data }, { on := 29, ground := Ground.data }, { on := 27, ground := Ground.chain }, { on := 24, ground := Ground.guard }], guard := some (24, true) }) rfl (fun K hK => ?_) AllReadyH.nil
          go_simp
          go_at_call 14
          (with_reducible refine (CRf.out w28 (HT28.out)).mono ?_)
          rintro e w29 ⟨rfl, t29⟩
          have HT29 := Lib.hid ((HT28.out).trans' t29)
          clear t29
          try go_wp2_with fail
          refine hK.out _ _ ?_ (fun hHeld => ?_)
          · exact HSS.out _ (HT29.out)
          clear hK K
          try simp only [Act.put, List.setIfInBounds_toArray, List.set_cons_zero, List.set_cons_succ]
          refine wpAnyH_take (i := 31) (oi := { dst := some 114, op := Op.binOp BinOp.eql 4 (Operand.tmp 110) (Operand.tmp 113) 4, type := 4, pos := _, after := #[{ on := 27, ground := Ground.data }, { on := 30, ground := Ground.data }, { on := 24, ground := Ground.guard }], guard := some (24, true) }) (v := ?_) rfl (by kernel_rfl) (by kernel_rfl) (by kernel_rfl) (fun _ _ _ h => h) (Or.inl ⟨by rfl, ?_⟩) (by assumption) ?_
          rotate_left
          · intro w hSw; (try dsimp only at hSw); go_simp; (try with_reducible rfl)
          try simp only [Act.put, List.setIfInBounds_toArray, List.set_cons_zero, List.set_cons_succ]
          refine wpAnyH_take (i := 32) (oi := { dst := some 115, op := Op.pick (Operand.tmp 107) (Operand.tmp 114) (Operand.const (Value.bool false)), type := 4, pos := _, after := #[{ on := 24, ground := Ground.data }, { on := 31, ground := Ground.data }], guard := none }) (v := ?_) rfl (by kernel_rfl) (by kernel_rfl) (by kernel_rfl) (fun _ _ _ h => h) (Or.inl ⟨by rfl, ?_⟩) (by assumption) ?_
          rotate_left
          · intro w hSw; (try dsimp only at hSw); go_simp; (try with_reducible rfl)
          try simp only [Act.put, List.setIfInBounds_toArray, List.set_cons_zero, List.set_cons_succ]
          refine wpAnyH_take (i := 33) (oi := { dst := some 116, op := Op.move (Operand.tmp 115), type := 4, pos := _, after := #[{ on := 32, ground := Ground.data }, { on := 30, ground := Ground.chain }], guard := none }) (v := ?_) rfl (by kernel_rfl) (by kernel_rfl) (by kernel_rfl) (fun _ _ _ h => h) (Or.inl ⟨by rfl, ?_⟩) (by assumption) ?_
          rotate_left
          · intro w hSw; (try dsimp only at hSw); go_simp; (try with_reducible rfl)
          try simp only [Act.put, List.setIfInBounds_toArray, List.set_cons_zero, List.set_cons_succ]
          refine wpAnyH_take (i := 34) (oi := { dst := some 117, op := Op.move (Operand.tmp 7), type := 33, pos := _, after := #[{ on := 33, ground := Ground.guard }], guard := some (33, true) }) (v := ?_) rfl (by kernel_rfl) (by kernel_rfl) (by kernel_rfl) (fun _ _ _ h => h) (Or.inl ⟨by rfl, ?_⟩) (by assumption) ?_
          rotate_left
          · intro w hSw; (try dsimp only at hSw); go_simp; (try with_reducible rfl)
          try simp only [Act.put, List.setIfInBounds_toArray, List.set_cons_zero, List.set_cons_succ]
          refine wpAnyH_take (i := 35) (oi := { dst := some 118, op := Op.move (Operand.tmp 1), type := 9, pos := _, after := #[{ on := 33, ground := Ground.guard }], guard := some (33, true) }) (v := ?_) rfl (by kernel_rfl) (by kernel_rfl) (by kernel_rfl) (fun _ _ _ h => h) (Or.inl ⟨by rfl, ?_⟩) (by assumption) ?_
          rotate_left
          · intro w hSw; (try dsimp only at hSw); go_simp; (try with_reducible rfl)
          try simp only [Act.put, List.setIfInBounds_toArray, List.set_cons_zero, List.set_cons_succ]
          refine wpAnyH_take (i := 36) (oi := { dst := some 119, op := Op.move (Operand.tmp 2), type := 9, pos := _, after := #[{ on := 33, ground := Ground.guard }], guard := some (33, true) }) (v := ?_) rfl (by kernel_rfl) (by kernel_rfl) (by kernel_rfl) (fun _ _ _ h => h) (Or.inl ⟨by rfl, ?_⟩) (by assumption) ?_
          rotate_left
          · intro w hSw; (try dsimp only at hSw); go_simp; (try with_reducible rfl)
          try simp only [Act.put, List.setIfInBounds_toArray, List.set_cons_zero, List.set_cons_succ]
          refine wpAnyH_take (i := 38) (oi := { dst := some 121, op := Op.load 30 (Operand.tmp 3), type := 30, pos := _, after := #[{ on := 33, ground := Ground.guard }], guard := some (33, true) }) (v := ?_) rfl (by kernel_rfl) (by kernel_rfl) (by kernel_rfl) (fun _ _ _ h => h) (Or.inl ⟨by rfl, ?_⟩) (by assumption) ?_
          rotate_left
          · intro w hSw; (try dsimp only at hSw); go_simp; (try with_reducible rfl)
          try simp only [Act.put, List.setIfInBounds_toArray, List.set_cons_zero, List.set_cons_succ]
          refine wpAnyH_take (i := 39) (oi := { dst := some 122, op := Op.move (Operand.tmp 1), type := 9, pos := _, after := #[{ on := 33, ground := Ground.guard }], guard := some (33, true) }) (v := ?_) rfl (by kernel_rfl) (by kernel_rfl) (by kernel_rfl) (fun _ _ _ h => h) (Or.inl ⟨by rfl, ?_⟩) (by assumption) ?_
          rotate_left
          · intro w hSw; (try dsimp only at hSw); go_simp; (try with_reducible rfl)
          try simp only [Act.put, List.setIfInBounds_toArray, List.set_cons_zero, List.set_cons_succ]
          refine wpAnyH_take (i := 40) (oi := { dst := some 123, op := Op.move (Operand.tmp 2), type := 9, pos := _, after := #[{ on := 33, ground := Ground.guard }], guard := some (33, true) }) (v := ?_) rfl (by kernel_rfl) (by kernel_rfl) (by kernel_rfl) (fun _ _ _ h => h) (Or.inl ⟨by rfl, ?_⟩) (by assumption) ?_
          rotate_left
          · intro w hSw; (try dsimp only at hSw); go_simp; (try with_reducible rfl)
          try simp only [Act.put, List.setIfInBounds_toArray, List.set_cons_zero, List.set_cons_succ]
          refine wpAnyH_ready (rs := [37]) (by kernel_rfl) (by simp) ?_
          refine AllReadyH.cons (o := { dst := some 120, op := Op.call { callee := Callee.value (Operand.func 15), args := #[Operand.tmp 117, Operand.tmp 118, Operand.tmp 119], argTypes := #[33, 9, 9] }, type := 4, pos := _, after := #[{ on := 34, ground := Ground.data }, { on := 35, ground := Ground.data }, { on := 36, ground := Ground.data }, { on := 33, ground := Ground.chain }, { on := 33, ground := Ground.guard }], guard := some (33, true) }) rfl (fun K hK => ?_) AllReadyH.nil
          go_simp
          go_at_call 15
          (with_reducible refine (CBl.out w29 (HT29.out)).mono ?_)
          rintro e w30 ⟨rfl, t30⟩
          have HT30 := Lib.hid ((HT29.out).trans' t30)
          clear t30
          try go_wp2_with fail
          refine hK.out _ _ ?_ (fun hHeld => ?_)
          · exact HSS.out _ (HT30.out)
          clear hK K
          try simp only [Act.put, List.setIfInBounds_toArray, List.set_cons_zero, List.set_cons_succ]
          refine wpAnyH_ready (rs := [41]) (by kernel_rfl) (by simp) ?_
          refine AllReadyH.cons (o := { dst := some 124, op := Op.call { callee := Callee.value (Operand.func 16), args := #[Operand.tmp 121, Operand.tmp 122, Operand.tmp 123], argTypes := #[30, 9, 9] }, type := 4, pos := _, after := #[{ on := 38, ground := Ground.data }, { on := 39, ground := Ground.data }, { on := 40, ground := Ground.data }, { on := 37, ground := Ground.chain }, { on := 33, ground := Ground.guard }], guard := some (33, true) }) rfl (fun K hK => ?_) AllReadyH.nil
          go_simp
          go_at_call 16
          (with_reducible refine (CRb.out w30 (HT30.out)).mono ?_)
          rintro e w31 ⟨rfl, t31⟩
          have HT31 := Lib.hid ((HT30.out).trans' t31)
          clear t31
          try go_wp2_with fail
          refine hK.out _ _ ?_ (fun hHeld => ?_)
          · exact HSS.out _ (HT31.out)
          clear hK K
          try simp only [Act.put, List.setIfInBounds_toArray, List.set_cons_zero, List.set_cons_succ]
          refine wpAnyH_take (i := 42) (oi := { dst := some 125, op := Op.binOp BinOp.eql 4 (Operand.tmp 120) (Operand.tmp 124) 4, type := 4, pos := _, after := #[{ on := 37, ground := Ground.data }, { on := 41, ground := Ground.data }, { on := 33, ground := Ground.guard }], guard := some (33, true) }) (v := ?_) rfl (by kernel_rfl) (by kernel_rfl) (by kernel_rfl) (fun _ _ _ h => h) (Or.inl ⟨by rfl, ?_⟩) (by assumption) ?_
          rotate_left
          · intro w hSw; (try dsimp only at hSw); go_simp; (try with_reducible rfl)
          try simp only [Act.put, List.setIfInBounds_toArray, List.set_cons_zero, List.set_cons_succ]
          refine wpAnyH_take (i := 43) (oi := { dst := some 126, op := Op.pick (Operand.tmp 116) (Operand.tmp 125) (Operand.const (Value.bool false)), type := 4, pos := _, after := #[{ on := 33, ground := Ground.data }, { on := 42, ground := Ground.data }], guard := none }) (v := ?_) rfl (by kernel_rfl) (by kernel_rfl) (by kernel_rfl) (fun _ _ _ h => h) (Or.inl ⟨by rfl, ?_⟩) (by assumption) ?_
          rotate_left
          · intro w hSw; (try dsimp only at hSw); go_simp; (try with_reducible rfl)
          try simp only [Act.put, List.setIfInBounds_toArray, List.set_cons_zero, List.set_cons_succ]
          refine wpAnyH_take (i := 44) (oi := { dst := some 127, op := Op.move (Operand.tmp 126), type := 4, pos := _, after := #[{ on := 43, ground := Ground.data }, { on := 41, ground := Ground.chain }], guard := none }) (v := ?_) rfl (by kernel_rfl) (by kernel_rfl) (by kernel_rfl) (fun _ _ _ h => h) (Or.inl ⟨by rfl, ?_⟩) (by assumption) ?_
          rotate_left
          · intro w hSw; (try dsimp only at hSw); go_simp; (try with_reducible rfl)
          try simp only [Act.put, List.setIfInBounds_toArray, List.set_cons_zero, List.set_cons_succ]
          refine wpAnyH_take (i := 45) (oi := { dst := some 128, op := Op.move (Operand.tmp 7), type := 33, pos := _, after := #[{ on := 44, ground := Ground.guard }], guard := some (44, true) }) (v := ?_) rfl (by kernel_rfl) (by kernel_rfl) (by kernel_rfl) (fun _ _ _ h => h) (Or.inl ⟨by rfl, ?_⟩) (by assumption) ?_
          rotate_left
          · intro w hSw; (try dsimp only at hSw); go_simp; (try with_reducible rfl)
          try simp only [Act.put, List.setIfInBounds_toArray, List.set_cons_zero, List.set_cons_succ]
          refine wpAnyH_take (i := 46) (oi := { dst := some 129, op := Op.move (Operand.tmp 1), type := 9, pos := _, after := #[{ on := 44, ground := Ground.guard }], guard := some (44, true) }) (v := ?_) rfl (by kernel_rfl) (by kernel_rfl) (by kernel_rfl) (fun _ _ _ h => h) (Or.inl ⟨by rfl, ?_⟩) (by assumption) ?_
          rotate_left
          · intro w hSw; (try dsimp only at hSw); go_simp; (try with_reducible rfl)
          try simp only [Act.put, List.setIfInBounds_toArray, List.set_cons_zero, List.set_cons_succ]
          refine wpAnyH_take (i := 48) (oi := { dst := some 131, op := Op.load 30 (Operand.tmp 3), type := 30, pos := _, after := #[{ on := 44, ground := Ground.guard }], guard := some (44, true) }) (v := ?_) rfl (by kernel_rfl) (by kernel_rfl) (by kernel_rfl) (fun _ _ _ h => h) (Or.inl ⟨by rfl, ?_⟩) (by assumption) ?_
          rotate_left
          · intro w hSw; (try dsimp only at hSw); go_simp; (try with_reducible rfl)
          try simp only [Act.put, List.setIfInBounds_toArray, List.set_cons_zero, List.set_cons_succ]
          refine wpAnyH_take (i := 49) (oi := { dst := some 132, op := Op.move (Operand.tmp 1), type := 9, pos := _, after := #[{ on := 44, ground := Ground.guard }], guard := some (44, true) }) (v := ?_) rfl (by kernel_rfl) (by kernel_rfl) (by kernel_rfl) (fun _ _ _ h => h) (Or.inl ⟨by rfl, ?_⟩) (by assumption) ?_
          rotate_left
          · intro w hSw; (try dsimp only at hSw); go_simp; (try with_reducible rfl)
          try simp only [Act.put, List.setIfInBounds_toArray, List.set_cons_zero, List.set_cons_succ]
          refine wpAnyH_ready (rs := [47]) (by kernel_rfl) (by simp) ?_
          refine AllReadyH.cons (o := { dst := some 130, op := Op.call { callee := Callee.value (Operand.func 18), args := #[Operand.tmp 128, Operand.tmp 129], argTypes := #[33, 9] }, type := 47, pos := _, after := #[{ on := 45, ground := Ground.data }, { on := 46, ground := Ground.data }, { on := 44, ground := Ground.chain }, { on := 44, ground := Ground.guard }], guard := some (44, true) }) rfl (fun K hK => ?_) AllReadyH.nil
          go_simp
          go_at_call 18
          (with_reducible refine (CUn.out w31 (HT31.out)).mono ?_)
          rintro e w32 ⟨U32, rfl, h32, t32⟩
          have HT32 := Lib.hid ((HT31.out).trans' t32)
          have HO32 := Lib.hid h32
          clear t32 h32
          try go_wp2_with fail
          refine hK.out _ _ ?_ (fun hHeld => ?_)
          · exact HSS.out _ (HT32.out)
          clear hK K
          try simp only [Act.put, List.setIfInBounds_toArray, List.set_cons_zero, List.set_cons_succ]
          refine wpAnyH_ready (rs := [50]) (by kernel_rfl) (by simp) ?_
          refine AllReadyH.cons (o := { dst := some 133, op := Op.call { callee := Callee.value (Operand.func 19), args := #[Operand.tmp 131, Operand.tmp 132], argTypes := #[30, 9] }, type := 47, pos := _, after := #[{ on := 48, ground := Ground.data }, { on := 49, ground := Ground.data }, { on := 47, ground := Ground.chain }, { on := 44, ground := Ground.guard }], guard := some (44, true) }) rfl (fun K hK => ?_) AllReadyH.nil
          go_simp
          go_at_call 19
          (with_reducible refine (CRn.out w32 (HT32.out)).mono ?_)
          rintro e w33 ⟨U33, rfl, h33, t33⟩
          have HT33 := Lib.hid ((HT32.out).trans' t33)
          have HO32 := Lib.hid (HO32.out.turn' t33)
          have HO33 := Lib.hid h33
          clear t33 h33
          try go_wp2_with fail
          refine hK.out _ _ ?_ (fun hHeld => ?_)
          · exact HSS.out _ (HT33.out)
          clear hK K
          try simp only [Act.put, List.setIfInBounds_toArray, List.set_cons_zero, List.set_cons_succ]
          refine wpAnyH_ready (rs := [51]) (by kernel_rfl) (by simp) ?_
          refine AllReadyH.cons (o := { dst := some 134, op := Op.call { callee := Callee.value (Operand.func 17), args := #[Operand.tmp 130, Operand.tmp 133], argTypes := #[47, 47] }, type := 4, pos := _, after := #[{ on := 47, ground := Ground.data }, { on := 50, ground := Ground.data }, { on := 50, ground := Ground.chain }, { on := 44, ground := Ground.guard }], guard := some (44, true) }) rfl (fun K hK => ?_) AllReadyH.nil
          go_simp
          obtain ⟨Pa, ca, ea, xa⟩ := HO32.out.txs
          obtain ⟨Pb, cb, eb, xb⟩ := HO33.out.txs
          subst ea
          subst eb
          go_at_call 17
          (with_reducible refine (texts_any w33 Pa Pb _ ca cb (undL l t) xa xb rfl HUL.out).mono ?_)
          rintro e w34 ⟨rfl, t34⟩
          have HT34 := Lib.hid ((HT33.out).trans' t34)
          clear t34
          try go_wp2_with fail
          refine hK.out _ _ ?_ (fun hHeld => ?_)
          · exact HSS.out _ (HT34.out)
          clear hK K
          try simp only [Act.put, List.setIfInBounds_toArray, List.set_cons_zero, List.set_cons_succ]
          refine wpAnyH_take (i := 52) (oi := { dst := some 135, op := Op.pick (Operand.tmp 127) (Operand.tmp 134) (Operand.const (Value.bool false)), type := 4, pos := _, after := #[{ on := 44, ground := Ground.data }, { on := 51, ground := Ground.data }], guard := none }) (v := ?_) rfl (by kernel_rfl) (by kernel_rfl) (by kernel_rfl) (fun _ _ _ h => h) (Or.inl ⟨by rfl, ?_⟩) (by assumption) ?_
          rotate_left
          · intro w hSw; (try dsimp only at hSw); go_simp; (try with_reducible rfl)
          try simp only [Act.put, List.setIfInBounds_toArray, List.set_cons_zero, List.set_cons_succ]
          refine wpAnyH_take (i := 53) (oi := { dst := some 6, op := Op.assign (Operand.tmp 135), type := 4, pos := _, after := #[{ on := 52, ground := Ground.data }, { on := 51, ground := Ground.chain }, { on := 0, ground := Ground.phase }, { on := 1, ground := Ground.phase }, { on := 2, ground := Ground.phase }, { on := 3, ground := Ground.phase }, { on := 4, ground := Ground.phase }, { on := 5, ground := Ground.phase }, { on := 6, ground := Ground.phase }, { on := 7, ground := Ground.phase }, { on := 8, ground := Ground.phase }, { on := 9, ground := Ground.phase }, { on := 10, ground := Ground.phase }, { on := 11, ground := Ground.phase }, { on := 12, ground := Ground.phase }, { on := 13, ground := Ground.phase }, { on := 14, ground := Ground.phase }, { on := 15, ground := Ground.phase }, { on := 16, ground := Ground.phase }, { on := 17, ground := Ground.phase }, { on := 18, ground := Ground.phase }, { on := 19, ground := Ground.phase }, { on := 20, ground := Ground.phase }, { on := 21, ground := Ground.phase }, { on := 22, ground := Ground.phase }, { on := 23, ground := Ground.phase }, { on := 24, ground := Ground.phase }, { on := 25, ground := Ground.phase }, { on := 26, ground := Ground.phase }, { on := 27, ground := Ground.phase }, { on := 28, ground := Ground.phase }, { on := 29, ground := Ground.phase }, { on := 30, ground := Ground.phase }, { on := 31, ground := Ground.phase }, { on := 32, ground := Ground.phase }, { on := 33, ground := Ground.phase }, { on := 34, ground := Ground.phase }, { on := 35, ground := Ground.phase }, { on := 36, ground := Ground.phase }, { on := 37, ground := Ground.phase }, { on := 38, ground := Ground.phase }, { on := 39, ground := Ground.phase }, { on := 40, ground := Ground.phase }, { on := 41, ground := Ground.phase }, { on := 42, ground := Ground.phase }, { on := 43, ground := Ground.phase }, { on := 44, ground := Ground.phase }, { on := 45, ground := Ground.phase }, { on := 46, ground := Ground.phase }, { on := 47, ground := Ground.phase }, { on := 48, ground := Ground.phase }, { on := 49, ground := Ground.phase }, { on := 50, ground := Ground.phase }, { on := 51, ground := Ground.phase }, { on := 52, ground := Ground.phase }], guard := none }) (v := ?_) rfl (by kernel_rfl) (by kernel_rfl) (by kernel_rfl) (fun _ _ _ h => h) (Or.inl ⟨by rfl, ?_⟩) (by assumption) ?_
          rotate_left
          · intro w hSw; (try dsimp only at hSw); go_simp; (try with_reducible rfl)
          try simp only [Act.put, List.setIfInBounds_toArray, List.set_cons_zero, List.set_cons_succ]
          refine wpAnyH_done (by kernel_rfl) ?_ _
          go_wp2_with fail
          go_ret
          exact ⟨rfl, (HT0.out.trans' HTb.out).trans' (HT34.out)⟩
end Go.Proofs.YtbocejiclellfaaGreatDoor
