import Derived.Test.YtnmhcgkccchacaaGreatDoorQ07Mbr
import Derived.Test.YtnmhcgkccchacaaGreatDoorQ05Sig
import Derived.Test.YtnmhcgkccchacaaGreatDoorQ01Mk
import Derived.Deep.DeepCutAuto
import Derived.Deep.RegionLaw
import Derived.BigRegion
import Derived.Deep.RegionWith

/- either. -/
set_option linter.unusedSimpArgs false
set_option linter.unusedVariables false
set_option maxRecDepth 100000
namespace Go.Proofs.YtnmhcgkccchacaaGreatDoor
open Go.RowKit

set_option maxHeartbeats 12800000 in
theorem either_any (en : Nat × Nat) (b : Nat) (s : RS) (w : World) (hP : Pr en w b s) (hd : s.deep = 0) :
    Calls Tryz.prog 50 #[.pointer (some ⟨b, 0, none⟩)] w fun e w' => ∃ cs : List Value, e = .returned (.agg cs.toArray) ∧ RdC (fun g => w.heap.size ≤ g) w' cs (either en s).1 ∧ Pr en w' b (either en s).2 ∧ Turn [b] w w' := by
  have hbl := hP.lt
  obtain ⟨W1, hW1⟩ : ∃ W1, w.alloc (.cells #[.string ⟨#[]⟩, .string ⟨#[]⟩, .bool false, .slice none 0 0, .slice none 0 0, .slice none 0 0, .slice none 0 0, .pointer none, .int .i64 0, .int .i64 0] 69) = W1 := ⟨_, rfl⟩
  obtain ⟨r, hr⟩ : ∃ r, w.heap.size = r := ⟨_, rfl⟩
  have tW1 : Turn [] w W1 := by rw [← hW1]; exact (Turn.refl [] w).alloc _
  have rW1 : W1.heap[r]? = some (.cells #[.string ⟨#[]⟩, .string ⟨#[]⟩, .bool false, .slice none 0 0, .slice none 0 0, .slice none 0 0, .slice none 0 0, .pointer none, .int .i64 0, .int .i64 0] 69 (0, 0)) := by rw [← hW1, ← hr]; exact heap_alloc_new w _
  have sW1 : W1.heap.size = r + 1 := by rw [← hW1, ← hr]; simp
  have HW1 := Lib.hid hW1
  have HSE := Lib.hid (seesN_any en b s kFace W1 (r + 1) sW1 _ rfl (hP.up tW1))
  have HP1 := Lib.hid (hP.up tW1)
  have HT0 := Lib.hid tW1
  have HRW := Lib.hid rW1
  have HDD := Lib.hid hd
  clear hW1 tW1 rW1 hP hd
  go_enter Tryz.func50, Tryz.ntmps50
  go_upto_region 1 with (fail)
  rw [HW1.out]
  go_wp2_with fail
  refine HSE.out.mono ?_
  rintro e2 w2 ⟨rfl, t2⟩
  have HTB : Hid (Turn [b] W1 w2) := Lib.hid (t2.more (by simp))
  have HP2 := Lib.hid (HP1.out.up t2)
  have hsz12 := t2.size
  clear t2
  cases hq : sees kFace s with
  | true =>
    have HQ := Lib.hid hq
    clear hq
    have HF := Lib.hid (face_any en b s w2 HP2.out)
    go_wp2_with fail
    refine HF.out.mono ?_
    rintro e3 w3 ⟨cs, rfl, hr3, h3, t3⟩
    obtain ⟨x, hx⟩ : ∃ q, (face en s).1 = q := ⟨_, rfl⟩
    rw [hx] at hr3
    have EF : either en s = face en s := by
      unfold either
      rw [HQ.out]
      rfl
    have HX := Lib.hid hx
    have HEF := Lib.hid EF
    obtain ⟨xnm, xsup, xface, xfs, xfd, xsc, xms, xini, xln, xcl⟩ := x
    obtain ⟨V1, V2, V3, V4, V5, ecs, k1, k2, k3, k4, k5⟩ := id hr3
    simp only at ecs
    subst ecs
    obtain ⟨P1, q1, rfl, _, _⟩ := k1
    obtain ⟨P2, q2, rfl, _, _⟩ := k2
    obtain ⟨P3, q3, rfl, _, _⟩ := k3
    obtain ⟨P4, q4, rfl, _, _⟩ := k4
    have hV5 : ∃ A, V5 = .pointer A := by
      cases hxi : xini with
      | none => simp only [hxi] at k5; exact ⟨_, k5⟩
      | some m => simp only [hxi] at k5; obtain ⟨g, cs, e, _⟩ := k5; exact ⟨_, e⟩
    obtain ⟨A5, rfl⟩ := hV5
    have tb := HTB.out.trans t3 (fun g hg => .inl hg)
    have hrw := tb.heap HRW.out (by simp; omega)
    have zz0 : w3.cell? ⟨r, 0, none⟩ = some (.string ⟨#[]⟩) := cell_of_row w3 r 0 _ _ _ hrw
    have zf0 : w3.frozen? ⟨r, 0, none⟩ = false := frozen_of_row w3 r 0 _ _ hrw
    have zz1 : w3.cell? ⟨r, 1, none⟩ = some (.string ⟨#[]⟩) := cell_of_row w3 r 1 _ _ _ hrw
    have zf1 : w3.frozen? ⟨r, 1, none⟩ = false := frozen_of_row w3 r 1 _ _ hrw
    have zz2 : w3.cell? ⟨r, 2, none⟩ = some (.bool false) := cell_of_row w3 r 2 _ _ _ hrw
    have zf2 : w3.frozen? ⟨r, 2, none⟩ = false := frozen_of_row w3 r 2 _ _ hrw
    have zz3 : w3.cell? ⟨r, 3, none⟩ = some (.slice none 0 0) := cell_of_row w3 r 3 _ _ _ hrw
    have zf3 : w3.frozen? ⟨r, 3, none⟩ = false := frozen_of_row w3 r 3 _ _ hrw
    have zz4 : w3.cell? ⟨r, 4, none⟩ = some (.slice none 0 0) := cell_of_row w3 r 4 _ _ _ hrw
    have zf4 : w3.frozen? ⟨r, 4, none⟩ = false := frozen_of_row w3 r 4 _ _ hrw
    have zz5 : w3.cell? ⟨r, 5, none⟩ = some (.slice none 0 0) := cell_of_row w3 r 5 _ _ _ hrw
    have zf5 : w3.frozen? ⟨r, 5, none⟩ = false := frozen_of_row w3 r 5 _ _ hrw
    have zz6 : w3.cell? ⟨r, 6, none⟩ = some (.slice none 0 0) := cell_of_row w3 r 6 _ _ _ hrw
    have zf6 : w3.frozen? ⟨r, 6, none⟩ = false := frozen_of_row w3 r 6 _ _ hrw
    have zz7 : w3.cell? ⟨r, 7, none⟩ = some (.pointer none) := cell_of_row w3 r 7 _ _ _ hrw
    have zf7 : w3.frozen? ⟨r, 7, none⟩ = false := frozen_of_row w3 r 7 _ _ hrw
    have zz8 : w3.cell? ⟨r, 8, none⟩ = some (.int .i64 0) := cell_of_row w3 r 8 _ _ _ hrw
    have zf8 : w3.frozen? ⟨r, 8, none⟩ = false := frozen_of_row w3 r 8 _ _ hrw
    have zz9 : w3.cell? ⟨r, 9, none⟩ = some (.int .i64 0) := cell_of_row w3 r 9 _ _ _ hrw
    have zf9 : w3.frozen? ⟨r, 9, none⟩ = false := frozen_of_row w3 r 9 _ _ hrw
    have HRD := Lib.hid hr3
    have HP3 := Lib.hid h3
    have HTT := Lib.hid tb
    have hsz2 := HTB.out.size
    clear hrw hr3 h3 t3 tb hx EF k5
    go_wp2_with fail
    refine bodyPost_ret (v := .agg #[.string xnm, .string xsup, .bool xface, .slice P1 xfs.length q1, .slice P2 xfd.length q2, .slice P3 xsc.length q3, .slice P4 xms.length q4, .pointer A5, .int .i64 xln, .int .i64 xcl]) (by simp [results, Tryz.results50, go_sem, zz0, zz1, zz2, zz3, zz4, zz5, zz6, zz7, zz8, zz9]) rfl ?_
    rw [HEF.out, HX.out]
    have key : ∀ W', Turn [r] w3 W' → ∃ cs : List Value, Ending.returned (.agg #[.string xnm, .string xsup, .bool xface, .slice P1 xfs.length q1, .slice P2 xfd.length q2, .slice P3 xsc.length q3, .slice P4 xms.length q4, .pointer A5, .int .i64 xln, .int .i64 xcl]) = Ending.returned (.agg cs.toArray) ∧ RdC (fun g => w.heap.size ≤ g) W' cs ⟨xnm, xsup, xface, xfs, xfd, xsc, xms, xini, xln, xcl⟩ ∧ Pr en W' b (face en s).2 ∧ Turn [b] w W' := fun W' tE =>
      ⟨[.string xnm, .string xsup, .bool xface, .slice P1 xfs.length q1, .slice P2 xfd.length q2, .slice P3 xsc.length q3, .slice P4 xms.length q4, .pointer A5, .int .i64 xln, .int .i64 xcl], rfl, goodC.mono (goodC.turn HRD.out tE (fun g hg h => by simp at hg; have h2 : w2.heap.size ≤ g := h; omega)) (fun g hg _ => by have h2 : w2.heap.size ≤ g := hg; omega), HP3.out.turn tE (by simp; omega), ((HT0.out.more (by simp)).trans HTT.out (fun g hg => .inl hg)).trans tE (fun g hg => by simp at hg; omega)⟩
    exact key _ (((((((((((Turn.refl [r] w3).setCell (.inl (by simp)) _).setCell (.inl (by simp)) _).setCell (.inl (by simp)) _).setCell (.inl (by simp)) _).setCell (.inl (by simp)) _).setCell (.inl (by simp)) _).setCell (.inl (by simp)) _).setCell (.inl (by simp)) _).setCell (.inl (by simp)) _).setCell (.inl (by simp)) _)
  | false =>
    have HQ := Lib.hid hq
    clear hq
    have HF := Lib.hid (class_any en b s w2 HP2.out HDD.out)
    go_wp2_with fail
    refine HF.out.mono ?_
    rintro e3 w3 ⟨cs, rfl, hr3, h3, t3⟩
    obtain ⟨x, hx⟩ : ∃ q, (class' en s).1 = q := ⟨_, rfl⟩
    rw [hx] at hr3
    have EF : either en s = class' en s := by
      unfold either
      rw [HQ.out]
      rfl
    have HX := Lib.hid hx
    have HEF := Lib.hid EF
    obtain ⟨xnm, xsup, xface, xfs, xfd, xsc, xms, xini, xln, xcl⟩ := x
    obtain ⟨V1, V2, V3, V4, V5, ecs, k1, k2, k3, k4, k5⟩ := id hr3
    simp only at ecs
    subst ecs
    obtain ⟨P1, q1, rfl, _, _⟩ := k1
    obtain ⟨P2, q2, rfl, _, _⟩ := k2
    obtain ⟨P3, q3, rfl, _, _⟩ := k3
    obtain ⟨P4, q4, rfl, _, _⟩ := k4
    have hV5 : ∃ A, V5 = .pointer A := by
      cases hxi : xini with
      | none => simp only [hxi] at k5; exact ⟨_, k5⟩
      | some m => simp only [hxi] at k5; obtain ⟨g, cs, e, _⟩ := k5; exact ⟨_, e⟩
    obtain ⟨A5, rfl⟩ := hV5
    have tb := HTB.out.trans t3 (fun g hg => .inl hg)
    have hrw := tb.heap HRW.out (by simp; omega)
    have zz0 : w3.cell? ⟨r, 0, none⟩ = some (.string ⟨#[]⟩) := cell_of_row w3 r 0 _ _ _ hrw
    have zf0 : w3.frozen? ⟨r, 0, none⟩ = false := frozen_of_row w3 r 0 _ _ hrw
    have zz1 : w3.cell? ⟨r, 1, none⟩ = some (.string ⟨#[]⟩) := cell_of_row w3 r 1 _ _ _ hrw
    have zf1 : w3.frozen? ⟨r, 1, none⟩ = false := frozen_of_row w3 r 1 _ _ hrw
    have zz2 : w3.cell? ⟨r, 2, none⟩ = some (.bool false) := cell_of_row w3 r 2 _ _ _ hrw
    have zf2 : w3.frozen? ⟨r, 2, none⟩ = false := frozen_of_row w3 r 2 _ _ hrw
    have zz3 : w3.cell? ⟨r, 3, none⟩ = some (.slice none 0 0) := cell_of_row w3 r 3 _ _ _ hrw
    have zf3 : w3.frozen? ⟨r, 3, none⟩ = false := frozen_of_row w3 r 3 _ _ hrw
    have zz4 : w3.cell? ⟨r, 4, none⟩ = some (.slice none 0 0) := cell_of_row w3 r 4 _ _ _ hrw
    have zf4 : w3.frozen? ⟨r, 4, none⟩ = false := frozen_of_row w3 r 4 _ _ hrw
    have zz5 : w3.cell? ⟨r, 5, none⟩ = some (.slice none 0 0) := cell_of_row w3 r 5 _ _ _ hrw
    have zf5 : w3.frozen? ⟨r, 5, none⟩ = false := frozen_of_row w3 r 5 _ _ hrw
    have zz6 : w3.cell? ⟨r, 6, none⟩ = some (.slice none 0 0) := cell_of_row w3 r 6 _ _ _ hrw
    have zf6 : w3.frozen? ⟨r, 6, none⟩ = false := frozen_of_row w3 r 6 _ _ hrw
    have zz7 : w3.cell? ⟨r, 7, none⟩ = some (.pointer none) := cell_of_row w3 r 7 _ _ _ hrw
    have zf7 : w3.frozen? ⟨r, 7, none⟩ = false := frozen_of_row w3 r 7 _ _ hrw
    have zz8 : w3.cell? ⟨r, 8, none⟩ = some (.int .i64 0) := cell_of_row w3 r 8 _ _ _ hrw
    have zf8 : w3.frozen? ⟨r, 8, none⟩ = false := frozen_of_row w3 r 8 _ _ hrw
    have zz9 : w3.cell? ⟨r, 9, none⟩ = some (.int .i64 0) := cell_of_row w3 r 9 _ _ _ hrw
    have zf9 : w3.frozen? ⟨r, 9, none⟩ = false := frozen_of_row w3 r 9 _ _ hrw
    have HRD := Lib.hid hr3
    have HP3 := Lib.hid h3
    have HTT := Lib.hid tb
    have hsz2 := HTB.out.size
    clear hrw hr3 h3 t3 tb hx EF k5
    go_wp2_with fail
    refine bodyPost_ret (v := .agg #[.string xnm, .string xsup, .bool xface, .slice P1 xfs.length q1, .slice P2 xfd.length q2, .slice P3 xsc.length q3, .slice P4 xms.length q4, .pointer A5, .int .i64 xln, .int .i64 xcl]) (by simp [results, Tryz.results50, go_sem, zz0, zz1, zz2, zz3, zz4, zz5, zz6, zz7, zz8, zz9]) rfl ?_
    rw [HEF.out, HX.out]
    have key : ∀ W', Turn [r] w3 W' → ∃ cs : List Value, Ending.returned (.agg #[.string xnm, .string xsup, .bool xface, .slice P1 xfs.length q1, .slice P2 xfd.length q2, .slice P3 xsc.length q3, .slice P4 xms.length q4, .pointer A5, .int .i64 xln, .int .i64 xcl]) = Ending.returned (.agg cs.toArray) ∧ RdC (fun g => w.heap.size ≤ g) W' cs ⟨xnm, xsup, xface, xfs, xfd, xsc, xms, xini, xln, xcl⟩ ∧ Pr en W' b (class' en s).2 ∧ Turn [b] w W' := fun W' tE =>
      ⟨[.string xnm, .string xsup, .bool xface, .slice P1 xfs.length q1, .slice P2 xfd.length q2, .slice P3 xsc.length q3, .slice P4 xms.length q4, .pointer A5, .int .i64 xln, .int .i64 xcl], rfl, goodC.mono (goodC.turn HRD.out tE (fun g hg h => by simp at hg; have h2 : w2.heap.size ≤ g := h; omega)) (fun g hg _ => by have h2 : w2.heap.size ≤ g := hg; omega), HP3.out.turn tE (by simp; omega), ((HT0.out.more (by simp)).trans HTT.out (fun g hg => .inl hg)).trans tE (fun g hg => by simp at hg; omega)⟩
    exact key _ (((((((((((Turn.refl [r] w3).setCell (.inl (by simp)) _).setCell (.inl (by simp)) _).setCell (.inl (by simp)) _).setCell (.inl (by simp)) _).setCell (.inl (by simp)) _).setCell (.inl (by simp)) _).setCell (.inl (by simp)) _).setCell (.inl (by simp)) _).setCell (.inl (by simp)) _).setCell (.inl (by simp)) _)
end Go.Proofs.YtnmhcgkccchacaaGreatDoor

/- many, of classes. -/
set_option linter.unusedSimpArgs false
set_option linter.unusedVariables false
set_option maxRecDepth 100000
namespace Go.Proofs.YtnmhcgkccchacaaGreatDoor
open Go.RowKit
theorem class_info : (Tryz.prog.info? 69).map (fun i => (i.zero, i.size, i.bytes)) = some (some (.agg #[.string ⟨#[]⟩, .string ⟨#[]⟩, .bool false, .slice none 0 0, .slice none 0 0, .slice none 0 0, .slice none 0 0, .pointer none, .int .i64 0, .int .i64 0]), 10, 160) := by kernel_rfl

set_option maxHeartbeats 6400000 in
theorem manyC_any (en : Nat × Nat) (b : Nat) (s : RS) (g1 g2 : Nat) (w : World) (hP : Pr en w b s) (hB : Bgn w b g1 g2 [kClass, kFace]) (hd0 : s.deep = 0) :
    Calls Tryz.prog 48 #[.pointer (some ⟨b, 0, none⟩), .int .i64 60, .func (.func 81) #[] #[.pointer (some ⟨g1, 0, none⟩), .pointer (some ⟨g2, 0, none⟩)], .func (.func 50) #[.pointer (some ⟨b, 0, none⟩)] #[]] w fun e w' =>
      ∃ V, e = .returned V ∧ RdV 10 RdC (fun g => w.heap.size ≤ g) w' V (many (seesAny [kClass, kFace]) (either en) 60 (s.l.length + 1) [] s).1 ∧ Pr en w' b (many (seesAny [kClass, kFace]) (either en) 60 (s.l.length + 1) [] s).2 ∧ Turn [b] w w' := by
  have HP0 := Lib.hid hP
  have hl := hP.len
  have hbl := hP.lt
  have hgt := hP.gt
  obtain ⟨R, hR⟩ : ∃ R, many (seesAny [kClass, kFace]) (either en) 60 (s.l.length + 1) [] s = R := ⟨_, rfl⟩
  rw [hR]
  have HR0 := Lib.hid hR
  have HB := Lib.hid hB
  have HDZ := Lib.hid hd0
  clear hB hd0
  clear hP hR
  go_enter Tryz.func48, Tryz.ntmps48
  go_wp2_with fail
  go_loopw [9] (fun v wr => ∃ (acc : List Cf) (s1 : RS), Hid (OwnL 69 10 RdC (fun g => w.heap.size ≤ g) wr v acc) ∧ Hid (Pr en wr b s1) ∧ Hid (Turn [b] w wr) ∧ Hid (s1.deep = s.deep) ∧ MRel (many (seesAny [kClass, kFace]) (either en) 60) acc s1 R) (fun v wr => lenAt wr b)
  case atStart => exact ⟨[], s, Lib.hid (OwnL.nil _ _ _), Lib.hid HP0.out, Lib.hid (Turn.refl _ _), Lib.hid rfl, ⟨by simpa using hl, s.l.length + 1, by omega, HR0.out⟩⟩
  case round =>
    obtain ⟨acc, s1, HO, HP, HT, HD, HR⟩ := hrel
    obtain ⟨A0, c0, rfl, hc0⟩ := HO.out.form
    obtain ⟨hle, n, hn, hmany⟩ := HR
    obtain ⟨m, rfl⟩ : ∃ m, n = m + 1 := ⟨n - 1, by omega⟩
    unfold many at hmany
    have HM := Lib.hid hmany
    clear hmany
    have HBG := Lib.hid (begins1_any en b g1 g2 [kClass, kFace] s1 wr HP.out (HB.out.turn HT.out (by simp)) (by simp))
    go_wp2_with fail
    refine HBG.out.mono ?_
    rintro e1 w1 ⟨rfl, t1⟩
    have HP1 := Lib.hid (HP.out.up t1)
    have HO1 := Lib.hid (HO.out.turn goodC t1 (by simp))
    have HT1 := Lib.hid (HT.out.trans' t1)
    clear t1 HBG
    cases hq : (seesAny [kClass, kFace]) s1 with
    | false =>
      have HQ := Lib.hid hq
      clear hq
      go_wp2_with fail
      go_ret
      have e1 := HM.out
      rw [HQ.out] at e1
      simp only [Bool.false_eq_true, if_false] at e1
      subst e1
      exact ⟨.slice A0 acc.length c0, rfl, HO1.out.rdv goodC, HP1.out, HT1.out⟩
    | true =>
      have HQ := Lib.hid hq
      have hne : s1.l ≠ [] := seesAny_ne hq
      clear hq
      have hm := HM.out
      rw [HQ.out] at hm
      simp only [if_true] at hm
      have HMM := Lib.hid hm
      clear hm
      go_wp2_with fail
      refine (room_any en b acc.length 60 s1 w1 HP1.out).mono ?_
      rintro e2 w2 ⟨rfl, h2, t2⟩
      have HP2 := Lib.hid h2
      have HO2 := Lib.hid (HO1.out.turn goodC t2 (by simp; omega))
      have HT2 := Lib.hid (HT1.out.trans t2 (fun g hg => .inl hg))
      obtain ⟨s2, es2⟩ : ∃ q, room (decide (60 ≤ acc.length)) s1 = q := ⟨_, rfl⟩
      rw [es2] at HP2
      have hl2 : s2.l = s1.l := by rw [← es2]; rfl
      have hd2 : s2.deep = s1.deep := by rw [← es2]; rfl
      have hne2 : s2.l ≠ [] := by rw [hl2]; exact hne
      have hlt2 : Lt s2 ((either en) s2).2 := either_lt hne2
      have HES2 := Lib.hid es2
      have HD2 := Lib.hid hd2
      have HL2 := Lib.hid (congrArg List.length hl2)
      clear h2 t2 es2 hl2 hd2 hne
      go_wp2_with fail
      refine (either_any en b s2 w2 HP2.out (by rw [HD2.out, HD.out, HDZ.out])).mono ?_
      rintro e3 w3 ⟨cs, rfl, hr3, h3, t3⟩
      have HP3 := Lib.hid h3
      have HO3 := Lib.hid (HO2.out.turn goodC t3 (by simp; omega))
      have HT3 := Lib.hid (HT2.out.trans t3 (fun g hg => .inl hg))
      obtain ⟨x3, ex3⟩ : ∃ q, ((either en) s2).1 = q := ⟨_, rfl⟩
      obtain ⟨s3, es3⟩ : ∃ q, ((either en) s2).2 = q := ⟨_, rfl⟩
      rw [es3] at HP3 hlt2
      rw [ex3] at hr3
      have HLT := Lib.hid hlt2
      have HEX3 := Lib.hid ex3
      have HES3 := Lib.hid es3
      have hsz3 : w.heap.size ≤ w3.heap.size := HT3.out.size
      have hsz2 : w.heap.size ≤ w2.heap.size := HT2.out.size
      clear h3 t3 ex3 es3 hlt2 hne2
      obtain ⟨xnm, xsup, xface, xfs, xfd, xsc, xms, xini, xln, xcl⟩ := x3
      obtain ⟨V1, V2, V3, V4, V5, ecs, k1, k2, k3, k4, k5⟩ := id hr3
      simp only at ecs
      subst ecs
      obtain ⟨P1, q1, rfl, _, _⟩ := k1
      obtain ⟨P2, q2, rfl, _, _⟩ := k2
      obtain ⟨P3, q3, rfl, _, _⟩ := k3
      obtain ⟨P4, q4, rfl, _, _⟩ := k4
      have hV5 : ∃ A, V5 = .pointer A := by
        cases hxi : xini with
        | none => simp only [hxi] at k5; exact ⟨_, k5⟩
        | some m => simp only [hxi] at k5; obtain ⟨g, cs, e, _⟩ := k5; exact ⟨_, e⟩
      obtain ⟨A5, rfl⟩ := hV5
      have HR3 := Lib.hid (goodC.mono hr3 (B := fun g => w.heap.size ≤ g ∧ (Value.slice A0 acc.length c0).ownBlock ≠ some g) (fun g hg _ => ⟨Nat.le_trans hsz2 hg, fun e => by have := (HO2.out.lt e).1; omega⟩))
      clear hr3
      go_wp2_with (refine wpList_appL rfl (.tmp 17) (.tmp 20) 23 rfl w3 69 10 160 _ RdC goodC (fun g => w.heap.size ≤ g) Tryz.underlying23 class_info rfl (by omega) (by omega) (.slice A0 acc.length c0) acc rfl HO3.out _ [.string xnm, .string xsup, .bool xface, .slice P1 xfs.length q1, .slice P2 xfd.length q2, .slice P3 xsc.length q3, .slice P4 xms.length q4, .pointer A5, .int .i64 xln, .int .i64 xcl] ⟨xnm, xsup, xface, xfs, xfd, xsc, xms, xini, xln, xcl⟩ _ rfl HR3.out rfl (by omega) (by show w.heap.size ≤ w3.heap.size + 1; omega) ?_)
      intro v4 w4 ho4 t4 hb4
      have hvb : ∀ g, (Value.slice A0 acc.length c0).ownBlock = some g → w.heap.size ≤ g := fun g hg => (HO3.out.lt hg).2
      have HP4 := Lib.hid (HP3.out.turn t4 (fun g hg => by have := hvb g (by simpa using hg); omega))
      have HO4 := Lib.hid ho4
      have HT4 := Lib.hid (HT3.out.trans t4 (fun g hg => .inr (hvb g (by simpa using hg))))
      clear ho4 t4 hb4 hvb
      go_wp2_with fail
      go_roundw
      case rel =>
        have h1 := HLT.out
        have h1b := h1.2
        have h2 := HL2.out
        refine ⟨acc ++ [⟨xnm, xsup, xface, xfs, xfd, xsc, xms, xini, xln, xcl⟩], s3, HO4, HP4, HT4, Lib.hid (by rw [h1.1, HD2.out, HD.out]), ⟨by simp; omega, m, by omega, ?_⟩⟩
        have := HMM.out
        rw [HES2.out, HES3.out, HEX3.out] at this
        exact this
      case measure =>
        rw [HP4.out.lenAt, HP.out.lenAt]
        have h1 := HLT.out.2
        have h2 := HL2.out
        omega
end Go.Proofs.YtnmhcgkccchacaaGreatDoor

/- program. Printed by mkprg.py. -/
set_option linter.unusedSimpArgs false
set_option linter.unusedVariables false
set_option maxRecDepth 100000
namespace Go.Proofs.YtnmhcgkccchacaaGreatDoor
open Go.RowKit

/-- Cells that read as a program. -/
def RdG (A : Nat → Prop) (w : World) (cs : List Value) (g : Gf) : Prop := ∃ V mc, cs = V :: mc ∧ RdV 10 RdC A w V g.cs ∧ RdM A w mc g.main
theorem RdG.turn {A : Nat → Prop} {w w' : World} {F : List Nat} {cs : List Value} {g : Gf} (h : RdG A w cs g) (t : Turn F w w') (hF : ∀ g ∈ F, ¬ A g) : RdG A w' cs g := by
  obtain ⟨V, mc, e, h1, h2⟩ := h
  exact ⟨V, mc, e, h1.turn goodC t hF, goodM.turn h2 t hF⟩
theorem RdG.mono {A B : Nat → Prop} {w : World} {cs : List Value} {g : Gf} (h : RdG A w cs g) (hB : ∀ g, A g → g < w.heap.size → B g) : RdG B w cs g := by
  obtain ⟨V, mc, e, h1, h2⟩ := h
  exact ⟨V, mc, e, h1.mono goodC hB, goodM.mono h2 hB⟩

set_option maxHeartbeats 12800000 in
theorem program_any (en : Nat × Nat) (b : Nat) (s : RS) (w : World) (hP : Pr en w b s) (hd : s.deep = 0) :
    Calls Tryz.prog 23 #[.pointer (some ⟨b, 0, none⟩)] w fun e w' => ∃ cs : List Value, e = .returned (.agg cs.toArray) ∧ RdG (fun g => w.heap.size ≤ g) w' cs (program en s).1 ∧ Pr en w' b (program en s).2 ∧ Turn [b] w w' := by
  have hmf := mf
  have hbl := hP.lt
  obtain ⟨W2, hW2⟩ : ∃ W, (w.alloc (.cells #[.slice none 0 0, .string ⟨#[]⟩, .string ⟨#[]⟩, .bool false, .bool false, .slice none 0 0, .slice none 0 0, .slice none 0 0, .int .i64 0, .int .i64 0] 31)).alloc (.cells #[.slice none 0 0, .string ⟨#[]⟩, .string ⟨#[]⟩, .bool false, .bool false, .slice none 0 0, .slice none 0 0, .slice none 0 0, .int .i64 0, .int .i64 0] 31) = W := ⟨_, rfl⟩
  obtain ⟨r, hr⟩ : ∃ r, w.heap.size = r := ⟨_, rfl⟩
  obtain ⟨vb, hvb⟩ : ∃ v, r + 1 = v := ⟨_, rfl⟩
  have tW2 : Turn [] w W2 := by rw [← hW2]; exact ((Turn.refl [] w).alloc _).alloc _
  have rW2 : W2.heap[r]? = some (.cells #[.slice none 0 0, .string ⟨#[]⟩, .string ⟨#[]⟩, .bool false, .bool false, .slice none 0 0, .slice none 0 0, .slice none 0 0, .int .i64 0, .int .i64 0] 31 (0, 0)) := by rw [← hW2, ← hr]; exact ((Turn.refl [] _).alloc _).heap (heap_alloc_new w _) (by simp)
  have vW2 : W2.heap[vb]? = some (.cells #[.slice none 0 0, .string ⟨#[]⟩, .string ⟨#[]⟩, .bool false, .bool false, .slice none 0 0, .slice none 0 0, .slice none 0 0, .int .i64 0, .int .i64 0] 31 (0, 0)) := by
    rw [← hW2, ← hvb, ← hr]
    have := heap_alloc_new (w.alloc (.cells #[.slice none 0 0, .string ⟨#[]⟩, .string ⟨#[]⟩, .bool false, .bool false, .slice none 0 0, .slice none 0 0, .slice none 0 0, .int .i64 0, .int .i64 0] 31)) (.cells #[.slice none 0 0, .string ⟨#[]⟩, .string ⟨#[]⟩, .bool false, .bool false, .slice none 0 0, .slice none 0 0, .slice none 0 0, .int .i64 0, .int .i64 0] 31)
    rwa [World.size_alloc] at this
  have sW2 : W2.heap.size = vb + 1 := by rw [← hW2, ← hvb, ← hr]; simp
  have hP2 := hP.up tW2
  have hbeg := begins_any b [kClass, kFace] (W2.alloc (.cells #[.string ⟨#[99, 108, 97, 115, 115]⟩, .string ⟨#[105, 110, 116, 101, 114, 102, 97, 99, 101]⟩] 9)) (some ⟨vb + 1, 0, none⟩) 1 (by simp; omega) (by have := sts_new W2 [kClass, kFace] #[.string ⟨#[99, 108, 97, 115, 115]⟩, .string ⟨#[105, 110, 116, 101, 114, 102, 97, 99, 101]⟩] rfl; rw [sW2] at this; exact this) (fun g off e => by injection e with e; injection e with e; subst e; exact ⟨by omega, by simp; omega⟩)
  have HW2 := Lib.hid hW2
  have HP2 := Lib.hid hP2
  have HT2 := Lib.hid tW2
  have HRW := Lib.hid rW2
  have HVW := Lib.hid vW2
  have HDD := Lib.hid hd
  obtain ⟨x, hx⟩ : ∃ q, (many (seesAny [kClass, kFace]) (either en) 60 (s.l.length + 1) [] s).1 = q := ⟨_, rfl⟩
  obtain ⟨s1, hs1⟩ : ∃ q, (many (seesAny [kClass, kFace]) (either en) 60 (s.l.length + 1) [] s).2 = q := ⟨_, rfl⟩
  have hd1 : s1.deep = 0 := by rw [← hs1, (many_le (fun s => either_le (Le.refl s)) 60 _ [] (Le.refl s)).1, hd]
  obtain ⟨y, hy⟩ : ∃ q, (routine en kMain s1).1 = q := ⟨_, rfl⟩
  obtain ⟨s2, hs2⟩ : ∃ q, (routine en kMain s1).2 = q := ⟨_, rfl⟩
  have hEF : program en s = (⟨x, y⟩, s2) := by
    unfold program
    simp only [hx, hs1, hy, hs2]
  rw [hEF]
  have HX := Lib.hid (And.intro hx hs1)
  have HY := Lib.hid (And.intro hy hs2)
  have HD1 := Lib.hid hd1
  have hbegS : ∀ c, Calls Tryz.prog 49 #[.pointer (some ⟨b, 0, none⟩), .slice (some ⟨vb + 1, 0, none⟩) 2 c] (W2.alloc (.cells #[.string ⟨#[99, 108, 97, 115, 115]⟩, .string ⟨#[105, 110, 116, 101, 114, 102, 97, 99, 101]⟩] 9)) fun e w' => ∃ g1 g2, e = .returned (.func (.func 81) #[] #[.pointer (some ⟨g1, 0, none⟩), .pointer (some ⟨g2, 0, none⟩)]) ∧ Bgn w' b g1 g2 [kClass, kFace] ∧ Turn [] (W2.alloc (.cells #[.string ⟨#[99, 108, 97, 115, 115]⟩, .string ⟨#[105, 110, 116, 101, 114, 102, 97, 99, 101]⟩] 9)) w' := fun c =>
    begins_any b [kClass, kFace] (W2.alloc (.cells #[.string ⟨#[99, 108, 97, 115, 115]⟩, .string ⟨#[105, 110, 116, 101, 114, 102, 97, 99, 101]⟩] 9)) (some ⟨vb + 1, 0, none⟩) c (by simp; omega) (by have := sts_new W2 [kClass, kFace] #[.string ⟨#[99, 108, 97, 115, 115]⟩, .string ⟨#[105, 110, 116, 101, 114, 102, 97, 99, 101]⟩] rfl; rw [sW2] at this; exact this) (fun g off e => by injection e with e; injection e with e; subst e; exact ⟨by omega, by simp; omega⟩)
  have HBG := Lib.hid hbegS
  clear hW2 tW2 rW2 vW2 hP2 hP hbeg hbegS hx hs1 hy hs2 hEF hd hd1
  go_enter Tryz.func23, Tryz.ntmps23
  go_upto_region 2 with (fail)
  rw [HW2.out]
  go_wp2_with fail
  refine (HBG.out _).mono ?_
  rintro e3 w3 ⟨g1, g2, rfl, hb3, t3⟩
  have tW3 : Turn [] W2 w3 := ((Turn.refl [] W2).alloc _).trans' t3
  have HM := Lib.hid (manyC_any en b s g1 g2 w3 (HP2.out.up tW3) hb3 HDD.out)
  have HT3 := Lib.hid tW3
  clear hb3 t3 tW3
  go_wp2_with fail
  refine HM.out.mono ?_
  rintro e4 w4 ⟨V, rfl, hv4, h4, t4⟩
  rw [HX.out.1] at hv4
  rw [HX.out.2] at h4
  obtain ⟨Pc, qc, rfl, _, _⟩ := id hv4
  have tB4 : Turn [b] W2 w4 := (HT3.out.more (by simp)).trans t4 (fun g hg => .inl hg)
  have hsz3 := HT3.out.size
  have hv4' := hv4.mono (B := fun g => vb < g) goodC (fun g hg _ => by omega)
  have hrow4 := tB4.heap HVW.out (by simp; omega)
  have j0 : w4.cell? ⟨vb, 0, none⟩ = some (.slice none 0 0) := cell_of_row w4 vb 0 _ _ _ hrow4
  have jf0 : w4.frozen? ⟨vb, 0, none⟩ = false := frozen_of_row w4 vb 0 _ _ hrow4
  obtain ⟨W5, hW5⟩ : ∃ W, w4.setCell ⟨vb, 0, none⟩ (.slice Pc x.length qc) = W := ⟨_, rfl⟩
  have t5 : Turn [vb] w4 W5 := by rw [← hW5]; exact (Turn.refl [vb] w4).setCell (.inl (by simp)) _
  have hrow5 : W5.heap[vb]? = some (.cells #[.slice Pc x.length qc, .string ⟨#[]⟩, .string ⟨#[]⟩, .bool false, .bool false, .slice none 0 0, .slice none 0 0, .slice none 0 0, .int .i64 0, .int .i64 0] 31 (0, 0)) := by rw [← hW5]; exact rset hrow4 rfl
  have HV5 := Lib.hid (hv4'.turn goodC t5 (by simp))
  have HP5 := Lib.hid (h4.turn t5 (by simp; omega))
  have HT5 : Hid (Turn [b, vb] W2 W5) := Lib.hid ((tB4.more (by simp)).trans t5 (by simp))
  have HROW5 := Lib.hid hrow5
  have HRT := Lib.hid (routine_any en b s1 kMain ⟨#[109, 97, 105, 110]⟩ rfl W5 HP5.out HD1.out)
  have HW5 := Lib.hid hW5
  clear hW5 t5 hrow5 hrow4 hv4 hv4' h4 t4 tB4 HM
  go_upto_region 3 with (fail)
  rw [HW5.out]
  go_wp2_with fail
  refine HRT.out.mono ?_
  rintro e6 w6 ⟨cs, rfl, hr6, h6, t6⟩
  rw [HY.out.1] at hr6
  rw [HY.out.2] at h6
  obtain ⟨mr, mn, mst, mb, mps, mls, mbd, mln, mcl⟩ := y
  obtain ⟨Y1, Y2, Y3, ecs, k1, k2, k3⟩ := id hr6
  simp only at ecs
  subst ecs
  obtain ⟨P1, q1, rfl, _, _⟩ := k1
  obtain ⟨P2, q2, rfl, _, _⟩ := k2
  obtain ⟨P3, q3, rfl, _, _⟩ := k3
  have hsz5 := HT5.out.size
  have hrow6 := t6.heap HROW5.out (by simp; omega)
  have j1 : w6.cell? ⟨vb, 1, none⟩ = some (.string ⟨#[]⟩) := cell_of_row w6 vb 1 _ _ _ hrow6
  have jf1 : w6.frozen? ⟨vb, 1, none⟩ = false := frozen_of_row w6 vb 1 _ _ hrow6
  have j2 : w6.cell? ⟨vb, 2, none⟩ = some (.string ⟨#[]⟩) := cell_of_row w6 vb 2 _ _ _ hrow6
  have jf2 : w6.frozen? ⟨vb, 2, none⟩ = false := frozen_of_row w6 vb 2 _ _ hrow6
  have j3 : w6.cell? ⟨vb, 3, none⟩ = some (.bool false) := cell_of_row w6 vb 3 _ _ _ hrow6
  have jf3 : w6.frozen? ⟨vb, 3, none⟩ = false := frozen_of_row w6 vb 3 _ _ hrow6
  have j4 : w6.cell? ⟨vb, 4, none⟩ = some (.bool false) := cell_of_row w6 vb 4 _ _ _ hrow6
  have jf4 : w6.frozen? ⟨vb, 4, none⟩ = false := frozen_of_row w6 vb 4 _ _ hrow6
  have j5 : w6.cell? ⟨vb, 5, none⟩ = some (.slice none 0 0) := cell_of_row w6 vb 5 _ _ _ hrow6
  have jf5 : w6.frozen? ⟨vb, 5, none⟩ = false := frozen_of_row w6 vb 5 _ _ hrow6
  have j6 : w6.cell? ⟨vb, 6, none⟩ = some (.slice none 0 0) := cell_of_row w6 vb 6 _ _ _ hrow6
  have jf6 : w6.frozen? ⟨vb, 6, none⟩ = false := frozen_of_row w6 vb 6 _ _ hrow6
  have j7 : w6.cell? ⟨vb, 7, none⟩ = some (.slice none 0 0) := cell_of_row w6 vb 7 _ _ _ hrow6
  have jf7 : w6.frozen? ⟨vb, 7, none⟩ = false := frozen_of_row w6 vb 7 _ _ hrow6
  have j8 : w6.cell? ⟨vb, 8, none⟩ = some (.int .i64 0) := cell_of_row w6 vb 8 _ _ _ hrow6
  have jf8 : w6.frozen? ⟨vb, 8, none⟩ = false := frozen_of_row w6 vb 8 _ _ hrow6
  have j9 : w6.cell? ⟨vb, 9, none⟩ = some (.int .i64 0) := cell_of_row w6 vb 9 _ _ _ hrow6
  have jf9 : w6.frozen? ⟨vb, 9, none⟩ = false := frozen_of_row w6 vb 9 _ _ hrow6
  have hrd6 := goodM.mono hr6 (B := fun g => vb < g) (fun g hg _ => by omega)
  have hv6 := HV5.out.turn goodC t6 (by simp; omega)
  obtain ⟨W7, hW7⟩ : ∃ W, (((((((((w6.setCell ⟨vb, 1, none⟩ (.string mr)).setCell ⟨vb, 2, none⟩ (.string mn)).setCell ⟨vb, 3, none⟩ (.bool mst)).setCell ⟨vb, 4, none⟩ (.bool mb)).setCell ⟨vb, 5, none⟩ (.slice P1 mps.length q1)).setCell ⟨vb, 6, none⟩ (.slice P2 mls.length q2)).setCell ⟨vb, 7, none⟩ (.slice P3 mbd.length q3)).setCell ⟨vb, 8, none⟩ (.int .i64 mln)).setCell ⟨vb, 9, none⟩ (.int .i64 mcl)) = W := ⟨_, rfl⟩
  have t7 : Turn [vb] w6 W7 := by rw [← hW7]; exact ((((((((((Turn.refl [vb] w6).setCell (.inl (by simp)) _).setCell (.inl (by simp)) _).setCell (.inl (by simp)) _).setCell (.inl (by simp)) _).setCell (.inl (by simp)) _).setCell (.inl (by simp)) _).setCell (.inl (by simp)) _).setCell (.inl (by simp)) _).setCell (.inl (by simp)) _)
  have hrow7 : W7.heap[vb]? = some (.cells #[.slice Pc x.length qc, .string mr, .string mn, .bool mst, .bool mb, .slice P1 mps.length q1, .slice P2 mls.length q2, .slice P3 mbd.length q3, .int .i64 mln, .int .i64 mcl] 31 (0, 0)) := by
    rw [← hW7]
    have a0 : (w6.setCell ⟨vb, 1, none⟩ (.string mr)).heap[vb]? = some (.cells #[.slice Pc x.length qc, .string mr, .string ⟨#[]⟩, .bool false, .bool false, .slice none 0 0, .slice none 0 0, .slice none 0 0, .int .i64 0, .int .i64 0] 31 (0, 0)) := rset hrow6 rfl
    have a1 : ((w6.setCell ⟨vb, 1, none⟩ (.string mr)).setCell ⟨vb, 2, none⟩ (.string mn)).heap[vb]? = some (.cells #[.slice Pc x.length qc, .string mr, .string mn, .bool false, .bool false, .slice none 0 0, .slice none 0 0, .slice none 0 0, .int .i64 0, .int .i64 0] 31 (0, 0)) := rset a0 rfl
    have a2 : (((w6.setCell ⟨vb, 1, none⟩ (.string mr)).setCell ⟨vb, 2, none⟩ (.string mn)).setCell ⟨vb, 3, none⟩ (.bool mst)).heap[vb]? = some (.cells #[.slice Pc x.length qc, .string mr, .string mn, .bool mst, .bool false, .slice none 0 0, .slice none 0 0, .slice none 0 0, .int .i64 0, .int .i64 0] 31 (0, 0)) := rset a1 rfl
    have a3 : ((((w6.setCell ⟨vb, 1, none⟩ (.string mr)).setCell ⟨vb, 2, none⟩ (.string mn)).setCell ⟨vb, 3, none⟩ (.bool mst)).setCell ⟨vb, 4, none⟩ (.bool mb)).heap[vb]? = some (.cells #[.slice Pc x.length qc, .string mr, .string mn, .bool mst, .bool mb, .slice none 0 0, .slice none 0 0, .slice none 0 0, .int .i64 0, .int .i64 0] 31 (0, 0)) := rset a2 rfl
    have a4 : (((((w6.setCell ⟨vb, 1, none⟩ (.string mr)).setCell ⟨vb, 2, none⟩ (.string mn)).setCell ⟨vb, 3, none⟩ (.bool mst)).setCell ⟨vb, 4, none⟩ (.bool mb)).setCell ⟨vb, 5, none⟩ (.slice P1 mps.length q1)).heap[vb]? = some (.cells #[.slice Pc x.length qc, .string mr, .string mn, .bool mst, .bool mb, .slice P1 mps.length q1, .slice none 0 0, .slice none 0 0, .int .i64 0, .int .i64 0] 31 (0, 0)) := rset a3 rfl
    have a5 : ((((((w6.setCell ⟨vb, 1, none⟩ (.string mr)).setCell ⟨vb, 2, none⟩ (.string mn)).setCell ⟨vb, 3, none⟩ (.bool mst)).setCell ⟨vb, 4, none⟩ (.bool mb)).setCell ⟨vb, 5, none⟩ (.slice P1 mps.length q1)).setCell ⟨vb, 6, none⟩ (.slice P2 mls.length q2)).heap[vb]? = some (.cells #[.slice Pc x.length qc, .string mr, .string mn, .bool mst, .bool mb, .slice P1 mps.length q1, .slice P2 mls.length q2, .slice none 0 0, .int .i64 0, .int .i64 0] 31 (0, 0)) := rset a4 rfl
    have a6 : (((((((w6.setCell ⟨vb, 1, none⟩ (.string mr)).setCell ⟨vb, 2, none⟩ (.string mn)).setCell ⟨vb, 3, none⟩ (.bool mst)).setCell ⟨vb, 4, none⟩ (.bool mb)).setCell ⟨vb, 5, none⟩ (.slice P1 mps.length q1)).setCell ⟨vb, 6, none⟩ (.slice P2 mls.length q2)).setCell ⟨vb, 7, none⟩ (.slice P3 mbd.length q3)).heap[vb]? = some (.cells #[.slice Pc x.length qc, .string mr, .string mn, .bool mst, .bool mb, .slice P1 mps.length q1, .slice P2 mls.length q2, .slice P3 mbd.length q3, .int .i64 0, .int .i64 0] 31 (0, 0)) := rset a5 rfl
    have a7 : ((((((((w6.setCell ⟨vb, 1, none⟩ (.string mr)).setCell ⟨vb, 2, none⟩ (.string mn)).setCell ⟨vb, 3, none⟩ (.bool mst)).setCell ⟨vb, 4, none⟩ (.bool mb)).setCell ⟨vb, 5, none⟩ (.slice P1 mps.length q1)).setCell ⟨vb, 6, none⟩ (.slice P2 mls.length q2)).setCell ⟨vb, 7, none⟩ (.slice P3 mbd.length q3)).setCell ⟨vb, 8, none⟩ (.int .i64 mln)).heap[vb]? = some (.cells #[.slice Pc x.length qc, .string mr, .string mn, .bool mst, .bool mb, .slice P1 mps.length q1, .slice P2 mls.length q2, .slice P3 mbd.length q3, .int .i64 mln, .int .i64 0] 31 (0, 0)) := rset a6 rfl
    have a8 : (((((((((w6.setCell ⟨vb, 1, none⟩ (.string mr)).setCell ⟨vb, 2, none⟩ (.string mn)).setCell ⟨vb, 3, none⟩ (.bool mst)).setCell ⟨vb, 4, none⟩ (.bool mb)).setCell ⟨vb, 5, none⟩ (.slice P1 mps.length q1)).setCell ⟨vb, 6, none⟩ (.slice P2 mls.length q2)).setCell ⟨vb, 7, none⟩ (.slice P3 mbd.length q3)).setCell ⟨vb, 8, none⟩ (.int .i64 mln)).setCell ⟨vb, 9, none⟩ (.int .i64 mcl)).heap[vb]? = some (.cells #[.slice Pc x.length qc, .string mr, .string mn, .bool mst, .bool mb, .slice P1 mps.length q1, .slice P2 mls.length q2, .slice P3 mbd.length q3, .int .i64 mln, .int .i64 mcl] 31 (0, 0)) := rset a7 rfl
    exact a8
  have HRD := Lib.hid (show RdG (fun g => vb < g) W7 [.slice Pc x.length qc, .string mr, .string mn, .bool mst, .bool mb, .slice P1 mps.length q1, .slice P2 mls.length q2, .slice P3 mbd.length q3, .int .i64 mln, .int .i64 mcl] ⟨x, ⟨mr, mn, mst, mb, mps, mls, mbd, mln, mcl⟩⟩ from ⟨_, _, rfl, hv6.turn goodC t7 (by simp), goodM.turn hrd6 t7 (by simp)⟩)
  have HP7 := Lib.hid (h6.turn t7 (by simp; omega))
  have HT7 : Hid (Turn [b, vb] W2 W7) := Lib.hid ((HT5.out.trans t6 (by simp)).trans t7 (by simp))
  have hrw7 := HT7.out.heap HRW.out (by simp; omega)
  have HROW7 := Lib.hid hrow7
  have HRW7 := Lib.hid hrw7
  have HW7 := Lib.hid hW7
  clear hW7 t7 hrow7 hrow6 hrw7 hr6 h6 t6 hrd6 hv6
  go_upto_region 4 with (fail)
  rw [HW7.out]
  have hrow7 := HROW7.out
  have hrw := HRW7.out
  have m0 : W7.cell? ⟨vb, 0, none⟩ = some (.slice Pc x.length qc) := cell_of_row W7 vb 0 _ _ _ hrow7
  have m1 : W7.cell? ⟨vb, 1, none⟩ = some (.string mr) := cell_of_row W7 vb 1 _ _ _ hrow7
  have m2 : W7.cell? ⟨vb, 2, none⟩ = some (.string mn) := cell_of_row W7 vb 2 _ _ _ hrow7
  have m3 : W7.cell? ⟨vb, 3, none⟩ = some (.bool mst) := cell_of_row W7 vb 3 _ _ _ hrow7
  have m4 : W7.cell? ⟨vb, 4, none⟩ = some (.bool mb) := cell_of_row W7 vb 4 _ _ _ hrow7
  have m5 : W7.cell? ⟨vb, 5, none⟩ = some (.slice P1 mps.length q1) := cell_of_row W7 vb 5 _ _ _ hrow7
  have m6 : W7.cell? ⟨vb, 6, none⟩ = some (.slice P2 mls.length q2) := cell_of_row W7 vb 6 _ _ _ hrow7
  have m7 : W7.cell? ⟨vb, 7, none⟩ = some (.slice P3 mbd.length q3) := cell_of_row W7 vb 7 _ _ _ hrow7
  have m8 : W7.cell? ⟨vb, 8, none⟩ = some (.int .i64 mln) := cell_of_row W7 vb 8 _ _ _ hrow7
  have m9 : W7.cell? ⟨vb, 9, none⟩ = some (.int .i64 mcl) := cell_of_row W7 vb 9 _ _ _ hrow7
  have zz0 : W7.cell? ⟨r, 0, none⟩ = some (.slice none 0 0) := cell_of_row W7 r 0 _ _ _ hrw
  have zf0 : W7.frozen? ⟨r, 0, none⟩ = false := frozen_of_row W7 r 0 _ _ hrw
  have zz1 : W7.cell? ⟨r, 1, none⟩ = some (.string ⟨#[]⟩) := cell_of_row W7 r 1 _ _ _ hrw
  have zf1 : W7.frozen? ⟨r, 1, none⟩ = false := frozen_of_row W7 r 1 _ _ hrw
  have zz2 : W7.cell? ⟨r, 2, none⟩ = some (.string ⟨#[]⟩) := cell_of_row W7 r 2 _ _ _ hrw
  have zf2 : W7.frozen? ⟨r, 2, none⟩ = false := frozen_of_row W7 r 2 _ _ hrw
  have zz3 : W7.cell? ⟨r, 3, none⟩ = some (.bool false) := cell_of_row W7 r 3 _ _ _ hrw
  have zf3 : W7.frozen? ⟨r, 3, none⟩ = false := frozen_of_row W7 r 3 _ _ hrw
  have zz4 : W7.cell? ⟨r, 4, none⟩ = some (.bool false) := cell_of_row W7 r 4 _ _ _ hrw
  have zf4 : W7.frozen? ⟨r, 4, none⟩ = false := frozen_of_row W7 r 4 _ _ hrw
  have zz5 : W7.cell? ⟨r, 5, none⟩ = some (.slice none 0 0) := cell_of_row W7 r 5 _ _ _ hrw
  have zf5 : W7.frozen? ⟨r, 5, none⟩ = false := frozen_of_row W7 r 5 _ _ hrw
  have zz6 : W7.cell? ⟨r, 6, none⟩ = some (.slice none 0 0) := cell_of_row W7 r 6 _ _ _ hrw
  have zf6 : W7.frozen? ⟨r, 6, none⟩ = false := frozen_of_row W7 r 6 _ _ hrw
  have zz7 : W7.cell? ⟨r, 7, none⟩ = some (.slice none 0 0) := cell_of_row W7 r 7 _ _ _ hrw
  have zf7 : W7.frozen? ⟨r, 7, none⟩ = false := frozen_of_row W7 r 7 _ _ hrw
  have zz8 : W7.cell? ⟨r, 8, none⟩ = some (.int .i64 0) := cell_of_row W7 r 8 _ _ _ hrw
  have zf8 : W7.frozen? ⟨r, 8, none⟩ = false := frozen_of_row W7 r 8 _ _ hrw
  have zz9 : W7.cell? ⟨r, 9, none⟩ = some (.int .i64 0) := cell_of_row W7 r 9 _ _ _ hrw
  have zf9 : W7.frozen? ⟨r, 9, none⟩ = false := frozen_of_row W7 r 9 _ _ hrw
  clear hrow7 hrw
  go_wp2_with fail
  refine bodyPost_ret (v := .agg #[.slice Pc x.length qc, .string mr, .string mn, .bool mst, .bool mb, .slice P1 mps.length q1, .slice P2 mls.length q2, .slice P3 mbd.length q3, .int .i64 mln, .int .i64 mcl]) (by simp [results, Tryz.results23, go_sem, zz0, zz1, zz2, zz3, zz4, zz5, zz6, zz7, zz8, zz9]) rfl ?_
  have key : ∀ W', Turn [r] W7 W' → ∃ cs : List Value, Ending.returned (.agg #[.slice Pc x.length qc, .string mr, .string mn, .bool mst, .bool mb, .slice P1 mps.length q1, .slice P2 mls.length q2, .slice P3 mbd.length q3, .int .i64 mln, .int .i64 mcl]) = Ending.returned (.agg cs.toArray) ∧ RdG (fun g => w.heap.size ≤ g) W' cs ⟨x, ⟨mr, mn, mst, mb, mps, mls, mbd, mln, mcl⟩⟩ ∧ Pr en W' b s2 ∧ Turn [b] w W' := fun W' tE =>
    ⟨[.slice Pc x.length qc, .string mr, .string mn, .bool mst, .bool mb, .slice P1 mps.length q1, .slice P2 mls.length q2, .slice P3 mbd.length q3, .int .i64 mln, .int .i64 mcl], rfl, (HRD.out.turn tE (by simp; omega)).mono (fun g hg _ => by omega), HP7.out.turn tE (by simp; omega), ((HT2.out.more (by simp)).trans HT7.out (fun g hg => by simp at hg; rcases hg with rfl | rfl <;> simp <;> omega)).trans tE (fun g hg => by simp at hg; omega)⟩
  exact key _ (((((((((((Turn.refl [r] W7).setCell (.inl (by simp)) _).setCell (.inl (by simp)) _).setCell (.inl (by simp)) _).setCell (.inl (by simp)) _).setCell (.inl (by simp)) _).setCell (.inl (by simp)) _).setCell (.inl (by simp)) _).setCell (.inl (by simp)) _).setCell (.inl (by simp)) _).setCell (.inl (by simp)) _)
end Go.Proofs.YtnmhcgkccchacaaGreatDoor

/- The reader: skip. -/
set_option linter.unusedSimpArgs false
set_option linter.unusedVariables false
set_option maxRecDepth 100000
namespace Go.Proofs.YtnmhcgkccchacaaGreatDoor
open Go.RowKit

/-- The place ahead of octet n of the text T, and what the rest of it gives from there on. -/
def plc (T : List UInt8) (n : Nat) : Nat × Nat := pss (1, 1) (T.take n)
def lxa (T : List UInt8) (n : Nat) : LR := lxs (T.drop n) (plc T n)
theorem plc_add (T : List UInt8) (n k : Nat) : plc T (n + k) = pss (plc T n) ((T.drop n).take k) := by
  unfold plc
  rw [List.take_add, pss_app]
theorem plc_le (T : List UInt8) (n : Nat) : (plc T n).1 ≤ 1 + T.length ∧ (plc T n).2 ≤ 2 + T.length := by
  have := pss_le (T.take n) (1, 1)
  have h : (T.take n).length ≤ T.length := by rw [List.length_take]; omega
  unfold plc
  simp only at this
  omega
theorem lxa_gap {T : List UInt8} {n : Nat} (h : 0 < gpN (T.drop n)) : lxa T n = lxa T (n + gpN (T.drop n)) := by
  unfold lxa
  rw [lxs_gap _ h, List.drop_drop, plc_add]

structure RP (w : World) (b : Nat) (F : List Nat) (T : List UInt8) (n : Nat) (V : Value) (s : ByteArray) (ts : List Tok) : Prop where
  blk : w.heap[b]? = some (.cells #[.int .i64 ((plc T n).1 : Int), .int .i64 ((plc T n).2 : Int), .string s, V] 129 (0, 0))
  left : s.data.toList = T.drop n
  hn : n ≤ T.length
  row : OwnT w V ts
  fb : b ∈ F
  fv : ∀ g, V.ownBlock = some g → g ∈ F
  fl : ∀ g ∈ F, g < w.heap.size
/-- The reader at b stands at octet n of the text T, and has the tokens ts; it lies in the blocks F. -/
def Rd (w : World) (b : Nat) (F : List Nat) (T : List UInt8) (n : Nat) (ts : List Tok) : Prop := ∃ V s, RP w b F T n V s ts

theorem RP.turn {w w' : World} {b : Nat} {F G : List Nat} {T : List UInt8} {n : Nat} {V : Value} {s : ByteArray} {ts : List Tok} (h : RP w b F T n V s ts) (t : Turn G w w') (hn : ∀ g ∈ F, g ∉ G) : RP w' b F T n V s ts :=
  ⟨t.heap h.blk (hn b h.fb), h.left, h.hn, Turn.owns t h.row (fun g e => hn g (h.fv g e)), h.fb, h.fv, fun g hg => Nat.lt_of_lt_of_le (h.fl g hg) t.size⟩
theorem RP.up {w w' : World} {b : Nat} {F : List Nat} {T : List UInt8} {n : Nat} {V : Value} {s : ByteArray} {ts : List Tok} (h : RP w b F T n V s ts) (t : Turn [] w w') : RP w' b F T n V s ts := h.turn t (by simp)
theorem RP.vb {w : World} {b : Nat} {F : List Nat} {T : List UInt8} {n : Nat} {V : Value} {s : ByteArray} {ts : List Tok} (h : RP w b F T n V s ts) : V.ownBlock ≠ some b := fun e => by
  obtain ⟨cs, hc⟩ := ownsRow_blk h.row e
  rw [h.blk] at hc
  cases hc
theorem RP.size {w : World} {b : Nat} {F : List Nat} {T : List UInt8} {n : Nat} {V : Value} {s : ByteArray} {ts : List Tok} (h : RP w b F T n V s ts) : s.size = T.length - n := by
  rw [Lib.size_eq, h.left, List.length_drop]

/-- take, said of the reader. -/
theorem takeR_any (b : Nat) (F : List Nat) (T : List UInt8) (n k : Nat) (V : Value) (s : ByteArray) (ts : List Tok) (w : World) (h : RP w b F T n V s ts) (hT : T.length ≤ 900000) (hk : k ≤ T.length - n) :
    Calls Tryz.prog 133 #[.pointer (some ⟨b, 0, none⟩), .int .i64 (k : Int)] w fun e w' => e = .returned (.string ⟨((T.drop n).take k).toArray⟩) ∧ (∃ s', RP w' b F T (n + k) V s' ts) ∧ Turn [b] w w' := by
  have hp := plc_le T n
  have hsz := h.size
  refine (take_any b (plc T n).1 (plc T n).2 V s k w h.blk (by omega) (by omega) (by omega) (by omega)).mono ?_
  rintro e w' ⟨rfl, hb, t⟩
  have e1 : s.extract 0 k = ⟨((T.drop n).take k).toArray⟩ := by
    rw [Lib.extract_eq, h.left]
    simp
  rw [e1]
  refine ⟨rfl, ⟨s.extract k s.size, ?_, ?_, by have := h.hn; omega, ?_, h.fb, h.fv, fun g hg => Nat.lt_of_lt_of_le (h.fl g hg) t.size⟩, t⟩
  · rw [hb, h.left, plc_add]
  · rw [Lib.extract_data, h.left, List.drop_drop, List.take_of_length_le]
    rw [List.length_drop]
    omega
  · exact Turn.owns t h.row (fun g e hg => h.vb (by simp at hg; rw [← hg]; exact e))

set_option maxHeartbeats 1600000 in
theorem skip_any (b : Nat) (F G : List Nat) (T : List UInt8) (n : Nat) (ts : List Tok) (v : Value) (w : World) (h : Rd w b F T n ts) (hv : Msr w G v gpN) (hd : ∀ g ∈ G, g ∉ F) (hT : T.length ≤ 900000) :
    Calls Tryz.prog 102 #[.pointer (some ⟨b, 0, none⟩), v] w fun e w' => e = .returned (.tuple #[]) ∧ ∃ n', Rd w' b F T n' ts ∧ n ≤ n' ∧ gpN (T.drop n') = 0 ∧ lxa T n = lxa T n' ∧ Turn F w w' := by
  obtain ⟨V, s, h⟩ := h
  have hG := hv.1
  have HG := Lib.hid hG
  obtain ⟨_, k, caps, rfl, hen, hk⟩ := hv
  have HK := Lib.hid hk
  have HD := Lib.hid hd
  have H := Lib.hid h
  have hbl : b < w.heap.size := h.fl b h.fb
  have c2 : w.cell? ⟨b, 2, none⟩ = some (.string s) := cell_of_row w b 2 _ 129 (0, 0) h.blk
  have hsz := h.size
  have hss : s.size ≤ 1000000 := by omega
  clear hk h hd hG hsz
  go_enter Tryz.func102, Tryz.ntmps102
  go_wp2_with fail
  refine (HK.out w (fun _ _ => rfl) s hss).mono ?_
  rintro e w1 ⟨rfl, m, hm⟩
  have t1 : Turn [] w w1 := by rw [hm]; exact (Turn.refl [] w).drewN m
  have HT1 := Lib.hid t1
  clear hm t1 c2
  rw [H.out.left]
  go_wp2_with fail
  go_loopw [4] (fun ti wr => ∃ (n' : Nat) (s' : ByteArray), ti = .int .i64 (gpN (T.drop n') : Int) ∧ n ≤ n' ∧ n' ≤ T.length ∧ Hid (RP wr b F T n' V s' ts) ∧ Hid (lxa T n = lxa T n') ∧ Hid (Turn F w wr)) (fun ti wr => match wr.cell? ⟨b, 2, none⟩ with | some (.string s) => s.size | _ => 0)
  case atStart => exact ⟨n, s, rfl, Nat.le_refl _, H.out.hn, Lib.hid (H.out.up HT1.out), Lib.hid rfl, Lib.hid (HT1.out.more (by simp))⟩
  case round =>
    obtain ⟨n', s', rfl, hnn, hnT, HP, HL, HT⟩ := hrel
    have hgl := gpN_le (T.drop n')
    rw [List.length_drop] at hgl
    by_cases hg : 0 < gpN (T.drop n')
    · have hLg := lxa_gap hg
      have HLg := Lib.hid hLg
      clear hLg
      obtain ⟨g, eg⟩ : ∃ g, gpN (T.drop n') = g := ⟨_, rfl⟩
      rw [eg] at hg hgl HLg ⊢
      have HEG := Lib.hid eg
      clear eg
      have d1 : decide ((0 : Int) < (g : Int)) = true := by simp; omega
      have d2 : (0 : Int) < (g : Int) := by omega
      go_wp2_with fail
      refine (takeR_any b F T n' g V s' ts wr HP.out hT hgl).mono ?_
      rintro e w2 ⟨rfl, ⟨s2, h2⟩, t2⟩
      have c2 : w2.cell? ⟨b, 2, none⟩ = some (.string s2) := cell_of_row w2 b 2 _ 129 (0, 0) h2.blk
      have hs2 := h2.size
      have hss2 : s2.size ≤ 1000000 := by omega
      have HS2 := Lib.hid hs2
      have H2 := Lib.hid h2
      have HT2 := Lib.hid t2
      clear h2 t2 hs2
      have hFb : b ∈ F := H.out.fb
      have tF : Turn F w w2 := (HT.out).trans HT2.out (by intro g hg; simp at hg; subst hg; exact .inl hFb)
      have HTF := Lib.hid tF
      clear tF
      have hcall := HK.out w2 (fun g hg => (HTF.out).block g (HG.out g hg) (HD.out g hg)) s2 hss2
      have HC := Lib.hid hcall
      clear hcall
      go_wp2_with fail
      refine HC.out.mono ?_
      rintro e w3 ⟨rfl, m3, hm3⟩
      have t3 : Turn [] w2 w3 := by rw [hm3]; exact (Turn.refl [] w2).drewN m3
      have HT3 := Lib.hid t3
      have c3 : w3.cell? ⟨b, 2, none⟩ = some (.string s2) := by rw [hm3]; exact c2
      clear t3 hm3
      rw [H2.out.left]
      go_wp2_with fail
      go_roundw
      case rel =>
        refine ⟨n' + g, s2, rfl, by omega, by omega, Lib.hid (H2.out.up HT3.out), Lib.hid (HL.out.trans HLg.out), Lib.hid (HTF.out.trans' HT3.out)⟩
      case measure =>
        have c0 : wr.cell? ⟨b, 2, none⟩ = some (.string s') := cell_of_row wr b 2 _ 129 (0, 0) HP.out.blk
        rw [c3, c0]
        simp only
        have := HP.out.size
        have := HS2.out
        omega
    · have e0 : gpN (T.drop n') = 0 := by omega
      have HE := Lib.hid e0
      rw [e0]
      clear e0 hg
      go_wp2_with fail
      go_end0
      exact ⟨rfl, n', ⟨V, s', HP.out⟩, hnn, HE.out, HL.out, HT.out⟩
end Go.Proofs.YtnmhcgkccchacaaGreatDoor

/- The reader: readAll, from what read does; Tokens. -/
set_option linter.unusedSimpArgs false
set_option linter.unusedVariables false
set_option maxRecDepth 100000
namespace Go.Proofs.YtnmhcgkccchacaaGreatDoor
open Go.RowKit

/-- What read does (proved in Re). -/
def ReadSaid : Prop := ∀ (b : Nat) (F G : List Nat) (T : List UInt8) (n : Nat) (ts : List Tok) (kb : Nat) (w : World), Rd w b F T n ts → Knd w G kb → (∀ g ∈ G, g ∉ F) → T.length ≤ 900000 → ts.length ≤ 900000 →
    Calls Tryz.prog 103 #[.pointer (some ⟨b, 0, none⟩), .slice (some ⟨kb, 0, none⟩) 3 3] w fun e w' => e = .returned (.int .i64 ((fst3 (T.drop n)).1 : Int)) ∧
      ∃ F', Foot w.heap.size F F' ∧ Turn F w w' ∧ ((fst3 (T.drop n)).1 ≠ 0 → Rd w' b F' T n ts) ∧
        ((fst3 (T.drop n)).1 = 0 → Rd w' b F' T (n + (fst3 (T.drop n)).2.1) (ts ++ [⟨(fst3 (T.drop n)).2.2, (T.drop n).take (fst3 (T.drop n)).2.1, (plc T n).1, (plc T n).2⟩]))

theorem lxa_end {T : List UInt8} {n : Nat} (h : T.drop n = []) : lxa T n = .good [] (plc T n) := by
  unfold lxa
  rw [h, lxs_nil]
theorem lxa_bad {T : List UInt8} {n : Nat} (hne : T.drop n ≠ []) (h : gpN (T.drop n) = 0) (he : (fst3 (T.drop n)).1 ≠ 0) : lxa T n = .bad (fst3 (T.drop n)).1 (plc T n).1 (plc T n).2 := lxs_bad _ hne h he
theorem lxa_tok {T : List UInt8} {n : Nat} (hne : T.drop n ≠ []) (h : gpN (T.drop n) = 0) (he : (fst3 (T.drop n)).1 = 0) :
    lxa T n = preT [⟨(fst3 (T.drop n)).2.2, (T.drop n).take (fst3 (T.drop n)).2.1, (plc T n).1, (plc T n).2⟩] (lxa T (n + (fst3 (T.drop n)).2.1)) := by
  unfold lxa
  rw [lxs_tok _ hne h he, List.drop_drop, plc_add]

theorem RP.empty {w : World} {b : Nat} {F : List Nat} {T : List UInt8} {n : Nat} {V : Value} {s : ByteArray} {ts : List Tok} (h : RP w b F T n V s ts) : s.toList.isEmpty = (T.drop n).isEmpty := by
  rw [ByteArray.toList_eq, h.left]

set_option maxHeartbeats 1600000 in
theorem readAll_any (hr : ReadSaid) (b : Nat) (F : List Nat) (T : List UInt8) (w : World) (h : Rd w b F T 0 []) (hS : Sg w) (h1 : 0 ∉ F) (hT : T.length ≤ 900000) :
    Calls Tryz.prog 78 #[.pointer (some ⟨b, 0, none⟩)] w fun e w' => ∃ F' n ts, Foot w.heap.size F F' ∧ Turn F w w' ∧ Rd w' b F' T n ts ∧
      ((∃ x, lxa T 0 = .bad x (plc T n).1 (plc T n).2 ∧ e = .returned (.int .i64 (x : Int)) ∧ x ≠ 0 ∧ x ≤ 13) ∨ (lxa T 0 = .good ts (plc T n) ∧ n = T.length ∧ e = .returned (.int .i64 0))) := by
  have H := Lib.hid h
  have HS := Lib.hid hS
  have HR := Lib.hid hr
  have hbl : b < w.heap.size := by obtain ⟨V, s, h⟩ := h; exact h.fl b h.fb
  have hFl : ∀ g ∈ F, g < w.heap.size := by obtain ⟨V, s, h⟩ := h; exact h.fl
  have HFl := Lib.hid hFl
  clear h hS hr hFl
  go_enter Tryz.func78, Tryz.ntmps78
  go_wp2_with fail
  refine (mkGap_any w).mono ?_
  rintro e w1 ⟨v, G, rfl, m1, t1, g1⟩
  have HM1 := Lib.hid m1
  have HT1 := Lib.hid t1
  have HG1 := Lib.hid g1
  clear m1 t1 g1
  go_wp2_with fail
  refine (mkShapes_any w1 (HS.out.turn HT1.out (by simp))).mono ?_
  rintro e w2 ⟨kb, G2, rfl, m2, t2, g2⟩
  have HM2 := Lib.hid m2
  have HT2 := Lib.hid t2
  have HG2 := Lib.hid g2
  clear m2 t2 g2
  have hR2 : Rd w2 b F T 0 [] := by
    obtain ⟨V, s, h⟩ := H.out
    exact ⟨V, s, (h.up HT1.out).up HT2.out⟩
  have HR2 := Lib.hid hR2
  have hd1 : ∀ g ∈ G, g ∉ F := fun g hg hf => by
    have := HG1.out g hg
    have := HFl.out g hf
    omega
  have hd2 : ∀ g ∈ G2, g ∉ F := fun g hg hf => by
    rcases HG2.out g hg with h | h
    · have := HFl.out g hf
      have := HT1.out.size
      omega
    · subst h
      exact h1 hf
  have HD1 := Lib.hid hd1
  have HD2 := Lib.hid hd2
  clear hR2 hd1 hd2
  go_wp2_with fail
  refine (skip_any b F G T 0 [] v w2 HR2.out (HM1.out.up HT2.out) HD1.out hT).mono ?_
  rintro e w3 ⟨rfl, n3, hR3, hn3, hg3, hl3, t3⟩
  have tT3 : Turn F w w3 := ((HT1.out.trans' HT2.out).more (by simp)).trans t3 (fun g hg => .inl hg)
  have HINV : Hid (∃ (n : Nat) (F' : List Nat) (ts : List Tok), Rd w3 b F' T n ts ∧ gpN (T.drop n) = 0 ∧ lxa T 0 = preT ts (lxa T n) ∧ Turn F w w3 ∧ Foot w.heap.size F F' ∧ Msr w3 G v gpN ∧ Knd w3 G2 kb ∧ (∀ g ∈ G, g ∉ F') ∧ (∀ g ∈ G2, g ∉ F') ∧ ts.length ≤ n) :=
    Lib.hid ⟨n3, F, [], hR3, hg3, by rw [preT_nil]; exact hl3, tT3, Foot.refl _ _, (HM1.out.up HT2.out).turn t3 HD1.out, HM2.out.turn t3 HD2.out, HD1.out, HD2.out, by simp⟩
  clear hR3 hn3 hg3 hl3 t3 tT3
  go_wp2_with fail
  go_loopw [5] (fun ti wr => Hid (∃ (n : Nat) (F' : List Nat) (ts : List Tok), Rd wr b F' T n ts ∧ gpN (T.drop n) = 0 ∧ lxa T 0 = preT ts (lxa T n) ∧ Turn F w wr ∧ Foot w.heap.size F F' ∧ Msr wr G v gpN ∧ Knd wr G2 kb ∧ (∀ g ∈ G, g ∉ F') ∧ (∀ g ∈ G2, g ∉ F') ∧ ts.length ≤ n)) (fun ti wr => match wr.cell? ⟨b, 2, none⟩ with | some (.string s) => s.size | _ => 0)
  case atStart => exact HINV
  case round =>
    obtain ⟨n, F1, ts, ⟨V, s, hR⟩, hg, hl, hTn, hF, hM, hK, hd1, hd2, hln⟩ := hrel.out
    have c2 : wr.cell? ⟨b, 2, none⟩ = some (.string s) := cell_of_row wr b 2 _ 129 (0, 0) hR.blk
    have hbr : b < wr.heap.size := hR.fl b hR.fb
    have hem := hR.empty
    have hnT : n ≤ T.length := hR.hn
    have HRR := Lib.hid hR
    have HGG := Lib.hid hg
    have HLL := Lib.hid hl
    have HTT := Lib.hid hTn
    have HFF := Lib.hid hF
    have HMM := Lib.hid hM
    have HKK := Lib.hid hK
    have HDD := Lib.hid hd1
    have HDE := Lib.hid hd2
    clear hR hg hl hTn hF hM hK hd1 hd2 hrel
    by_cases hz : T.drop n = []
    · have e0 : s.toList.isEmpty = true := by rw [hem, hz]; rfl
      have HZ := Lib.hid hz
      clear hem hz
      go_wp2_with fail
      go_ret
      have hnl : n = T.length := by
        have := congrArg List.length HZ.out
        rw [List.length_drop] at this
        simp at this
        omega
      refine ⟨F1, n, ts, HFF.out, HTT.out, ⟨V, s, HRR.out⟩, .inr ⟨?_, hnl, rfl⟩⟩
      rw [HLL.out, lxa_end HZ.out]
      simp [preT]
    · have e0 : s.toList.isEmpty = false := by rw [hem]; simpa using hz
      have HZ := Lib.hid hz
      clear hem hz
      go_wp2_with fail
      refine (HR.out b F1 G2 T n ts kb wr ⟨V, s, HRR.out⟩ HKK.out HDE.out hT (by omega)).mono ?_
      rintro e w4 ⟨rfl, F4, hf4, t4, hb4, hg4⟩
      have tF : Turn F w w4 := (HTT.out).trans t4 (HFF.out)
      have HF4 := Lib.hid hf4
      have HT4 := Lib.hid t4
      have HTF := Lib.hid tF
      have HB4 := Lib.hid hb4
      have HG4 := Lib.hid hg4
      clear hf4 t4 hb4 hg4 tF
      have he13 := fst3_err (T.drop n)
      by_cases he : (fst3 (T.drop n)).1 = 0
      · have hsz := fst3_size _ he
        rw [List.length_drop] at hsz
        have HTK := Lib.hid (lxa_tok HZ.out HGG.out he)
        have hR4 := HG4.out he
        rw [he]
        have HR4 := Lib.hid hR4
        clear hR4
        have hF4 : Foot w.heap.size F F4 := HFF.out.trans HF4.out HTT.out.size
        have hdd : ∀ g ∈ G, g ∉ F4 := fun g hg hf => by
          rcases HF4.out g hf with h | h
          · exact HDD.out g hg h
          · have := HMM.out.1 g hg
            omega
        have hde : ∀ g ∈ G2, g ∉ F4 := fun g hg hf => by
          rcases HF4.out g hf with h | h
          · exact HDE.out g hg h
          · have := HKK.out.2.1 g hg
            omega
        have HM4 := Lib.hid (HMM.out.turn HT4.out HDD.out)
        have HK4 := Lib.hid (HKK.out.turn HT4.out HDE.out)
        have HF4' := Lib.hid hF4
        have HD4 := Lib.hid hdd
        have HE4 := Lib.hid hde
        clear hF4 hdd hde
        obtain ⟨k, hk⟩ : ∃ k, (fst3 (T.drop n)).2.1 = k := ⟨_, rfl⟩
        obtain ⟨tk, htk⟩ : ∃ tk : Tok, (⟨(fst3 (T.drop n)).2.2, (T.drop n).take (fst3 (T.drop n)).2.1, (plc T n).1, (plc T n).2⟩ : Tok) = tk := ⟨_, rfl⟩
        rw [htk] at HTK HR4
        rw [hk] at HTK HR4 hsz
        clear htk hk
        go_wp2_with fail
        refine (skip_any b F4 G T (n + k) (ts ++ [tk]) v w4 HR4.out HM4.out HD4.out hT).mono ?_
        rintro e w5 ⟨rfl, n5, hR5, hn5, hg5, hl5, t5⟩
        obtain ⟨V5, s5, hR5⟩ := hR5
        have c5 : w5.cell? ⟨b, 2, none⟩ = some (.string s5) := cell_of_row w5 b 2 _ 129 (0, 0) hR5.blk
        have hs5 := hR5.size
        have hn5T := hR5.hn
        have HR5 := Lib.hid hR5
        have HG5 := Lib.hid hg5
        have HL5 := Lib.hid hl5
        have HT5 := Lib.hid t5
        clear hR5 hg5 hl5 t5
        go_wp2_with fail
        go_roundw
        case rel =>
          refine Lib.hid ⟨n5, F4, ts ++ [tk], ⟨V5, s5, HR5.out⟩, HG5.out, ?_, (HTF.out).trans HT5.out HF4'.out, HF4'.out, HM4.out.turn HT5.out HD4.out, HK4.out.turn HT5.out HE4.out, HD4.out, HE4.out, by simp; omega⟩
          rw [HLL.out, HTK.out, preT_preT, HL5.out]
        case measure =>
          rw [c5, c2]
          simp only
          have := HRR.out.size
          omega
      · have hz0 : decide (((fst3 (T.drop n)).1 : Int) = 0) = false := by simp; omega
        have hz1 : (((fst3 (T.drop n)).1 : Int) == 0) = false := by simp; omega
        have hz2 : ¬ ((fst3 (T.drop n)).1 : Int) = 0 := by omega
        have hz3 : ¬ (fst3 (T.drop n)).1 = 0 := he
        have hz4 : decide ((fst3 (T.drop n)).1 = 0) = false := by simpa using he
        go_wp2_with fail
        go_ret
        refine ⟨F4, n, ts, HFF.out.trans HF4.out HTT.out.size, HTF.out, HB4.out he, .inl ⟨(fst3 (T.drop n)).1, ?_, rfl, he, he13⟩⟩
        rw [HLL.out, lxa_bad HZ.out HGG.out he]
        rfl
end Go.Proofs.YtnmhcgkccchacaaGreatDoor

/- Tokens, from what read does. -/
set_option linter.unusedSimpArgs false
set_option linter.unusedVariables false
set_option maxRecDepth 100000
namespace Go.Proofs.YtnmhcgkccchacaaGreatDoor
open Go.RowKit

/-- What Tokens tells of a text. -/
def tokR (T : List UInt8) : LR := if 20000 < T.length then .bad 13 1 1 else lxs T (1, 1)
def badV (x l c : Nat) : Value := .tuple #[.slice none 0 0, .agg #[.int .i64 0, .int .i64 0], .agg #[.int .i64 (x : Int), .int .i64 (l : Int), .int .i64 (c : Int)]]
def goodV (V : Value) (p : Nat × Nat) : Value := .tuple #[V, .agg #[.int .i64 (p.1 : Int), .int .i64 (p.2 : Int)], .agg #[.int .i64 0, .int .i64 0, .int .i64 0]]
theorem lxa_zero (T : List UInt8) : lxa T 0 = lxs T (1, 1) := rfl

set_option maxHeartbeats 3200000 in
theorem tokens_any (hr : ReadSaid) (s : ByteArray) (w : World) (hS : Sg w) :
    Calls Tryz.prog 46 #[.string s] w fun e w' => Turn [] w w' ∧
      ((∃ x l c, tokR s.data.toList = .bad x l c ∧ x ≠ 0 ∧ e = .returned (badV x l c)) ∨ (∃ ts p V, tokR s.data.toList = .good ts p ∧ OwnT w' V ts ∧ (∀ g, V.ownBlock = some g → w.heap.size ≤ g) ∧ e = .returned (goodV V p))) := by
  have HS := Lib.hid hS
  have HR := Lib.hid hr
  clear hS hr
  go_enter Tryz.func46, Tryz.ntmps46
  go_wp2_with fail
  obtain ⟨W0, hW0⟩ : ∃ W0, (w.alloc (.cells #[.int .i64 0, .int .i64 0] 27)).alloc (.cells #[.int .i64 0, .int .i64 0, .int .i64 0] 34) = W0 := ⟨_, rfl⟩
  rw [hW0]
  have HP0 : Hid (Turn [] w W0 ∧ W0.heap.size = w.heap.size + 2 ∧ W0.heap[w.heap.size]? = some (.cells #[.int .i64 0, .int .i64 0] 27 (0, 0)) ∧ W0.heap[w.heap.size + 1]? = some (.cells #[.int .i64 0, .int .i64 0, .int .i64 0] 34 (0, 0))) := by
    refine Lib.hid ?_
    rw [← hW0]
    refine ⟨((Turn.refl [] w).alloc _).alloc _, by simp, ?_, ?_⟩
    · exact ((Turn.refl [] _).alloc _).heap (heap_alloc_new w _) (by simp)
    · have := heap_alloc_new (w.alloc (.cells #[.int .i64 0, .int .i64 0] 27)) (.cells #[.int .i64 0, .int .i64 0, .int .i64 0] 34)
      rwa [World.size_alloc] at this
  clear hW0
  refine (start_any s W0).mono ?_
  rintro e w1 ⟨rfl, t1⟩
  have HT1 := Lib.hid t1
  clear t1
  go_upto_region 2 with (fail)
  obtain ⟨W, hW⟩ : ∃ W, w1.alloc (.cells #[.int .i64 1, .int .i64 1, .string s, .slice none 0 0] 129) = W := ⟨_, rfl⟩
  obtain ⟨b, hb⟩ : ∃ b, w1.heap.size = b := ⟨_, rfl⟩
  obtain ⟨r, hr⟩ : ∃ r, w.heap.size = r := ⟨_, rfl⟩
  rw [hW, hb, hr]
  have hWb : W.heap[b]? = some (.cells #[.int .i64 1, .int .i64 1, .string s, .slice none 0 0] 129 (0, 0)) := by rw [← hW, ← hb]; exact heap_alloc_new w1 _
  have hWt : Turn [] w1 W := by rw [← hW]; exact (Turn.refl [] w1).alloc _
  have hT : Turn [] w W := (HP0.out.1.trans' HT1.out).trans' hWt
  have hr0 : W.heap[r]? = some (.cells #[.int .i64 0, .int .i64 0] 27 (0, 0)) := by rw [← hr]; exact (HT1.out.trans' hWt).heap HP0.out.2.2.1 (by simp)
  have hr1 : W.heap[r + 1]? = some (.cells #[.int .i64 0, .int .i64 0, .int .i64 0] 34 (0, 0)) := by rw [← hr]; exact (HT1.out.trans' hWt).heap HP0.out.2.2.2 (by simp)
  have hrb : r + 2 ≤ b := by
    have h1 := HP0.out.2.1
    have h2 := HT1.out.size
    omega
  have hbl : b < W.heap.size := (Array.getElem?_eq_some_iff.1 hWb).1
  have hRP : RP W b [b] s.data.toList 0 (.slice none 0 0) s [] := ⟨hWb, by simp, by omega, OwnT.nil W, by simp, fun g e => (by cases e), by simpa using hbl⟩
  have HT := Lib.hid hT
  have HRP := Lib.hid hRP
  have HR0 := Lib.hid hr0
  have HR1 := Lib.hid hr1
  have HRr := Lib.hid hr
  have hszl : s.data.toList.length = s.size := (Lib.size_eq s).symm
  have HSL := Lib.hid hszl
  have HWB := Lib.hid hWb
  clear hW hb hr
  by_cases hbig : 20000 < s.size
  · have d1 : decide ((20000 : Int) < (s.size : Int)) = true := by simp; omega
    have d2 : (20000 : Int) < (s.size : Int) := by omega
    have htk : tokR s.data.toList = .bad 13 1 1 := by
      unfold tokR
      rw [if_pos (by omega)]
    have HTK := Lib.hid htk
    clear htk hRP hT hr0 hr1 hszl
    clear hWb hWt
    go_wp2_with fail
    refine (fault_any b 1 1 (.string s) (.slice none 0 0) 13 W HWB.out).mono ?_
    rintro e w3 ⟨rfl, t3⟩
    have HT3 := Lib.hid t3
    have hz0 := t3.heap HR0.out (by simp)
    have hz1 := t3.heap HR1.out (by simp)
    have p0 : w3.cell? ⟨r, 0, none⟩ = some (.int .i64 0) := cell_of_row w3 r 0 _ 27 (0, 0) hz0
    have pf0 : w3.frozen? ⟨r, 0, none⟩ = false := frozen_of_row w3 r 0 _ 27 hz0
    have p1 : w3.cell? ⟨r, 1, none⟩ = some (.int .i64 0) := cell_of_row w3 r 1 _ 27 (0, 0) hz0
    have pf1 : w3.frozen? ⟨r, 1, none⟩ = false := frozen_of_row w3 r 1 _ 27 hz0
    have q0 : w3.cell? ⟨r + 1, 0, none⟩ = some (.int .i64 0) := cell_of_row w3 (r + 1) 0 _ 34 (0, 0) hz1
    have qf0 : w3.frozen? ⟨r + 1, 0, none⟩ = false := frozen_of_row w3 (r + 1) 0 _ 34 hz1
    have q1 : w3.cell? ⟨r + 1, 1, none⟩ = some (.int .i64 0) := cell_of_row w3 (r + 1) 1 _ 34 (0, 0) hz1
    have qf1 : w3.frozen? ⟨r + 1, 1, none⟩ = false := frozen_of_row w3 (r + 1) 1 _ 34 hz1
    have q2 : w3.cell? ⟨r + 1, 2, none⟩ = some (.int .i64 0) := cell_of_row w3 (r + 1) 2 _ 34 (0, 0) hz1
    have qf2 : w3.frozen? ⟨r + 1, 2, none⟩ = false := frozen_of_row w3 (r + 1) 2 _ 34 hz1
    clear hz0 hz1 t3
    go_wp2_with fail
    refine bodyPost_ret (v := badV 13 1 1) (by simp [results, Tryz.results46, go_sem, badV, p0, p1, q0, q1, q2]) rfl ⟨?_, .inl ⟨13, 1, 1, HTK.out, by omega, rfl⟩⟩
    have hrr := HRr.out
    have := HT3.out
    refine (((((HT.out.trans' HT3.out).setCell (.inr ?_) _).setCell (.inr ?_) _).setCell (.inr ?_) _).setCell (.inr ?_) _).setCell (.inr ?_) _ <;> (simp; try omega)
  · have d1 : decide ((20000 : Int) < (s.size : Int)) = false := by simp; omega
    have d2 : ¬ (20000 : Int) < (s.size : Int) := by omega
    have htk : tokR s.data.toList = lxa s.data.toList 0 := by
      unfold tokR
      rw [if_neg (by omega), lxa_zero]
    have HTK := Lib.hid htk
    have HSW := Lib.hid (HS.out.turn hT (by simp))
    have h1b : 0 ∉ [b] := by
      have := HS.out.1
      simp
      omega
    clear htk hRP hT hr0 hr1
    clear hWb hWt
    go_wp2_with fail
    refine (readAll_any HR.out b [b] s.data.toList W ⟨_, _, HRP.out⟩ HSW.out h1b (by omega)).mono ?_
    rintro e w3 ⟨F3, n3, ts, hF3, t3, hR3, hcase⟩
    have HT3 := Lib.hid t3
    have HF3 := Lib.hid hF3
    have hz0 := t3.heap HR0.out (by simp; omega)
    have hz1 := t3.heap HR1.out (by simp; omega)
    obtain ⟨V, s3, hR3⟩ := hR3
    have HR3 := Lib.hid hR3
    have HZ0 := Lib.hid hz0
    have HZ1 := Lib.hid hz1
    have hTT : Turn [] w w3 := HT.out.trans t3 (fun g hg => by simp at hg; have := HRr.out; exact .inr (by omega))
    have HTT := Lib.hid hTT
    clear hz0 hz1 t3 hR3 hF3 hTT hszl
    rcases hcase with ⟨x, hx, rfl, hx0, hx13⟩ | ⟨hx, hn, rfl⟩
    · have HX := Lib.hid hx
      clear hx
      have e0 : decide ((x : Int) = 0) = false := by simp; omega
      have e1 : ((x : Int) == 0) = false := by simp; omega
      have e2 : ¬ (x : Int) = 0 := by omega
      have e4 : decide (x = 0) = false := by simpa using hx0
      go_wp2_with fail
      refine (fault_any b _ _ _ _ x w3 HR3.out.blk).mono ?_
      rintro e w4 ⟨rfl, t4⟩
      have HT4 := Lib.hid t4
      have hz0 := t4.heap HZ0.out (by simp)
      have hz1 := t4.heap HZ1.out (by simp)
      have p0 : w4.cell? ⟨r, 0, none⟩ = some (.int .i64 0) := cell_of_row w4 r 0 _ 27 (0, 0) hz0
      have pf0 : w4.frozen? ⟨r, 0, none⟩ = false := frozen_of_row w4 r 0 _ 27 hz0
      have p1 : w4.cell? ⟨r, 1, none⟩ = some (.int .i64 0) := cell_of_row w4 r 1 _ 27 (0, 0) hz0
      have pf1 : w4.frozen? ⟨r, 1, none⟩ = false := frozen_of_row w4 r 1 _ 27 hz0
      have q0 : w4.cell? ⟨r + 1, 0, none⟩ = some (.int .i64 0) := cell_of_row w4 (r + 1) 0 _ 34 (0, 0) hz1
      have qf0 : w4.frozen? ⟨r + 1, 0, none⟩ = false := frozen_of_row w4 (r + 1) 0 _ 34 hz1
      have q1 : w4.cell? ⟨r + 1, 1, none⟩ = some (.int .i64 0) := cell_of_row w4 (r + 1) 1 _ 34 (0, 0) hz1
      have qf1 : w4.frozen? ⟨r + 1, 1, none⟩ = false := frozen_of_row w4 (r + 1) 1 _ 34 hz1
      have q2 : w4.cell? ⟨r + 1, 2, none⟩ = some (.int .i64 0) := cell_of_row w4 (r + 1) 2 _ 34 (0, 0) hz1
      have qf2 : w4.frozen? ⟨r + 1, 2, none⟩ = false := frozen_of_row w4 (r + 1) 2 _ 34 hz1
      clear hz0 hz1 t4
      go_wp2_with fail
      refine bodyPost_ret (v := badV x (plc s.data.toList n3).1 (plc s.data.toList n3).2) (by simp [results, Tryz.results46, go_sem, badV, p0, p1, q0, q1, q2]) rfl ⟨?_, .inl ⟨x, _, _, HTK.out.trans HX.out, hx0, rfl⟩⟩
      have hrr := HRr.out
      refine (((((HTT.out.trans' HT4.out).setCell (.inr ?_) _).setCell (.inr ?_) _).setCell (.inr ?_) _).setCell (.inr ?_) _).setCell (.inr ?_) _ <;> (simp; try omega)
    · have HX := Lib.hid hx
      have HN := Lib.hid hn
      clear hn
      have b0 : w3.cell? ⟨b, 0, none⟩ = some (.int .i64 ((plc s.data.toList n3).1 : Int)) := cell_of_row w3 b 0 _ 129 (0, 0) HR3.out.blk
      have b1 : w3.cell? ⟨b, 1, none⟩ = some (.int .i64 ((plc s.data.toList n3).2 : Int)) := cell_of_row w3 b 1 _ 129 (0, 0) HR3.out.blk
      have b3 : w3.cell? ⟨b, 3, none⟩ = some V := cell_of_row w3 b 3 _ 129 (0, 0) HR3.out.blk
      have p0 : w3.cell? ⟨r, 0, none⟩ = some (.int .i64 0) := cell_of_row w3 r 0 _ 27 (0, 0) HZ0.out
      have pf0 : w3.frozen? ⟨r, 0, none⟩ = false := frozen_of_row w3 r 0 _ 27 HZ0.out
      have p1 : w3.cell? ⟨r, 1, none⟩ = some (.int .i64 0) := cell_of_row w3 r 1 _ 27 (0, 0) HZ0.out
      have pf1 : w3.frozen? ⟨r, 1, none⟩ = false := frozen_of_row w3 r 1 _ 27 HZ0.out
      have q0 : w3.cell? ⟨r + 1, 0, none⟩ = some (.int .i64 0) := cell_of_row w3 (r + 1) 0 _ 34 (0, 0) HZ1.out
      have qf0 : w3.frozen? ⟨r + 1, 0, none⟩ = false := frozen_of_row w3 (r + 1) 0 _ 34 HZ1.out
      have q1 : w3.cell? ⟨r + 1, 1, none⟩ = some (.int .i64 0) := cell_of_row w3 (r + 1) 1 _ 34 (0, 0) HZ1.out
      have qf1 : w3.frozen? ⟨r + 1, 1, none⟩ = false := frozen_of_row w3 (r + 1) 1 _ 34 HZ1.out
      have q2 : w3.cell? ⟨r + 1, 2, none⟩ = some (.int .i64 0) := cell_of_row w3 (r + 1) 2 _ 34 (0, 0) HZ1.out
      have qf2 : w3.frozen? ⟨r + 1, 2, none⟩ = false := frozen_of_row w3 (r + 1) 2 _ 34 HZ1.out
      clear hx
      go_wp2_with fail
      have hn1 : r ≠ b := by omega
      have hn2 : r + 1 ≠ b := by omega
      have hn3 : b ≠ r := by omega
      have hn4 : b ≠ r + 1 := by omega
      obtain ⟨l, hl⟩ : ∃ l, (plc s.data.toList n3).1 = l := ⟨_, rfl⟩
      obtain ⟨c, hc⟩ : ∃ c, (plc s.data.toList n3).2 = c := ⟨_, rfl⟩
      rw [hl] at b0
      rw [hc] at b1
      have HLC : Hid (plc s.data.toList n3 = (l, c)) := Lib.hid (by rw [← hl, ← hc])
      clear hl hc
      go_region_held3 (fun w' => w'.cell? ⟨b, 0, none⟩ = some (.int .i64 (l : Int)) ∧ w'.cell? ⟨b, 1, none⟩ = some (.int .i64 (c : Int)) ∧ w'.cell? ⟨b, 3, none⟩ = some V)
        (first | go_keep)
        (first | fail)
      go_wp2_with fail
      have tS : Turn [r, r + 1] w3 (((((w3.setCell ⟨r, 0, none⟩ (.int .i64 (l : Int))).setCell ⟨r, 1, none⟩ (.int .i64 (c : Int))).setCell ⟨r + 1, 0, none⟩ (.int .i64 0)).setCell ⟨r + 1, 1, none⟩ (.int .i64 0)).setCell ⟨r + 1, 2, none⟩ (.int .i64 0)).drew :=
        ((((((Turn.refl [r, r + 1] w3).setCell (.inl (by simp)) _).setCell (.inl (by simp)) _).setCell (.inl (by simp)) _).setCell (.inl (by simp)) _).setCell (.inl (by simp)) _).drew
      refine bodyPost_ret (v := goodV V (plc s.data.toList n3)) (by rw [HLC.out]; simp [results, Tryz.results46, go_sem, goodV, p0, p1, q0, q1, q2]) rfl ⟨?_, .inr ⟨ts, _, V, HTK.out.trans HX.out, ?_, ?_, rfl⟩⟩
      · have hrr := HRr.out
        exact HTT.out.trans tS (fun g hg => .inr (by simp at hg; omega))
      · refine Turn.owns tS HR3.out.row (fun g e hg => ?_)
        obtain ⟨cs, hcs⟩ := ownsRow_blk HR3.out.row e
        simp at hg
        rcases hg with rfl | rfl
        · rw [HZ0.out] at hcs
          cases hcs
        · rw [HZ1.out] at hcs
          cases hcs
      · intro g hg
        rcases HF3.out g (HR3.out.fv g hg) with h | h
        · simp at h
          have := HRr.out
          omega
        · have := HT.out.size
          omega
end Go.Proofs.YtnmhcgkccchacaaGreatDoor

/- The reader: read. -/
set_option linter.unusedSimpArgs false
set_option linter.unusedVariables false
set_option maxRecDepth 100000
namespace Go.Proofs.YtnmhcgkccchacaaGreatDoor
open Go.RowKit

/-- The kind number i: what it is called, how it is measured, how long it may be. -/
def kdA (i kd mo : Nat) (f : List UInt8 → Nat) : Prop := (i = 0 ∧ kd = 0 ∧ mo = 32 ∧ f = wdN) ∨ (i = 1 ∧ kd = 1 ∧ mo = 3 ∧ f = nmN) ∨ (i = 2 ∧ kd = 2 ∧ mo = 2 ∧ f = sgN)
theorem kdA.small {i kd mo : Nat} {f : List UInt8 → Nat} (h : kdA i kd mo f) : kd ≤ 2 ∧ mo ≤ 32 := by
  rcases h with ⟨_, rfl, rfl, _⟩ | ⟨_, rfl, rfl, _⟩ | ⟨_, rfl, rfl, _⟩ <;> omega
theorem kdA.len {i kd mo : Nat} {f : List UInt8 → Nat} (h : kdA i kd mo f) (t : List UInt8) : f t ≤ t.length := by
  rcases h with ⟨_, _, _, rfl⟩ | ⟨_, _, _, rfl⟩ | ⟨_, _, _, rfl⟩
  · exact runN_le _ _ _
  · exact runN_le _ _ _
  · exact sgN_len _
/-- The first i kinds measure nothing. -/
def noK (i : Nat) (t : List UInt8) : Prop := (0 < i → wdN t = 0) ∧ (1 < i → nmN t = 0) ∧ (2 < i → sgN t = 0)
theorem noK.next {i kd mo : Nat} {f : List UInt8 → Nat} {t : List UInt8} (h : noK i t) (hk : kdA i kd mo f) (hf : f t = 0) : noK (i + 1) t := by
  obtain ⟨h0, h1, h2⟩ := h
  rcases hk with ⟨rfl, _, _, rfl⟩ | ⟨rfl, _, _, rfl⟩ | ⟨rfl, _, _, rfl⟩
  · exact ⟨fun _ => hf, fun h => by omega, fun h => by omega⟩
  · exact ⟨fun _ => h0 (by omega), fun _ => hf, fun h => by omega⟩
  · exact ⟨fun _ => h0 (by omega), fun _ => h1 (by omega), fun _ => hf⟩
theorem noK.big {i kd mo : Nat} {f : List UInt8 → Nat} {t : List UInt8} (h : noK i t) (hk : kdA i kd mo f) (hf : mo < f t) : (fst3 t).1 = 13 := by
  obtain ⟨h0, h1, h2⟩ := h
  rcases hk with ⟨rfl, _, rfl, rfl⟩ | ⟨rfl, _, rfl, rfl⟩ | ⟨rfl, _, rfl, rfl⟩
  · simp [fst3, hf]
  · have e0 := h0 (by omega)
    simp [fst3, e0, hf]
  · have := sgN_two t
    omega
theorem noK.tok {i kd mo : Nat} {f : List UInt8 → Nat} {t : List UInt8} (h : noK i t) (hk : kdA i kd mo f) (hf : ¬ mo < f t) (h0 : 0 < f t) : fst3 t = (0, f t, kd) := by
  obtain ⟨h0', h1, h2⟩ := h
  rcases hk with ⟨rfl, rfl, rfl, rfl⟩ | ⟨rfl, rfl, rfl, rfl⟩ | ⟨rfl, rfl, rfl, rfl⟩
  · simp only [fst3, if_neg hf, if_pos h0]
  · have e0 := h0' (by omega)
    simp only [fst3, e0, if_neg hf, if_pos h0]
    simp
  · have e0 := h0' (by omega)
    have e1 := h1 (by omega)
    simp only [fst3, e0, e1, if_pos h0]
    simp
theorem noK.none {t : List UInt8} (h : noK 3 t) : (fst3 t).1 = 10 := by
  obtain ⟨h0, h1, h2⟩ := h
  simp [fst3, h0 (by omega), h1 (by omega), h2 (by omega)]

theorem Knd.at {w : World} {G : List Nat} {kb : Nat} (h : Knd w G kb) {i : Nat} (hi : i < 3) : ∃ kd mo f v, kdA i kd mo f ∧ Msr w G v f ∧
    w.cell? ⟨kb, i * 3, none⟩ = some (.int .i64 (kd : Int)) ∧ w.cell? ⟨kb, i * 3 + 1, none⟩ = some v ∧ w.cell? ⟨kb, i * 3 + 2, none⟩ = some (.int .i64 (mo : Int)) := by
  obtain ⟨hb, hl, v1, v2, v3, hblk, m1, m2, m3⟩ := h
  have hc := fun j => cell_of_row w kb j _ 173 (0, 0) hblk
  match i, hi with
  | 0, _ => exact ⟨0, 32, wdN, v1, .inl ⟨rfl, rfl, rfl, rfl⟩, m1, hc 0, hc 1, hc 2⟩
  | 1, _ => exact ⟨1, 3, nmN, v2, .inr (.inl ⟨rfl, rfl, rfl, rfl⟩), m2, hc 3, hc 4, hc 5⟩
  | 2, _ => exact ⟨2, 2, sgN, v3, .inr (.inr ⟨rfl, rfl, rfl, rfl⟩), m3, hc 6, hc 7, hc 8⟩

theorem own_ne {w : World} {B e e2 size n : Nat} {v : Value} {xs : List Value} {g : Nat} {cs : Array Value} {z : Nat × Nat} (h : w.ownsRow B e size v n xs) (hb : w.heap[g]? = some (.cells cs e2 z)) (hne : e2 ≠ e) : v.ownBlock ≠ some g := fun he => by
  obtain ⟨cs2, hc⟩ := ownsRow_blk h he
  rw [hb] at hc
  injection hc with hc
  injection hc with _ hc _
  exact hne hc

theorem World.cell?_setCell_other {w : World} {b g k o : Nat} (h : b ≠ g) (u : Value) : (w.setCell ⟨b, k, none⟩ u).cell? ⟨g, o, none⟩ = w.cell? ⟨g, o, none⟩ := by
  have e : (w.setCell ⟨b, k, none⟩ u).heap[g]? = w.heap[g]? := by
    by_cases hg : g < w.heap.size
    · exact ((Turn.refl [b] w).setCell (p := ⟨b, k, none⟩) (.inl (by simp)) u).block g hg (by simpa using h.symm)
    · have hs : (w.setCell ⟨b, k, none⟩ u).heap.size = w.heap.size := by simp [World.setCell]
      rw [Array.getElem?_eq_none (by omega), Array.getElem?_eq_none (by omega)]
  exact World.cell?_of_block e

/-- One token more, and the reader's own cell stored anew. -/
theorem RP.stored {w5 w6 : World} {b : Nat} {F : List Nat} {T : List UInt8} {m : Nat} {V v : Value} {s : ByteArray} {ts : List Tok} {t : Tok} {o : Obj} (h : RP w5 b F T m V s ts) (hv : OwnT w6 v (ts ++ [t]))
    (t6 : Turn V.ownBlock.toList (w5.alloc o) w6) (hm : v.ownBlock = V.ownBlock ∨ ∃ g, v.ownBlock = some g ∧ (w5.alloc o).heap.size ≤ g) :
    ∃ F', Rd (w6.setCell ⟨b, 3, none⟩ v) b F' T m (ts ++ [t]) ∧ Foot w5.heap.size F F' ∧ Turn F w5 (w6.setCell ⟨b, 3, none⟩ v) := by
  have ta : Turn [] w5 (w5.alloc o) := (Turn.refl [] w5).alloc _
  have tS : Turn [b] w6 (w6.setCell ⟨b, 3, none⟩ v) := (Turn.refl [b] w6).setCell (.inl (by simp)) _
  have t6F : Turn F w5 w6 := (ta.more (G := F) (by simp)).trans t6 (fun g hg => .inl (h.fv g (by simpa using hg)))
  have hb6 : w6.heap[b]? = _ := t6.heap (ta.heap h.blk (by simp)) (fun hg => h.vb (by simpa using hg))
  have hvb : v.ownBlock ≠ some b := fun e => by
    obtain ⟨cs, hc⟩ := ownsRow_blk hv e
    rw [hb6] at hc
    cases hc
  refine ⟨v.ownBlock.toList ++ F, ⟨v, s, cells4_3 hb6, h.left, h.hn, Turn.owns tS hv (fun g e hg => hvb (by simp at hg; rw [← hg]; exact e)), List.mem_append_right _ h.fb, fun g e => List.mem_append_left _ (by simp [e]), ?_⟩, ?_, t6F.trans tS (by intro g hg; simp at hg; subst hg; exact .inl h.fb)⟩
  · intro g hg
    rcases List.mem_append.1 hg with hg | hg
    · exact Nat.lt_of_lt_of_le (World.ownsRow.lt hv g (by simpa using hg)).2 tS.size
    · exact Nat.lt_of_lt_of_le (h.fl g hg) (Nat.le_trans t6F.size tS.size)
  · intro g hg
    rcases List.mem_append.1 hg with hg | hg
    · rcases hm with e | ⟨g', e, h1⟩
      · rw [e] at hg
        exact .inl (h.fv g (by simpa using hg))
      · rw [e] at hg
        simp at hg
        subst hg
        have := ta.size
        exact .inr (by omega)
    · exact .inl hg

set_option maxHeartbeats 8000000 in
theorem read_any (b : Nat) (F G : List Nat) (T : List UInt8) (n : Nat) (ts : List Tok) (kb : Nat) (w : World) (h : Rd w b F T n ts) (hK : Knd w G kb) (hd : ∀ g ∈ G, g ∉ F) (hT : T.length ≤ 900000) (hts : ts.length ≤ 900000) :
    Calls Tryz.prog 103 #[.pointer (some ⟨b, 0, none⟩), .slice (some ⟨kb, 0, none⟩) 3 3] w fun e w' => e = .returned (.int .i64 ((fst3 (T.drop n)).1 : Int)) ∧
      ∃ F', Foot w.heap.size F F' ∧ Turn F w w' ∧ ((fst3 (T.drop n)).1 ≠ 0 → Rd w' b F' T n ts) ∧
        ((fst3 (T.drop n)).1 = 0 → Rd w' b F' T (n + (fst3 (T.drop n)).2.1) (ts ++ [⟨(fst3 (T.drop n)).2.2, (T.drop n).take (fst3 (T.drop n)).2.1, (plc T n).1, (plc T n).2⟩])) := by
  obtain ⟨V, s, h⟩ := h
  have H := Lib.hid h
  have HKn := Lib.hid hK
  have HD := Lib.hid hd
  have hsz := h.size
  have hss : s.size ≤ 1000000 := by omega
  have hbl : b < w.heap.size := h.fl b h.fb
  clear h hK hd hsz
  go_enter Tryz.func103, Tryz.ntmps103
  go_wp2_with fail
  go_loopw [11] (fun ti wr => ∃ i : Nat, i ≤ 3 ∧ ti = .int .i64 (i : Int) ∧ Hid (noK i (T.drop n)) ∧ Hid (Turn [] w wr)) (fun ti _ => 3 - (intOf ti).toNat)
  case atStart => exact ⟨0, by omega, rfl, Lib.hid ⟨fun h => by omega, fun h => by omega, fun h => by omega⟩, Lib.hid (Turn.refl _ _)⟩
  case round =>
    obtain ⟨i, hi, rfl, HN, HT⟩ := hrel
    by_cases hlt : i < 3
    · have d1 : decide ((i : Int) < 3) = true := by simp; omega
      have d2 : (i : Int) < 3 := by omega
      obtain ⟨kd, mo, f, v, hka, hms, k0, k1, k2⟩ := (HKn.out.turn HT.out (by simp)).at hlt
      have HKA := Lib.hid hka
      have hsm := hka.small
      have hfl := hka.len (T.drop n)
      rw [List.length_drop] at hfl
      have HP := Lib.hid (H.out.up HT.out)
      have c2 : wr.cell? ⟨b, 2, none⟩ = some (.string s) := cell_of_row wr b 2 _ 129 (0, 0) HP.out.blk
      have hbr : b < wr.heap.size := HP.out.fl b HP.out.fb
      have hGr := hms.1
      obtain ⟨_, k, caps, rfl, hen, hk⟩ := hms
      have HC := Lib.hid hk
      have HG := Lib.hid hGr
      clear hk hka hGr
      have hne2 := World.new_ne wr ⟨b, 2, none⟩ c2
      go_wp2_with fail
      obtain ⟨W, hW⟩ : ∃ W, wr.alloc (.cells #[.int .i64 (kd : Int), .func (.func k) #[] caps.toArray, .int .i64 (mo : Int)] 173) = W := ⟨_, rfl⟩
      obtain ⟨kk, hkk⟩ : ∃ kk, wr.heap.size = kk := ⟨_, rfl⟩
      rw [hW, hkk]
      have hWb : W.heap[kk]? = some (.cells #[.int .i64 (kd : Int), .func (.func k) #[] caps.toArray, .int .i64 (mo : Int)] 173 (0, 0)) := by rw [← hW, ← hkk]; exact heap_alloc_new wr _
      have hWt : Turn [] wr W := by rw [← hW]; exact (Turn.refl [] wr).alloc _
      have HWB := Lib.hid hWb
      have HWT := Lib.hid hWt
      have HKK := Lib.hid hkk
      have HPW := Lib.hid (HP.out.up hWt)
      have j0 : W.cell? ⟨kk, 0, none⟩ = some (.int .i64 (kd : Int)) := cell_of_row W kk 0 _ 173 (0, 0) hWb
      have j1 : W.cell? ⟨kk, 1, none⟩ = some (.func (.func k) #[] caps.toArray) := cell_of_row W kk 1 _ 173 (0, 0) hWb
      have j2 : W.cell? ⟨kk, 2, none⟩ = some (.int .i64 (mo : Int)) := cell_of_row W kk 2 _ 173 (0, 0) hWb
      have b0 : W.cell? ⟨b, 0, none⟩ = some (.int .i64 ((plc T n).1 : Int)) := cell_of_row W b 0 _ 129 (0, 0) HPW.out.blk
      have b1 : W.cell? ⟨b, 1, none⟩ = some (.int .i64 ((plc T n).2 : Int)) := cell_of_row W b 1 _ 129 (0, 0) HPW.out.blk
      have b2 : W.cell? ⟨b, 2, none⟩ = some (.string s) := cell_of_row W b 2 _ 129 (0, 0) HPW.out.blk
      have b3 : W.cell? ⟨b, 3, none⟩ = some V := cell_of_row W b 3 _ 129 (0, 0) HPW.out.blk
      have hbW : b < W.heap.size := HPW.out.fl b HPW.out.fb
      clear hW hkk hWb hWt c2 k0 k1 k2 hne2
      go_quiet (refine Calls.quiet_of (HC.out (W.drewN _) (fun g hg => (HWT.out).block g (HG.out g hg) (by simp)) s hss))
      obtain ⟨W2, hW2⟩ : ∃ W2, W.drewN nq = W2 := ⟨_, rfl⟩
      have hT2 : Turn [] wr W2 := by rw [← hW2]; exact (HWT.out).drewN nq
      have hB2 : W2.heap[kk]? = some (.cells #[.int .i64 (kd : Int), .func (.func k) #[] caps.toArray, .int .i64 (mo : Int)] 173 (0, 0)) := by rw [← hW2]; exact HWB.out
      rw [hW2]
      clear hW2 j0 j1 j2 b0 b1 b2 b3 hbW
      have HP2 := Lib.hid (HP.out.up hT2)
      have HT2 := Lib.hid ((HT.out).trans' hT2)
      have j0 : W2.cell? ⟨kk, 0, none⟩ = some (.int .i64 (kd : Int)) := cell_of_row W2 kk 0 _ 173 (0, 0) hB2
      have j1 : W2.cell? ⟨kk, 1, none⟩ = some (.func (.func k) #[] caps.toArray) := cell_of_row W2 kk 1 _ 173 (0, 0) hB2
      have j2 : W2.cell? ⟨kk, 2, none⟩ = some (.int .i64 (mo : Int)) := cell_of_row W2 kk 2 _ 173 (0, 0) hB2
      have b0 : W2.cell? ⟨b, 0, none⟩ = some (.int .i64 ((plc T n).1 : Int)) := cell_of_row W2 b 0 _ 129 (0, 0) HP2.out.blk
      have b1 : W2.cell? ⟨b, 1, none⟩ = some (.int .i64 ((plc T n).2 : Int)) := cell_of_row W2 b 1 _ 129 (0, 0) HP2.out.blk
      have b2 : W2.cell? ⟨b, 2, none⟩ = some (.string s) := cell_of_row W2 b 2 _ 129 (0, 0) HP2.out.blk
      have b3 : W2.cell? ⟨b, 3, none⟩ = some V := cell_of_row W2 b 3 _ 129 (0, 0) HP2.out.blk
      have hbW : b < W2.heap.size := HP2.out.fl b HP2.out.fb
      have hkW : kk < W2.heap.size := (Array.getElem?_eq_some_iff.1 hB2).1
      have HB2 := Lib.hid hB2
      clear hT2 hB2 HWB HWT HPW
      have hleft := H.out.left
      rw [hleft]
      clear hleft
      obtain ⟨q, hq⟩ : ∃ q, f (T.drop n) = q := ⟨_, rfl⟩
      rw [hq] at hfl ⊢
      have HQ := Lib.hid hq
      clear hq
      by_cases hbig : mo < q
      · have d3 : decide ((mo : Int) < (q : Int)) = true := by simp; omega
        have d4 : (mo : Int) < (q : Int) := by omega
        go_wp2_with fail
        go_ret
        have e := HN.out.big HKA.out (by rw [HQ.out]; exact hbig)
        rw [e]
        have tt := HT2.out
        exact ⟨rfl, F, Foot.refl _ _, tt.more (by simp), fun _ => ⟨V, s, H.out.up tt⟩, fun h => by omega⟩
      · have d3 : decide ((mo : Int) < (q : Int)) = false := by simp; omega
        have d4 : ¬ (mo : Int) < (q : Int) := by omega
        by_cases h0 : 0 < q
        · have d5 : decide ((0 : Int) < (q : Int)) = true := by simp; omega
          have d6 : (0 : Int) < (q : Int) := by omega
          go_wp2_with fail
          obtain ⟨W3, hW3⟩ : ∃ W3, W2.alloc (.cells #[.int .i64 ((plc T n).1 : Int), .int .i64 ((plc T n).2 : Int)] 27) = W3 := ⟨_, rfl⟩
          obtain ⟨ab, hab⟩ : ∃ ab, W2.heap.size = ab := ⟨_, rfl⟩
          rw [hW3, hab]
          have hB3 : W3.heap[ab]? = some (.cells #[.int .i64 ((plc T n).1 : Int), .int .i64 ((plc T n).2 : Int)] 27 (0, 0)) := by rw [← hW3, ← hab]; exact heap_alloc_new W2 _
          have hT3 : Turn [] W2 W3 := by rw [← hW3]; exact (Turn.refl [] W2).alloc _
          have HP3 := Lib.hid (HP2.out.up hT3)
          have HT3 := Lib.hid ((HT2.out).trans' hT3)
          have HK3 := Lib.hid (hT3.heap HB2.out (by simp))
          have HB3 := Lib.hid hB3
          have hnkb : kk ≠ b := fun e => by
            have h1 := HK3.out
            rw [e, HP3.out.blk] at h1
            cases h1
          have hnab : ab ≠ b := fun e => by omega
          clear hT3 hW3 hab j0 j1 j2 b0 b1 b2 b3 hbW hkW hB3
          have j0 : W3.cell? ⟨kk, 0, none⟩ = some (.int .i64 (kd : Int)) := cell_of_row W3 kk 0 _ 173 (0, 0) HK3.out
          have b3 : W3.cell? ⟨b, 3, none⟩ = some V := cell_of_row W3 b 3 _ 129 (0, 0) HP3.out.blk
          have a0 : W3.cell? ⟨ab, 0, none⟩ = some (.int .i64 ((plc T n).1 : Int)) := cell_of_row W3 ab 0 _ 27 (0, 0) HB3.out
          have a1 : W3.cell? ⟨ab, 1, none⟩ = some (.int .i64 ((plc T n).2 : Int)) := cell_of_row W3 ab 1 _ 27 (0, 0) HB3.out
          have HFS := Lib.hid (HN.out.tok HKA.out (by rw [HQ.out]; exact hbig) (by rw [HQ.out]; exact h0))
          obtain ⟨X, hX⟩ : ∃ X, (T.drop n).take q = X := ⟨_, rfl⟩
          have hXl : X.length ≤ 1000000 := by rw [← hX, List.length_take, List.length_drop]; omega
          have HX := Lib.hid hX
          clear hX
          have hkl : kk < W3.heap.size := (Array.getElem?_eq_some_iff.1 HK3.out).1
          have hal : ab < W3.heap.size := (Array.getElem?_eq_some_iff.1 HB3.out).1
          have HTK := Lib.hid (takeR_any b F T n q V s ts W3.drew (HP3.out.up ((Turn.refl [] W3).drew)) hT hfl)
          rw [HX.out] at HTK
          have hne1 : b ≠ kk := hnkb.symm
          have hne2 : b ≠ ab := hnab.symm
          obtain ⟨pl, hpl⟩ : ∃ pl, (plc T n).1 = pl := ⟨_, rfl⟩
          obtain ⟨pc, hpc⟩ : ∃ pc, (plc T n).2 = pc := ⟨_, rfl⟩
          have HPP : Hid ((plc T n).1 = pl ∧ (plc T n).2 = pc) := Lib.hid ⟨hpl, hpc⟩
          rw [hpl] at a0
          rw [hpc] at a1
          rw [hpl, hpc] at HB3 ⊢
          clear hpl hpc
          have hXs : (⟨X.toArray⟩ : ByteArray).size ≤ 281474976710656 := by rw [Lib.size_eq]; simp; omega
          refine wp_region_held_drew (S := fun w' => w'.cell? ⟨kk, 0, none⟩ = some (.int .i64 (kd : Int)) ∧ w'.cell? ⟨ab, 0, none⟩ = some (.int .i64 (pl : Int)) ∧ w'.cell? ⟨ab, 1, none⟩ = some (.int .i64 (pc : Int))) (by kernel_rfl) ?_ (fun hHeld => ?_)
          · exact ⟨j0, a0, a1⟩
          refine wpAnyH_take (i := 0) (oi := { dst := some 35, op := Op.move (Operand.tmp 0), type := 145, pos := _, after := #[], guard := none }) (v := ?_) rfl (by kernel_rfl) (by kernel_rfl) (by kernel_rfl) (fun _ _ _ h => h) (Or.inl ⟨by rfl, ?_⟩) (by assumption) ?_
          rotate_left
          · intro w hSw; (try dsimp only at hSw); go_simp; (try with_reducible rfl)
          try simp only [Act.put, List.setIfInBounds_toArray, List.set_cons_zero, List.set_cons_succ]
          refine wpAnyH_take (i := 1) (oi := { dst := some 36, op := Op.move (Operand.tmp 0), type := 145, pos := _, after := #[], guard := none }) (v := ?_) rfl (by kernel_rfl) (by kernel_rfl) (by kernel_rfl) (fun _ _ _ h => h) (Or.inl ⟨by rfl, ?_⟩) (by assumption) ?_
          rotate_left
          · intro w hSw; (try dsimp only at hSw); go_simp; (try with_reducible rfl)
          try simp only [Act.put, List.setIfInBounds_toArray, List.set_cons_zero, List.set_cons_succ]
          refine wpAnyH_take (i := 2) (oi := { dst := some 37, op := Op.nilCheck (Operand.tmp 36), type := 0, pos := _, after := #[{ on := 1, ground := Ground.data }], guard := none }) (v := ?_) rfl (by kernel_rfl) (by kernel_rfl) (by kernel_rfl) (fun _ _ _ h => h) (Or.inl ⟨by rfl, ?_⟩) (by assumption) ?_
          rotate_left
          · intro w hSw; (try dsimp only at hSw); go_simp; (try with_reducible rfl)
          try simp only [Act.put, List.setIfInBounds_toArray, List.set_cons_zero, List.set_cons_succ]
          refine wpAnyH_take (i := 3) (oi := { dst := some 38, op := Op.fieldAddr 129 (Operand.tmp 37) 1, type := 0, pos := _, after := #[{ on := 2, ground := Ground.data }], guard := none }) (v := ?_) rfl (by kernel_rfl) (by kernel_rfl) (by kernel_rfl) (fun _ _ _ h => h) (Or.inl ⟨by rfl, ?_⟩) (by assumption) ?_
          rotate_left
          · intro w hSw; (try dsimp only at hSw); go_simp; (try with_reducible rfl)
          try simp only [Act.put, List.setIfInBounds_toArray, List.set_cons_zero, List.set_cons_succ]
          refine wpAnyH_take (i := 5) (oi := { dst := some 40, op := Op.fieldAddr 173 (Operand.tmp 6) 0, type := 0, pos := _, after := #[], guard := none }) (v := ?_) rfl (by kernel_rfl) (by kernel_rfl) (by kernel_rfl) (fun _ _ _ h => h) (Or.inl ⟨by rfl, ?_⟩) (by assumption) ?_
          rotate_left
          · intro w hSw; (try dsimp only at hSw); go_simp; (try with_reducible rfl)
          try simp only [Act.put, List.setIfInBounds_toArray, List.set_cons_zero, List.set_cons_succ]
          refine wpAnyH_take (i := 6) (oi := { dst := some 41, op := Op.load 3 (Operand.tmp 40), type := 3, pos := _, after := #[{ on := 5, ground := Ground.data }], guard := none }) (v := ?_) rfl (by kernel_rfl) (by kernel_rfl) (by kernel_rfl) (fun _ _ _ h => h) (Or.inl ⟨by rfl, ?_⟩) (by assumption) ?_
          rotate_left
          · intro w hSw; (try dsimp only at hSw); go_simp; (try with_reducible rfl)
          try simp only [Act.put, List.setIfInBounds_toArray, List.set_cons_zero, List.set_cons_succ]
          refine wpAnyH_take (i := 7) (oi := { dst := some 42, op := Op.move (Operand.tmp 0), type := 145, pos := _, after := #[], guard := none }) (v := ?_) rfl (by kernel_rfl) (by kernel_rfl) (by kernel_rfl) (fun _ _ _ h => h) (Or.inl ⟨by rfl, ?_⟩) (by assumption) ?_
          rotate_left
          · intro w hSw; (try dsimp only at hSw); go_simp; (try with_reducible rfl)
          try simp only [Act.put, List.setIfInBounds_toArray, List.set_cons_zero, List.set_cons_succ]
          refine wpAnyH_take (i := 8) (oi := { dst := some 43, op := Op.nilCheck (Operand.tmp 42), type := 0, pos := _, after := #[{ on := 7, ground := Ground.data }], guard := none }) (v := ?_) rfl (by kernel_rfl) (by kernel_rfl) (by kernel_rfl) (fun _ _ _ h => h) (Or.inl ⟨by rfl, ?_⟩) (by assumption) ?_
          rotate_left
          · intro w hSw; (try dsimp only at hSw); go_simp; (try with_reducible rfl)
          try simp only [Act.put, List.setIfInBounds_toArray, List.set_cons_zero, List.set_cons_succ]
          refine wpAnyH_take (i := 9) (oi := { dst := some 44, op := Op.fieldAddr 129 (Operand.tmp 43) 0, type := 0, pos := _, after := #[{ on := 8, ground := Ground.data }], guard := none }) (v := ?_) rfl (by kernel_rfl) (by kernel_rfl) (by kernel_rfl) (fun _ _ _ h => h) (Or.inl ⟨by rfl, ?_⟩) (by assumption) ?_
          rotate_left
          · intro w hSw; (try dsimp only at hSw); go_simp; (try with_reducible rfl)
          try simp only [Act.put, List.setIfInBounds_toArray, List.set_cons_zero, List.set_cons_succ]
          refine wpAnyH_take (i := 10) (oi := { dst := some 45, op := Op.move (Operand.tmp 7), type := 3, pos := _, after := #[], guard := none }) (v := ?_) rfl (by kernel_rfl) (by kernel_rfl) (by kernel_rfl) (fun _ _ _ h => h) (Or.inl ⟨by rfl, ?_⟩) (by assumption) ?_
          rotate_left
          · intro w hSw; (try dsimp only at hSw); go_simp; (try with_reducible rfl)
          try simp only [Act.put, List.setIfInBounds_toArray, List.set_cons_zero, List.set_cons_succ]
          refine wpAnyH_take (i := 13) (oi := { dst := some 48, op := Op.load 27 (Operand.tmp 8), type := 27, pos := _, after := #[], guard := none }) (v := ?_) rfl (by kernel_rfl) (by kernel_rfl) (by kernel_rfl) (fun _ _ _ h => h) (Or.inl ⟨by rfl, ?_⟩) (by assumption) ?_
          rotate_left
          · intro w hSw; (try dsimp only at hSw); go_simp; (try with_reducible rfl)
          try simp only [Act.put, List.setIfInBounds_toArray, List.set_cons_zero, List.set_cons_succ]
          refine wpAnyH_ready (rs := [4, 11]) (by kernel_rfl) (by simp) ?_
          refine AllReadyH.cons (o := { dst := some 39, op := Op.load 50 (Operand.tmp 38), type := 50, pos := _, after := #[{ on := 3, ground := Ground.data }], guard := none }) rfl (fun K hK => ?_) (AllReadyH.cons (o := { dst := some 46, op := Op.call { callee := Callee.value (Operand.func 133), args := #[Operand.tmp 44, Operand.tmp 45], argTypes := #[126, 3] }, type := 9, pos := _, after := #[{ on := 9, ground := Ground.data }, { on := 10, ground := Ground.data }], guard := none }) rfl (fun K hK => ?_) AllReadyH.nil)
          · go_simp
            refine hK.out _ _ ?_ (fun hHeld => ?_)
            · exact ⟨j0, a0, a1⟩
            clear hK K
            try simp only [Act.put, List.setIfInBounds_toArray, List.set_cons_zero, List.set_cons_succ]
            refine wpAnyH_ready (rs := [11]) (by kernel_rfl) (by simp) ?_
            refine AllReadyH.cons (o := { dst := some 46, op := Op.call { callee := Callee.value (Operand.func 133), args := #[Operand.tmp 44, Operand.tmp 45], argTypes := #[126, 3] }, type := 9, pos := _, after := #[{ on := 9, ground := Ground.data }, { on := 10, ground := Ground.data }], guard := none }) rfl (fun K hK => ?_) AllReadyH.nil
            go_simp
            go_at_call 133
            (with_reducible refine HTK.out.mono ?_)
            rintro e w4 ⟨rfl, ⟨s4, h4⟩, t4⟩
            have t4' : Turn [b] W3 w4 := (Turn.refl [b] W3).drew.trans t4 (by intro g hg; exact .inl hg)
            have b34 : w4.cell? ⟨b, 3, none⟩ = some V := cell_of_row w4 b 3 _ 129 (0, 0) h4.blk
            have HK4 := Lib.hid (t4'.heap HK3.out (by simpa using hnkb))
            have HA4 := Lib.hid (t4'.heap HB3.out (by simpa using hnab))
            have j04 : w4.cell? ⟨kk, 0, none⟩ = some (.int .i64 (kd : Int)) := cell_of_row w4 kk 0 _ 173 (0, 0) HK4.out
            have a04 : w4.cell? ⟨ab, 0, none⟩ = some (.int .i64 (pl : Int)) := cell_of_row w4 ab 0 _ 27 (0, 0) HA4.out
            have a14 : w4.cell? ⟨ab, 1, none⟩ = some (.int .i64 (pc : Int)) := cell_of_row w4 ab 1 _ 27 (0, 0) HA4.out
            have H4 := Lib.hid h4
            have HT4 := Lib.hid t4'
            clear h4 t4 t4'
            try go_wp2_with fail
            refine hK.out _ _ ?_ (fun hHeld => ?_)
            · exact ⟨j04, a04, a14⟩
            clear hK K
            try simp only [Act.put, List.setIfInBounds_toArray, List.set_cons_zero, List.set_cons_succ]
            refine wpAnyH_ready (rs := [12]) (by kernel_rfl) (by simp) ?_
            refine AllReadyH.cons (o := { dst := some 47, op := Op.call { callee := Callee.value (Operand.func 134), args := #[Operand.tmp 46], argTypes := #[9] }, type := 9, pos := _, after := #[{ on := 11, ground := Ground.data }, { on := 11, ground := Ground.chain }], guard := none }) rfl (fun K hK => ?_) AllReadyH.nil
            go_simp
            go_at_call 134
            (with_reducible refine (sClone_any ⟨X.toArray⟩ w4 hXs).mono ?_)
            rintro e w5 ⟨rfl, t5⟩
            have b35 : w5.cell? ⟨b, 3, none⟩ = some V := (t5.cell (p := ⟨b, 3, none⟩) (H4.out.fl b H4.out.fb) (by simp)).trans b34
            have HK5 := Lib.hid (t5.heap HK4.out (by simp))
            have HA5 := Lib.hid (t5.heap HA4.out (by simp))
            have t5a : Turn [] w5 (w5.alloc (.cells #[.int .i64 (kd : Int), .string ⟨X.toArray⟩, .int .i64 (pl : Int), .int .i64 (pc : Int)] 55)) := (Turn.refl [] w5).alloc _
            have j05 : w5.cell? ⟨kk, 0, none⟩ = some (.int .i64 (kd : Int)) := cell_of_row w5 kk 0 _ 173 (0, 0) HK5.out
            have a05 : w5.cell? ⟨ab, 0, none⟩ = some (.int .i64 (pl : Int)) := cell_of_row w5 ab 0 _ 27 (0, 0) HA5.out
            have a15 : w5.cell? ⟨ab, 1, none⟩ = some (.int .i64 (pc : Int)) := cell_of_row w5 ab 1 _ 27 (0, 0) HA5.out
            have b36 : (w5.alloc (.cells #[.int .i64 (kd : Int), .string ⟨X.toArray⟩, .int .i64 (pl : Int), .int .i64 (pc : Int)] 55)).cell? ⟨b, 3, none⟩ = some V := (t5a.cell (p := ⟨b, 3, none⟩) (Nat.lt_of_lt_of_le (H4.out.fl b H4.out.fb) t5.size) (by simp)).trans b35
            have j05a : (w5.alloc (.cells #[.int .i64 (kd : Int), .string ⟨X.toArray⟩, .int .i64 (pl : Int), .int .i64 (pc : Int)] 55)).cell? ⟨kk, 0, none⟩ = some (.int .i64 (kd : Int)) := cell_of_row _ kk 0 _ 173 (0, 0) (t5a.heap HK5.out (by simp))
            have a05a : (w5.alloc (.cells #[.int .i64 (kd : Int), .string ⟨X.toArray⟩, .int .i64 (pl : Int), .int .i64 (pc : Int)] 55)).cell? ⟨ab, 0, none⟩ = some (.int .i64 (pl : Int)) := cell_of_row _ ab 0 _ 27 (0, 0) (t5a.heap HA5.out (by simp))
            have a15a : (w5.alloc (.cells #[.int .i64 (kd : Int), .string ⟨X.toArray⟩, .int .i64 (pl : Int), .int .i64 (pc : Int)] 55)).cell? ⟨ab, 1, none⟩ = some (.int .i64 (pc : Int)) := cell_of_row _ ab 1 _ 27 (0, 0) (t5a.heap HA5.out (by simp))
            have H5 := Lib.hid (H4.out.up t5)
            have HT5 := Lib.hid (HT4.out.trans' t5)
            clear t5 t5a
            try go_wp2_with fail
            refine hK.out _ _ ?_ (fun hHeld => ?_)
            · exact ⟨j05, a05, a15⟩
            clear hK K
            try simp only [Act.put, List.setIfInBounds_toArray, List.set_cons_zero, List.set_cons_succ]
            refine wpAnyH_take (i := 14) (oi := { dst := some 49, op := Op.build 55 #[(0, Operand.tmp 41), (1, Operand.tmp 47), (2, Operand.tmp 48)], type := 55, pos := _, after := #[{ on := 6, ground := Ground.data }, { on := 12, ground := Ground.data }, { on := 13, ground := Ground.data }], guard := none }) (v := ?_) rfl (by kernel_rfl) (by kernel_rfl) (by kernel_rfl) (fun _ _ _ h => h) (Or.inl ⟨by rfl, ?_⟩) (by assumption) ?_
            rotate_left
            · intro w hSw; (try dsimp only at hSw); go_simp; (try with_reducible rfl)
            try simp only [Act.put, List.setIfInBounds_toArray, List.set_cons_zero, List.set_cons_succ]
            refine wpAnyH_ready (rs := [15]) (by kernel_rfl) (by simp) ?_
            refine AllReadyH.cons (o := { dst := some 50, op := Op.buildSlice 50 1 #[(0, Operand.tmp 49)], type := 50, pos := _, after := #[{ on := 14, ground := Ground.data }], guard := none }) rfl (fun K hK => ?_) AllReadyH.nil
            go_simp
            refine hK.out _ _ ?_ (fun hHeld => ?_)
            · exact ⟨j05a, a05a, a15a⟩
            clear hK K
            try simp only [Act.put, List.setIfInBounds_toArray, List.set_cons_zero, List.set_cons_succ]
            refine wpAnyH_ready (rs := [16]) (by kernel_rfl) (by simp) ?_
            refine AllReadyH.cons (o := { dst := some 51, op := Op.call { callee := Callee.builtin Builtin.append, args := #[Operand.tmp 39, Operand.tmp 50], argTypes := #[50, 50] }, type := 50, pos := _, after := #[{ on := 4, ground := Ground.data }, { on := 15, ground := Ground.data }, { on := 12, ground := Ground.chain }], guard := none }) rfl (fun K hK => ?_) AllReadyH.nil
            refine step_appT rfl (.tmp 39) (.tmp 50) rfl _ V ts ⟨kd, X, pl, pc⟩ w5.heap.size 1 (by simp [Act.eval, Act.put]) (by simp [Act.eval, Act.put]) (by exact Turn.owns ((Turn.refl [] w5).alloc _) H5.out.row (by simp)) (by exact heap_alloc_new w5 _) (by omega) ?_
            intro v6 w6 ho6 ht6 hm6
            have t5a : Turn [] w5 (w5.alloc (.cells #[.int .i64 (kd : Int), .string ⟨X.toArray⟩, .int .i64 (pl : Int), .int .i64 (pc : Int)] 55)) := (Turn.refl [] w5).alloc _
            have hb6 := ht6.heap (t5a.heap H5.out.blk (by simp)) (fun hg => H5.out.vb (by simpa using hg))
            have hk6 := ht6.heap (t5a.heap HK5.out (by simp)) (fun hg => own_ne H5.out.row HK5.out (by decide) (by simpa using hg))
            have ha6 := ht6.heap (t5a.heap HA5.out (by simp)) (fun hg => own_ne H5.out.row HA5.out (by decide) (by simpa using hg))
            have n3 : w6.cell? ⟨b, 3, none⟩ = some V := cell_of_row w6 b 3 _ 129 (0, 0) hb6
            have f3 : w6.frozen? ⟨b, 3, none⟩ = false := frozen_of_row w6 b 3 _ 129 hb6
            have j06 : w6.cell? ⟨kk, 0, none⟩ = some (.int .i64 (kd : Int)) := cell_of_row w6 kk 0 _ 173 (0, 0) hk6
            have a06 : w6.cell? ⟨ab, 0, none⟩ = some (.int .i64 (pl : Int)) := cell_of_row w6 ab 0 _ 27 (0, 0) ha6
            have a16 : w6.cell? ⟨ab, 1, none⟩ = some (.int .i64 (pc : Int)) := cell_of_row w6 ab 1 _ 27 (0, 0) ha6
            obtain ⟨A6, c6, hv6, _, _⟩ := ho6.form
            rw [List.length_append, List.length_singleton] at hv6
            have HST := Lib.hid (H5.out.stored ho6 ht6 hm6)
            subst hv6
            clear ho6 ht6 hm6 hb6 hk6 ha6 t5a
            refine hK.out _ _ ?_ (fun hHeld => ?_)
            · exact ⟨j06, a06, a16⟩
            clear hK K
            try simp only [Act.put, List.setIfInBounds_toArray, List.set_cons_zero, List.set_cons_succ]
            refine wpAnyH_take (i := 17) (oi := { dst := some 52, op := Op.nilCheck (Operand.tmp 35), type := 0, pos := _, after := #[{ on := 0, ground := Ground.data }, { on := 0, ground := Ground.phase }, { on := 1, ground := Ground.phase }, { on := 2, ground := Ground.phase }, { on := 3, ground := Ground.phase }, { on := 4, ground := Ground.phase }, { on := 5, ground := Ground.phase }, { on := 6, ground := Ground.phase }, { on := 7, ground := Ground.phase }, { on := 8, ground := Ground.phase }, { on := 9, ground := Ground.phase }, { on := 10, ground := Ground.phase }, { on := 11, ground := Ground.phase }, { on := 12, ground := Ground.phase }, { on := 13, ground := Ground.phase }, { on := 14, ground := Ground.phase }, { on := 15, ground := Ground.phase }, { on := 16, ground := Ground.phase }], guard := none }) (v := ?_) rfl (by kernel_rfl) (by kernel_rfl) (by kernel_rfl) (fun _ _ _ h => h) (Or.inl ⟨by rfl, ?_⟩) (by assumption) ?_
            rotate_left
            · intro w hSw; (try dsimp only at hSw); go_simp; (try with_reducible rfl)
            try simp only [Act.put, List.setIfInBounds_toArray, List.set_cons_zero, List.set_cons_succ]
            refine wpAnyH_take (i := 18) (oi := { dst := some 53, op := Op.fieldAddr 129 (Operand.tmp 52) 1, type := 0, pos := _, after := #[{ on := 17, ground := Ground.data }, { on := 0, ground := Ground.phase }, { on := 1, ground := Ground.phase }, { on := 2, ground := Ground.phase }, { on := 3, ground := Ground.phase }, { on := 4, ground := Ground.phase }, { on := 5, ground := Ground.phase }, { on := 6, ground := Ground.phase }, { on := 7, ground := Ground.phase }, { on := 8, ground := Ground.phase }, { on := 9, ground := Ground.phase }, { on := 10, ground := Ground.phase }, { on := 11, ground := Ground.phase }, { on := 12, ground := Ground.phase }, { on := 13, ground := Ground.phase }, { on := 14, ground := Ground.phase }, { on := 15, ground := Ground.phase }, { on := 16, ground := Ground.phase }], guard := none }) (v := ?_) rfl (by kernel_rfl) (by kernel_rfl) (by kernel_rfl) (fun _ _ _ h => h) (Or.inl ⟨by rfl, ?_⟩) (by assumption) ?_
            rotate_left
            · intro w hSw; (try dsimp only at hSw); go_simp; (try with_reducible rfl)
            try simp only [Act.put, List.setIfInBounds_toArray, List.set_cons_zero, List.set_cons_succ]
            refine wpAnyH_ready (rs := [19]) (by kernel_rfl) (by simp) ?_
            refine AllReadyH.cons (o := { dst := none, op := Op.store 50 (Operand.tmp 53) (Operand.tmp 51), type := 0, pos := _, after := #[{ on := 18, ground := Ground.data }, { on := 16, ground := Ground.data }, { on := 16, ground := Ground.chain }, { on := 0, ground := Ground.phase }, { on := 1, ground := Ground.phase }, { on := 2, ground := Ground.phase }, { on := 3, ground := Ground.phase }, { on := 4, ground := Ground.phase }, { on := 5, ground := Ground.phase }, { on := 6, ground := Ground.phase }, { on := 7, ground := Ground.phase }, { on := 8, ground := Ground.phase }, { on := 9, ground := Ground.phase }, { on := 10, ground := Ground.phase }, { on := 11, ground := Ground.phase }, { on := 12, ground := Ground.phase }, { on := 13, ground := Ground.phase }, { on := 14, ground := Ground.phase }, { on := 15, ground := Ground.phase }, { on := 16, ground := Ground.phase }], guard := none }) rfl (fun K hK => ?_) AllReadyH.nil
            go_simp
            refine hK.out _ _ ?_ (fun hHeld => ?_)
            · exact ⟨(World.cell?_setCell_other hne1 _).trans j06, (World.cell?_setCell_other hne2 _).trans a06, (World.cell?_setCell_other hne2 _).trans a16⟩
            clear hK K
            try simp only [Act.put, List.setIfInBounds_toArray, List.set_cons_zero, List.set_cons_succ]
            refine wpAnyH_done (by kernel_rfl) ?_ _
            go_wp2_with fail
            go_ret
            obtain ⟨F', hR', hF', hT'⟩ := HST.out
            have hTw : Turn F w w5 := ((HT3.out).more (by simp)).trans HT5.out (by intro g hg; simp at hg; subst hg; exact .inl H5.out.fb)
            rw [HFS.out, HQ.out, HX.out, HPP.out.1, HPP.out.2]
            exact ⟨rfl, F', (Foot.refl w.heap.size F).trans hF' hTw.size, hTw.trans hT' (fun g hg => .inl hg), fun h => absurd rfl h, fun _ => hR'⟩
          · go_simp
            go_at_call 133
            (with_reducible refine HTK.out.mono ?_)
            rintro e w4 ⟨rfl, ⟨s4, h4⟩, t4⟩
            have t4' : Turn [b] W3 w4 := (Turn.refl [b] W3).drew.trans t4 (by intro g hg; exact .inl hg)
            have b34 : w4.cell? ⟨b, 3, none⟩ = some V := cell_of_row w4 b 3 _ 129 (0, 0) h4.blk
            have HK4 := Lib.hid (t4'.heap HK3.out (by simpa using hnkb))
            have HA4 := Lib.hid (t4'.heap HB3.out (by simpa using hnab))
            have j04 : w4.cell? ⟨kk, 0, none⟩ = some (.int .i64 (kd : Int)) := cell_of_row w4 kk 0 _ 173 (0, 0) HK4.out
            have a04 : w4.cell? ⟨ab, 0, none⟩ = some (.int .i64 (pl : Int)) := cell_of_row w4 ab 0 _ 27 (0, 0) HA4.out
            have a14 : w4.cell? ⟨ab, 1, none⟩ = some (.int .i64 (pc : Int)) := cell_of_row w4 ab 1 _ 27 (0, 0) HA4.out
            have H4 := Lib.hid h4
            have HT4 := Lib.hid t4'
            clear h4 t4 t4'
            try go_wp2_with fail
            refine hK.out _ _ ?_ (fun hHeld => ?_)
            · exact ⟨j04, a04, a14⟩
            clear hK K
            try simp only [Act.put, List.setIfInBounds_toArray, List.set_cons_zero, List.set_cons_succ]
            refine wpAnyH_ready (rs := [4, 12]) (by kernel_rfl) (by simp) ?_
            refine AllReadyH.cons (o := { dst := some 39, op := Op.load 50 (Operand.tmp 38), type := 50, pos := _, after := #[{ on := 3, ground := Ground.data }], guard := none }) rfl (fun K hK => ?_) (AllReadyH.cons (o := { dst := some 47, op := Op.call { callee := Callee.value (Operand.func 134), args := #[Operand.tmp 46], argTypes := #[9] }, type := 9, pos := _, after := #[{ on := 11, ground := Ground.data }, { on := 11, ground := Ground.chain }], guard := none }) rfl (fun K hK => ?_) AllReadyH.nil)
            · go_simp
              refine hK.out _ _ ?_ (fun hHeld => ?_)
              · exact ⟨j04, a04, a14⟩
              clear hK K
              try simp only [Act.put, List.setIfInBounds_toArray, List.set_cons_zero, List.set_cons_succ]
              refine wpAnyH_ready (rs := [12]) (by kernel_rfl) (by simp) ?_
              refine AllReadyH.cons (o := { dst := some 47, op := Op.call { callee := Callee.value (Operand.func 134), args := #[Operand.tmp 46], argTypes := #[9] }, type := 9, pos := _, after := #[{ on := 11, ground := Ground.data }, { on := 11, ground := Ground.chain }], guard := none }) rfl (fun K hK => ?_) AllReadyH.nil
              go_simp
              go_at_call 134
              (with_reducible refine (sClone_any ⟨X.toArray⟩ w4 hXs).mono ?_)
              rintro e w5 ⟨rfl, t5⟩
              have b35 : w5.cell? ⟨b, 3, none⟩ = some V := (t5.cell (p := ⟨b, 3, none⟩) (H4.out.fl b H4.out.fb) (by simp)).trans b34
              have HK5 := Lib.hid (t5.heap HK4.out (by simp))
              have HA5 := Lib.hid (t5.heap HA4.out (by simp))
              have t5a : Turn [] w5 (w5.alloc (.cells #[.int .i64 (kd : Int), .string ⟨X.toArray⟩, .int .i64 (pl : Int), .int .i64 (pc : Int)] 55)) := (Turn.refl [] w5).alloc _
              have j05 : w5.cell? ⟨kk, 0, none⟩ = some (.int .i64 (kd : Int)) := cell_of_row w5 kk 0 _ 173 (0, 0) HK5.out
              have a05 : w5.cell? ⟨ab, 0, none⟩ = some (.int .i64 (pl : Int)) := cell_of_row w5 ab 0 _ 27 (0, 0) HA5.out
              have a15 : w5.cell? ⟨ab, 1, none⟩ = some (.int .i64 (pc : Int)) := cell_of_row w5 ab 1 _ 27 (0, 0) HA5.out
              have b36 : (w5.alloc (.cells #[.int .i64 (kd : Int), .string ⟨X.toArray⟩, .int .i64 (pl : Int), .int .i64 (pc : Int)] 55)).cell? ⟨b, 3, none⟩ = some V := (t5a.cell (p := ⟨b, 3, none⟩) (Nat.lt_of_lt_of_le (H4.out.fl b H4.out.fb) t5.size) (by simp)).trans b35
              have j05a : (w5.alloc (.cells #[.int .i64 (kd : Int), .string ⟨X.toArray⟩, .int .i64 (pl : Int), .int .i64 (pc : Int)] 55)).cell? ⟨kk, 0, none⟩ = some (.int .i64 (kd : Int)) := cell_of_row _ kk 0 _ 173 (0, 0) (t5a.heap HK5.out (by simp))
              have a05a : (w5.alloc (.cells #[.int .i64 (kd : Int), .string ⟨X.toArray⟩, .int .i64 (pl : Int), .int .i64 (pc : Int)] 55)).cell? ⟨ab, 0, none⟩ = some (.int .i64 (pl : Int)) := cell_of_row _ ab 0 _ 27 (0, 0) (t5a.heap HA5.out (by simp))
              have a15a : (w5.alloc (.cells #[.int .i64 (kd : Int), .string ⟨X.toArray⟩, .int .i64 (pl : Int), .int .i64 (pc : Int)] 55)).cell? ⟨ab, 1, none⟩ = some (.int .i64 (pc : Int)) := cell_of_row _ ab 1 _ 27 (0, 0) (t5a.heap HA5.out (by simp))
              have H5 := Lib.hid (H4.out.up t5)
              have HT5 := Lib.hid (HT4.out.trans' t5)
              clear t5 t5a
              try go_wp2_with fail
              refine hK.out _ _ ?_ (fun hHeld => ?_)
              · exact ⟨j05, a05, a15⟩
              clear hK K
              try simp only [Act.put, List.setIfInBounds_toArray, List.set_cons_zero, List.set_cons_succ]
              refine wpAnyH_take (i := 14) (oi := { dst := some 49, op := Op.build 55 #[(0, Operand.tmp 41), (1, Operand.tmp 47), (2, Operand.tmp 48)], type := 55, pos := _, after := #[{ on := 6, ground := Ground.data }, { on := 12, ground := Ground.data }, { on := 13, ground := Ground.data }], guard := none }) (v := ?_) rfl (by kernel_rfl) (by kernel_rfl) (by kernel_rfl) (fun _ _ _ h => h) (Or.inl ⟨by rfl, ?_⟩) (by assumption) ?_
              rotate_left
              · intro w hSw; (try dsimp only at hSw); go_simp; (try with_reducible rfl)
              try simp only [Act.put, List.setIfInBounds_toArray, List.set_cons_zero, List.set_cons_succ]
              refine wpAnyH_ready (rs := [15]) (by kernel_rfl) (by simp) ?_
              refine AllReadyH.cons (o := { dst := some 50, op := Op.buildSlice 50 1 #[(0, Operand.tmp 49)], type := 50, pos := _, after := #[{ on := 14, ground := Ground.data }], guard := none }) rfl (fun K hK => ?_) AllReadyH.nil
              go_simp
              refine hK.out _ _ ?_ (fun hHeld => ?_)
              · exact ⟨j05a, a05a, a15a⟩
              clear hK K
              try simp only [Act.put, List.setIfInBounds_toArray, List.set_cons_zero, List.set_cons_succ]
              refine wpAnyH_ready (rs := [16]) (by kernel_rfl) (by simp) ?_
              refine AllReadyH.cons (o := { dst := some 51, op := Op.call { callee := Callee.builtin Builtin.append, args := #[Operand.tmp 39, Operand.tmp 50], argTypes := #[50, 50] }, type := 50, pos := _, after := #[{ on := 4, ground := Ground.data }, { on := 15, ground := Ground.data }, { on := 12, ground := Ground.chain }], guard := none }) rfl (fun K hK => ?_) AllReadyH.nil
              refine step_appT rfl (.tmp 39) (.tmp 50) rfl _ V ts ⟨kd, X, pl, pc⟩ w5.heap.size 1 (by simp [Act.eval, Act.put]) (by simp [Act.eval, Act.put]) (by exact Turn.owns ((Turn.refl [] w5).alloc _) H5.out.row (by simp)) (by exact heap_alloc_new w5 _) (by omega) ?_
              intro v6 w6 ho6 ht6 hm6
              have t5a : Turn [] w5 (w5.alloc (.cells #[.int .i64 (kd : Int), .string ⟨X.toArray⟩, .int .i64 (pl : Int), .int .i64 (pc : Int)] 55)) := (Turn.refl [] w5).alloc _
              have hb6 := ht6.heap (t5a.heap H5.out.blk (by simp)) (fun hg => H5.out.vb (by simpa using hg))
              have hk6 := ht6.heap (t5a.heap HK5.out (by simp)) (fun hg => own_ne H5.out.row HK5.out (by decide) (by simpa using hg))
              have ha6 := ht6.heap (t5a.heap HA5.out (by simp)) (fun hg => own_ne H5.out.row HA5.out (by decide) (by simpa using hg))
              have n3 : w6.cell? ⟨b, 3, none⟩ = some V := cell_of_row w6 b 3 _ 129 (0, 0) hb6
              have f3 : w6.frozen? ⟨b, 3, none⟩ = false := frozen_of_row w6 b 3 _ 129 hb6
              have j06 : w6.cell? ⟨kk, 0, none⟩ = some (.int .i64 (kd : Int)) := cell_of_row w6 kk 0 _ 173 (0, 0) hk6
              have a06 : w6.cell? ⟨ab, 0, none⟩ = some (.int .i64 (pl : Int)) := cell_of_row w6 ab 0 _ 27 (0, 0) ha6
              have a16 : w6.cell? ⟨ab, 1, none⟩ = some (.int .i64 (pc : Int)) := cell_of_row w6 ab 1 _ 27 (0, 0) ha6
              obtain ⟨A6, c6, hv6, _, _⟩ := ho6.form
              rw [List.length_append, List.length_singleton] at hv6
              have HST := Lib.hid (H5.out.stored ho6 ht6 hm6)
              subst hv6
              clear ho6 ht6 hm6 hb6 hk6 ha6 t5a
              refine hK.out _ _ ?_ (fun hHeld => ?_)
              · exact ⟨j06, a06, a16⟩
              clear hK K
              try simp only [Act.put, List.setIfInBounds_toArray, List.set_cons_zero, List.set_cons_succ]
              refine wpAnyH_take (i := 17) (oi := { dst := some 52, op := Op.nilCheck (Operand.tmp 35), type := 0, pos := _, after := #[{ on := 0, ground := Ground.data }, { on := 0, ground := Ground.phase }, { on := 1, ground := Ground.phase }, { on := 2, ground := Ground.phase }, { on := 3, ground := Ground.phase }, { on := 4, ground := Ground.phase }, { on := 5, ground := Ground.phase }, { on := 6, ground := Ground.phase }, { on := 7, ground := Ground.phase }, { on := 8, ground := Ground.phase }, { on := 9, ground := Ground.phase }, { on := 10, ground := Ground.phase }, { on := 11, ground := Ground.phase }, { on := 12, ground := Ground.phase }, { on := 13, ground := Ground.phase }, { on := 14, ground := Ground.phase }, { on := 15, ground := Ground.phase }, { on := 16, ground := Ground.phase }], guard := none }) (v := ?_) rfl (by kernel_rfl) (by kernel_rfl) (by kernel_rfl) (fun _ _ _ h => h) (Or.inl ⟨by rfl, ?_⟩) (by assumption) ?_
              rotate_left
              · intro w hSw; (try dsimp only at hSw); go_simp; (try with_reducible rfl)
              try simp only [Act.put, List.setIfInBounds_toArray, List.set_cons_zero, List.set_cons_succ]
              refine wpAnyH_take (i := 18) (oi := { dst := some 53, op := Op.fieldAddr 129 (Operand.tmp 52) 1, type := 0, pos := _, after := #[{ on := 17, ground := Ground.data }, { on := 0, ground := Ground.phase }, { on := 1, ground := Ground.phase }, { on := 2, ground := Ground.phase }, { on := 3, ground := Ground.phase }, { on := 4, ground := Ground.phase }, { on := 5, ground := Ground.phase }, { on := 6, ground := Ground.phase }, { on := 7, ground := Ground.phase }, { on := 8, ground := Ground.phase }, { on := 9, ground := Ground.phase }, { on := 10, ground := Ground.phase }, { on := 11, ground := Ground.phase }, { on := 12, ground := Ground.phase }, { on := 13, ground := Ground.phase }, { on := 14, ground := Ground.phase }, { on := 15, ground := Ground.phase }, { on := 16, ground := Ground.phase }], guard := none }) (v := ?_) rfl (by kernel_rfl) (by kernel_rfl) (by kernel_rfl) (fun _ _ _ h => h) (Or.inl ⟨by rfl, ?_⟩) (by assumption) ?_
              rotate_left
              · intro w hSw; (try dsimp only at hSw); go_simp; (try with_reducible rfl)
              try simp only [Act.put, List.setIfInBounds_toArray, List.set_cons_zero, List.set_cons_succ]
              refine wpAnyH_ready (rs := [19]) (by kernel_rfl) (by simp) ?_
              refine AllReadyH.cons (o := { dst := none, op := Op.store 50 (Operand.tmp 53) (Operand.tmp 51), type := 0, pos := _, after := #[{ on := 18, ground := Ground.data }, { on := 16, ground := Ground.data }, { on := 16, ground := Ground.chain }, { on := 0, ground := Ground.phase }, { on := 1, ground := Ground.phase }, { on := 2, ground := Ground.phase }, { on := 3, ground := Ground.phase }, { on := 4, ground := Ground.phase }, { on := 5, ground := Ground.phase }, { on := 6, ground := Ground.phase }, { on := 7, ground := Ground.phase }, { on := 8, ground := Ground.phase }, { on := 9, ground := Ground.phase }, { on := 10, ground := Ground.phase }, { on := 11, ground := Ground.phase }, { on := 12, ground := Ground.phase }, { on := 13, ground := Ground.phase }, { on := 14, ground := Ground.phase }, { on := 15, ground := Ground.phase }, { on := 16, ground := Ground.phase }], guard := none }) rfl (fun K hK => ?_) AllReadyH.nil
              go_simp
              refine hK.out _ _ ?_ (fun hHeld => ?_)
              · exact ⟨(World.cell?_setCell_other hne1 _).trans j06, (World.cell?_setCell_other hne2 _).trans a06, (World.cell?_setCell_other hne2 _).trans a16⟩
              clear hK K
              try simp only [Act.put, List.setIfInBounds_toArray, List.set_cons_zero, List.set_cons_succ]
              refine wpAnyH_done (by kernel_rfl) ?_ _
              go_wp2_with fail
              go_ret
              obtain ⟨F', hR', hF', hT'⟩ := HST.out
              have hTw : Turn F w w5 := ((HT3.out).more (by simp)).trans HT5.out (by intro g hg; simp at hg; subst hg; exact .inl H5.out.fb)
              rw [HFS.out, HQ.out, HX.out, HPP.out.1, HPP.out.2]
              exact ⟨rfl, F', (Foot.refl w.heap.size F).trans hF' hTw.size, hTw.trans hT' (fun g hg => .inl hg), fun h => absurd rfl h, fun _ => hR'⟩
            · go_simp
              go_at_call 134
              (with_reducible refine (sClone_any ⟨X.toArray⟩ w4 hXs).mono ?_)
              rintro e w5 ⟨rfl, t5⟩
              have b35 : w5.cell? ⟨b, 3, none⟩ = some V := (t5.cell (p := ⟨b, 3, none⟩) (H4.out.fl b H4.out.fb) (by simp)).trans b34
              have HK5 := Lib.hid (t5.heap HK4.out (by simp))
              have HA5 := Lib.hid (t5.heap HA4.out (by simp))
              have t5a : Turn [] w5 (w5.alloc (.cells #[.int .i64 (kd : Int), .string ⟨X.toArray⟩, .int .i64 (pl : Int), .int .i64 (pc : Int)] 55)) := (Turn.refl [] w5).alloc _
              have j05 : w5.cell? ⟨kk, 0, none⟩ = some (.int .i64 (kd : Int)) := cell_of_row w5 kk 0 _ 173 (0, 0) HK5.out
              have a05 : w5.cell? ⟨ab, 0, none⟩ = some (.int .i64 (pl : Int)) := cell_of_row w5 ab 0 _ 27 (0, 0) HA5.out
              have a15 : w5.cell? ⟨ab, 1, none⟩ = some (.int .i64 (pc : Int)) := cell_of_row w5 ab 1 _ 27 (0, 0) HA5.out
              have b36 : (w5.alloc (.cells #[.int .i64 (kd : Int), .string ⟨X.toArray⟩, .int .i64 (pl : Int), .int .i64 (pc : Int)] 55)).cell? ⟨b, 3, none⟩ = some V := (t5a.cell (p := ⟨b, 3, none⟩) (Nat.lt_of_lt_of_le (H4.out.fl b H4.out.fb) t5.size) (by simp)).trans b35
              have j05a : (w5.alloc (.cells #[.int .i64 (kd : Int), .string ⟨X.toArray⟩, .int .i64 (pl : Int), .int .i64 (pc : Int)] 55)).cell? ⟨kk, 0, none⟩ = some (.int .i64 (kd : Int)) := cell_of_row _ kk 0 _ 173 (0, 0) (t5a.heap HK5.out (by simp))
              have a05a : (w5.alloc (.cells #[.int .i64 (kd : Int), .string ⟨X.toArray⟩, .int .i64 (pl : Int), .int .i64 (pc : Int)] 55)).cell? ⟨ab, 0, none⟩ = some (.int .i64 (pl : Int)) := cell_of_row _ ab 0 _ 27 (0, 0) (t5a.heap HA5.out (by simp))
              have a15a : (w5.alloc (.cells #[.int .i64 (kd : Int), .string ⟨X.toArray⟩, .int .i64 (pl : Int), .int .i64 (pc : Int)] 55)).cell? ⟨ab, 1, none⟩ = some (.int .i64 (pc : Int)) := cell_of_row _ ab 1 _ 27 (0, 0) (t5a.heap HA5.out (by simp))
              have H5 := Lib.hid (H4.out.up t5)
              have HT5 := Lib.hid (HT4.out.trans' t5)
              clear t5 t5a
              try go_wp2_with fail
              refine hK.out _ _ ?_ (fun hHeld => ?_)
              · exact ⟨j05, a05, a15⟩
              clear hK K
              try simp only [Act.put, List.setIfInBounds_toArray, List.set_cons_zero, List.set_cons_succ]
              refine wpAnyH_take (i := 14) (oi := { dst := some 49, op := Op.build 55 #[(0, Operand.tmp 41), (1, Operand.tmp 47), (2, Operand.tmp 48)], type := 55, pos := _, after := #[{ on := 6, ground := Ground.data }, { on := 12, ground := Ground.data }, { on := 13, ground := Ground.data }], guard := none }) (v := ?_) rfl (by kernel_rfl) (by kernel_rfl) (by kernel_rfl) (fun _ _ _ h => h) (Or.inl ⟨by rfl, ?_⟩) (by assumption) ?_
              rotate_left
              · intro w hSw; (try dsimp only at hSw); go_simp; (try with_reducible rfl)
              try simp only [Act.put, List.setIfInBounds_toArray, List.set_cons_zero, List.set_cons_succ]
              refine wpAnyH_ready (rs := [4, 15]) (by kernel_rfl) (by simp) ?_
              refine AllReadyH.cons (o := { dst := some 39, op := Op.load 50 (Operand.tmp 38), type := 50, pos := _, after := #[{ on := 3, ground := Ground.data }], guard := none }) rfl (fun K hK => ?_) (AllReadyH.cons (o := { dst := some 50, op := Op.buildSlice 50 1 #[(0, Operand.tmp 49)], type := 50, pos := _, after := #[{ on := 14, ground := Ground.data }], guard := none }) rfl (fun K hK => ?_) AllReadyH.nil)
              · go_simp
                refine hK.out _ _ ?_ (fun hHeld => ?_)
                · exact ⟨j05, a05, a15⟩
                clear hK K
                try simp only [Act.put, List.setIfInBounds_toArray, List.set_cons_zero, List.set_cons_succ]
                refine wpAnyH_ready (rs := [15]) (by kernel_rfl) (by simp) ?_
                refine AllReadyH.cons (o := { dst := some 50, op := Op.buildSlice 50 1 #[(0, Operand.tmp 49)], type := 50, pos := _, after := #[{ on := 14, ground := Ground.data }], guard := none }) rfl (fun K hK => ?_) AllReadyH.nil
                go_simp
                refine hK.out _ _ ?_ (fun hHeld => ?_)
                · exact ⟨j05a, a05a, a15a⟩
                clear hK K
                try simp only [Act.put, List.setIfInBounds_toArray, List.set_cons_zero, List.set_cons_succ]
                refine wpAnyH_ready (rs := [16]) (by kernel_rfl) (by simp) ?_
                refine AllReadyH.cons (o := { dst := some 51, op := Op.call { callee := Callee.builtin Builtin.append, args := #[Operand.tmp 39, Operand.tmp 50], argTypes := #[50, 50] }, type := 50, pos := _, after := #[{ on := 4, ground := Ground.data }, { on := 15, ground := Ground.data }, { on := 12, ground := Ground.chain }], guard := none }) rfl (fun K hK => ?_) AllReadyH.nil
                refine step_appT rfl (.tmp 39) (.tmp 50) rfl _ V ts ⟨kd, X, pl, pc⟩ w5.heap.size 1 (by simp [Act.eval, Act.put]) (by simp [Act.eval, Act.put]) (by exact Turn.owns ((Turn.refl [] w5).alloc _) H5.out.row (by simp)) (by exact heap_alloc_new w5 _) (by omega) ?_
                intro v6 w6 ho6 ht6 hm6
                have t5a : Turn [] w5 (w5.alloc (.cells #[.int .i64 (kd : Int), .string ⟨X.toArray⟩, .int .i64 (pl : Int), .int .i64 (pc : Int)] 55)) := (Turn.refl [] w5).alloc _
                have hb6 := ht6.heap (t5a.heap H5.out.blk (by simp)) (fun hg => H5.out.vb (by simpa using hg))
                have hk6 := ht6.heap (t5a.heap HK5.out (by simp)) (fun hg => own_ne H5.out.row HK5.out (by decide) (by simpa using hg))
                have ha6 := ht6.heap (t5a.heap HA5.out (by simp)) (fun hg => own_ne H5.out.row HA5.out (by decide) (by simpa using hg))
                have n3 : w6.cell? ⟨b, 3, none⟩ = some V := cell_of_row w6 b 3 _ 129 (0, 0) hb6
                have f3 : w6.frozen? ⟨b, 3, none⟩ = false := frozen_of_row w6 b 3 _ 129 hb6
                have j06 : w6.cell? ⟨kk, 0, none⟩ = some (.int .i64 (kd : Int)) := cell_of_row w6 kk 0 _ 173 (0, 0) hk6
                have a06 : w6.cell? ⟨ab, 0, none⟩ = some (.int .i64 (pl : Int)) := cell_of_row w6 ab 0 _ 27 (0, 0) ha6
                have a16 : w6.cell? ⟨ab, 1, none⟩ = some (.int .i64 (pc : Int)) := cell_of_row w6 ab 1 _ 27 (0, 0) ha6
                obtain ⟨A6, c6, hv6, _, _⟩ := ho6.form
                rw [List.length_append, List.length_singleton] at hv6
                have HST := Lib.hid (H5.out.stored ho6 ht6 hm6)
                subst hv6
                clear ho6 ht6 hm6 hb6 hk6 ha6 t5a
                refine hK.out _ _ ?_ (fun hHeld => ?_)
                · exact ⟨j06, a06, a16⟩
                clear hK K
                try simp only [Act.put, List.setIfInBounds_toArray, List.set_cons_zero, List.set_cons_succ]
                refine wpAnyH_take (i := 17) (oi := { dst := some 52, op := Op.nilCheck (Operand.tmp 35), type := 0, pos := _, after := #[{ on := 0, ground := Ground.data }, { on := 0, ground := Ground.phase }, { on := 1, ground := Ground.phase }, { on := 2, ground := Ground.phase }, { on := 3, ground := Ground.phase }, { on := 4, ground := Ground.phase }, { on := 5, ground := Ground.phase }, { on := 6, ground := Ground.phase }, { on := 7, ground := Ground.phase }, { on := 8, ground := Ground.phase }, { on := 9, ground := Ground.phase }, { on := 10, ground := Ground.phase }, { on := 11, ground := Ground.phase }, { on := 12, ground := Ground.phase }, { on := 13, ground := Ground.phase }, { on := 14, ground := Ground.phase }, { on := 15, ground := Ground.phase }, { on := 16, ground := Ground.phase }], guard := none }) (v := ?_) rfl (by kernel_rfl) (by kernel_rfl) (by kernel_rfl) (fun _ _ _ h => h) (Or.inl ⟨by rfl, ?_⟩) (by assumption) ?_
                rotate_left
                · intro w hSw; (try dsimp only at hSw); go_simp; (try with_reducible rfl)
                try simp only [Act.put, List.setIfInBounds_toArray, List.set_cons_zero, List.set_cons_succ]
                refine wpAnyH_take (i := 18) (oi := { dst := some 53, op := Op.fieldAddr 129 (Operand.tmp 52) 1, type := 0, pos := _, after := #[{ on := 17, ground := Ground.data }, { on := 0, ground := Ground.phase }, { on := 1, ground := Ground.phase }, { on := 2, ground := Ground.phase }, { on := 3, ground := Ground.phase }, { on := 4, ground := Ground.phase }, { on := 5, ground := Ground.phase }, { on := 6, ground := Ground.phase }, { on := 7, ground := Ground.phase }, { on := 8, ground := Ground.phase }, { on := 9, ground := Ground.phase }, { on := 10, ground := Ground.phase }, { on := 11, ground := Ground.phase }, { on := 12, ground := Ground.phase }, { on := 13, ground := Ground.phase }, { on := 14, ground := Ground.phase }, { on := 15, ground := Ground.phase }, { on := 16, ground := Ground.phase }], guard := none }) (v := ?_) rfl (by kernel_rfl) (by kernel_rfl) (by kernel_rfl) (fun _ _ _ h => h) (Or.inl ⟨by rfl, ?_⟩) (by assumption) ?_
                rotate_left
                · intro w hSw; (try dsimp only at hSw); go_simp; (try with_reducible rfl)
                try simp only [Act.put, List.setIfInBounds_toArray, List.set_cons_zero, List.set_cons_succ]
                refine wpAnyH_ready (rs := [19]) (by kernel_rfl) (by simp) ?_
                refine AllReadyH.cons (o := { dst := none, op := Op.store 50 (Operand.tmp 53) (Operand.tmp 51), type := 0, pos := _, after := #[{ on := 18, ground := Ground.data }, { on := 16, ground := Ground.data }, { on := 16, ground := Ground.chain }, { on := 0, ground := Ground.phase }, { on := 1, ground := Ground.phase }, { on := 2, ground := Ground.phase }, { on := 3, ground := Ground.phase }, { on := 4, ground := Ground.phase }, { on := 5, ground := Ground.phase }, { on := 6, ground := Ground.phase }, { on := 7, ground := Ground.phase }, { on := 8, ground := Ground.phase }, { on := 9, ground := Ground.phase }, { on := 10, ground := Ground.phase }, { on := 11, ground := Ground.phase }, { on := 12, ground := Ground.phase }, { on := 13, ground := Ground.phase }, { on := 14, ground := Ground.phase }, { on := 15, ground := Ground.phase }, { on := 16, ground := Ground.phase }], guard := none }) rfl (fun K hK => ?_) AllReadyH.nil
                go_simp
                refine hK.out _ _ ?_ (fun hHeld => ?_)
                · exact ⟨(World.cell?_setCell_other hne1 _).trans j06, (World.cell?_setCell_other hne2 _).trans a06, (World.cell?_setCell_other hne2 _).trans a16⟩
                clear hK K
                try simp only [Act.put, List.setIfInBounds_toArray, List.set_cons_zero, List.set_cons_succ]
                refine wpAnyH_done (by kernel_rfl) ?_ _
                go_wp2_with fail
                go_ret
                obtain ⟨F', hR', hF', hT'⟩ := HST.out
                have hTw : Turn F w w5 := ((HT3.out).more (by simp)).trans HT5.out (by intro g hg; simp at hg; subst hg; exact .inl H5.out.fb)
                rw [HFS.out, HQ.out, HX.out, HPP.out.1, HPP.out.2]
                exact ⟨rfl, F', (Foot.refl w.heap.size F).trans hF' hTw.size, hTw.trans hT' (fun g hg => .inl hg), fun h => absurd rfl h, fun _ => hR'⟩
              · go_simp
                refine hK.out _ _ ?_ (fun hHeld => ?_)
                · exact ⟨j05a, a05a, a15a⟩
                clear hK K
                try simp only [Act.put, List.setIfInBounds_toArray, List.set_cons_zero, List.set_cons_succ]
                refine wpAnyH_ready (rs := [4]) (by kernel_rfl) (by simp) ?_
                refine AllReadyH.cons (o := { dst := some 39, op := Op.load 50 (Operand.tmp 38), type := 50, pos := _, after := #[{ on := 3, ground := Ground.data }], guard := none }) rfl (fun K hK => ?_) AllReadyH.nil
                go_simp
                refine hK.out _ _ ?_ (fun hHeld => ?_)
                · exact ⟨j05a, a05a, a15a⟩
                clear hK K
                try simp only [Act.put, List.setIfInBounds_toArray, List.set_cons_zero, List.set_cons_succ]
                refine wpAnyH_ready (rs := [16]) (by kernel_rfl) (by simp) ?_
                refine AllReadyH.cons (o := { dst := some 51, op := Op.call { callee := Callee.builtin Builtin.append, args := #[Operand.tmp 39, Operand.tmp 50], argTypes := #[50, 50] }, type := 50, pos := _, after := #[{ on := 4, ground := Ground.data }, { on := 15, ground := Ground.data }, { on := 12, ground := Ground.chain }], guard := none }) rfl (fun K hK => ?_) AllReadyH.nil
                refine step_appT rfl (.tmp 39) (.tmp 50) rfl _ V ts ⟨kd, X, pl, pc⟩ w5.heap.size 1 (by simp [Act.eval, Act.put]) (by simp [Act.eval, Act.put]) (by exact Turn.owns ((Turn.refl [] w5).alloc _) H5.out.row (by simp)) (by exact heap_alloc_new w5 _) (by omega) ?_
                intro v6 w6 ho6 ht6 hm6
                have t5a : Turn [] w5 (w5.alloc (.cells #[.int .i64 (kd : Int), .string ⟨X.toArray⟩, .int .i64 (pl : Int), .int .i64 (pc : Int)] 55)) := (Turn.refl [] w5).alloc _
                have hb6 := ht6.heap (t5a.heap H5.out.blk (by simp)) (fun hg => H5.out.vb (by simpa using hg))
                have hk6 := ht6.heap (t5a.heap HK5.out (by simp)) (fun hg => own_ne H5.out.row HK5.out (by decide) (by simpa using hg))
                have ha6 := ht6.heap (t5a.heap HA5.out (by simp)) (fun hg => own_ne H5.out.row HA5.out (by decide) (by simpa using hg))
                have n3 : w6.cell? ⟨b, 3, none⟩ = some V := cell_of_row w6 b 3 _ 129 (0, 0) hb6
                have f3 : w6.frozen? ⟨b, 3, none⟩ = false := frozen_of_row w6 b 3 _ 129 hb6
                have j06 : w6.cell? ⟨kk, 0, none⟩ = some (.int .i64 (kd : Int)) := cell_of_row w6 kk 0 _ 173 (0, 0) hk6
                have a06 : w6.cell? ⟨ab, 0, none⟩ = some (.int .i64 (pl : Int)) := cell_of_row w6 ab 0 _ 27 (0, 0) ha6
                have a16 : w6.cell? ⟨ab, 1, none⟩ = some (.int .i64 (pc : Int)) := cell_of_row w6 ab 1 _ 27 (0, 0) ha6
                obtain ⟨A6, c6, hv6, _, _⟩ := ho6.form
                rw [List.length_append, List.length_singleton] at hv6
                have HST := Lib.hid (H5.out.stored ho6 ht6 hm6)
                subst hv6
                clear ho6 ht6 hm6 hb6 hk6 ha6 t5a
                refine hK.out _ _ ?_ (fun hHeld => ?_)
                · exact ⟨j06, a06, a16⟩
                clear hK K
                try simp only [Act.put, List.setIfInBounds_toArray, List.set_cons_zero, List.set_cons_succ]
                refine wpAnyH_take (i := 17) (oi := { dst := some 52, op := Op.nilCheck (Operand.tmp 35), type := 0, pos := _, after := #[{ on := 0, ground := Ground.data }, { on := 0, ground := Ground.phase }, { on := 1, ground := Ground.phase }, { on := 2, ground := Ground.phase }, { on := 3, ground := Ground.phase }, { on := 4, ground := Ground.phase }, { on := 5, ground := Ground.phase }, { on := 6, ground := Ground.phase }, { on := 7, ground := Ground.phase }, { on := 8, ground := Ground.phase }, { on := 9, ground := Ground.phase }, { on := 10, ground := Ground.phase }, { on := 11, ground := Ground.phase }, { on := 12, ground := Ground.phase }, { on := 13, ground := Ground.phase }, { on := 14, ground := Ground.phase }, { on := 15, ground := Ground.phase }, { on := 16, ground := Ground.phase }], guard := none }) (v := ?_) rfl (by kernel_rfl) (by kernel_rfl) (by kernel_rfl) (fun _ _ _ h => h) (Or.inl ⟨by rfl, ?_⟩) (by assumption) ?_
                rotate_left
                · intro w hSw; (try dsimp only at hSw); go_simp; (try with_reducible rfl)
                try simp only [Act.put, List.setIfInBounds_toArray, List.set_cons_zero, List.set_cons_succ]
                refine wpAnyH_take (i := 18) (oi := { dst := some 53, op := Op.fieldAddr 129 (Operand.tmp 52) 1, type := 0, pos := _, after := #[{ on := 17, ground := Ground.data }, { on := 0, ground := Ground.phase }, { on := 1, ground := Ground.phase }, { on := 2, ground := Ground.phase }, { on := 3, ground := Ground.phase }, { on := 4, ground := Ground.phase }, { on := 5, ground := Ground.phase }, { on := 6, ground := Ground.phase }, { on := 7, ground := Ground.phase }, { on := 8, ground := Ground.phase }, { on := 9, ground := Ground.phase }, { on := 10, ground := Ground.phase }, { on := 11, ground := Ground.phase }, { on := 12, ground := Ground.phase }, { on := 13, ground := Ground.phase }, { on := 14, ground := Ground.phase }, { on := 15, ground := Ground.phase }, { on := 16, ground := Ground.phase }], guard := none }) (v := ?_) rfl (by kernel_rfl) (by kernel_rfl) (by kernel_rfl) (fun _ _ _ h => h) (Or.inl ⟨by rfl, ?_⟩) (by assumption) ?_
                rotate_left
                · intro w hSw; (try dsimp only at hSw); go_simp; (try with_reducible rfl)
                try simp only [Act.put, List.setIfInBounds_toArray, List.set_cons_zero, List.set_cons_succ]
                refine wpAnyH_ready (rs := [19]) (by kernel_rfl) (by simp) ?_
                refine AllReadyH.cons (o := { dst := none, op := Op.store 50 (Operand.tmp 53) (Operand.tmp 51), type := 0, pos := _, after := #[{ on := 18, ground := Ground.data }, { on := 16, ground := Ground.data }, { on := 16, ground := Ground.chain }, { on := 0, ground := Ground.phase }, { on := 1, ground := Ground.phase }, { on := 2, ground := Ground.phase }, { on := 3, ground := Ground.phase }, { on := 4, ground := Ground.phase }, { on := 5, ground := Ground.phase }, { on := 6, ground := Ground.phase }, { on := 7, ground := Ground.phase }, { on := 8, ground := Ground.phase }, { on := 9, ground := Ground.phase }, { on := 10, ground := Ground.phase }, { on := 11, ground := Ground.phase }, { on := 12, ground := Ground.phase }, { on := 13, ground := Ground.phase }, { on := 14, ground := Ground.phase }, { on := 15, ground := Ground.phase }, { on := 16, ground := Ground.phase }], guard := none }) rfl (fun K hK => ?_) AllReadyH.nil
                go_simp
                refine hK.out _ _ ?_ (fun hHeld => ?_)
                · exact ⟨(World.cell?_setCell_other hne1 _).trans j06, (World.cell?_setCell_other hne2 _).trans a06, (World.cell?_setCell_other hne2 _).trans a16⟩
                clear hK K
                try simp only [Act.put, List.setIfInBounds_toArray, List.set_cons_zero, List.set_cons_succ]
                refine wpAnyH_done (by kernel_rfl) ?_ _
                go_wp2_with fail
                go_ret
                obtain ⟨F', hR', hF', hT'⟩ := HST.out
                have hTw : Turn F w w5 := ((HT3.out).more (by simp)).trans HT5.out (by intro g hg; simp at hg; subst hg; exact .inl H5.out.fb)
                rw [HFS.out, HQ.out, HX.out, HPP.out.1, HPP.out.2]
                exact ⟨rfl, F', (Foot.refl w.heap.size F).trans hF' hTw.size, hTw.trans hT' (fun g hg => .inl hg), fun h => absurd rfl h, fun _ => hR'⟩
        · obtain rfl : q = 0 := by omega
          go_wp2_with fail
          go_roundw
          case rel =>
            exact ⟨i + 1, by omega, by go_num, Lib.hid (HN.out.next HKA.out HQ.out), HT2⟩
          case measure => simp [intOf]; omega
    · obtain rfl : i = 3 := by omega
      go_wp2_with fail
      go_ret
      have e := HN.out.none
      rw [e]
      exact ⟨rfl, F, Foot.refl _ _, HT.out.more (by simp), fun _ => ⟨V, s, H.out.up HT.out⟩, fun h => by omega⟩

theorem read_said : ReadSaid := fun b F G T n ts kb w h hK hd hT hts => read_any b F G T n ts kb w h hK hd hT hts
end Go.Proofs.YtnmhcgkccchacaaGreatDoor

/- open: the reader ahead of a text's first token. -/
set_option linter.unusedSimpArgs false
set_option linter.unusedVariables false
set_option maxRecDepth 100000
namespace Go.Proofs.YtnmhcgkccchacaaGreatDoor
open Go.RowKit

theorem isD_digit (c : UInt8) : isD c = true → 48 ≤ c.toNat ∧ c.toNat ≤ 57 := byte_all (p := fun c => isD c = true → 48 ≤ c.toNat ∧ c.toNat ≤ 57) (by decide +kernel) c
theorem takeWhile_mem {α : Type} {q : α → Bool} : ∀ {l : List α} {x : α}, x ∈ l.takeWhile q → q x = true
  | [], x, h => by simp at h
  | y :: l, x, h => by
    rw [List.takeWhile_cons] at h
    split at h
    · rename_i hy
      rcases List.mem_cons.1 h with rfl | h
      · exact hy
      · exact takeWhile_mem h
    · simp at h
theorem nmN_digits (t : List UInt8) : ∀ c ∈ t.take (nmN t), 48 ≤ c.toNat ∧ c.toNat ≤ 57 := by
  intro c hc
  unfold nmN at hc
  cases t with
  | nil => simp at hc
  | cons d r =>
    simp only [runN] at hc
    split at hc
    · rename_i hd
      rw [Nat.add_comm, List.take_succ_cons] at hc
      rcases List.mem_cons.1 hc with rfl | hc
      · exact isD_digit _ hd
      · have hp : r.take (r.takeWhile isD).length = r.takeWhile isD := (List.prefix_iff_eq_take.1 (List.takeWhile_prefix isD)).symm
        rw [hp] at hc
        exact isD_digit _ (takeWhile_mem hc)
    · simp at hc
theorem fst3_good (t : List UInt8) (p : Nat × Nat) (h : (fst3 t).1 = 0) : GoodTok ⟨(fst3 t).2.2, t.take (fst3 t).2.1, p.1, p.2⟩ := by
  have h2 := sgN_two t
  have hd := nmN_digits t
  by_cases a : 32 < wdN t
  · simp [fst3, a] at h
  by_cases b : 0 < wdN t
  · simp only [fst3, if_neg a, if_pos b]
    refine ⟨?_, fun e => by cases e⟩
    rw [List.length_take]
    omega
  by_cases c : 3 < nmN t
  · simp [fst3, a, b, c] at h
  by_cases d : 0 < nmN t
  · have hlen : nmN t ≤ t.length := runN_le isD isD t
    simp only [fst3, if_neg a, if_neg b, if_neg c, if_pos d]
    have e1 : (t.take (nmN t)).length = nmN t := by rw [List.length_take]; omega
    refine ⟨by rw [e1]; omega, fun _ => ⟨fun e => ?_, by rw [e1]; omega, hd⟩⟩
    have e2 : t.take (nmN t) = [] := e
    rw [e2] at e1
    simp at e1
    omega
  by_cases e : 0 < sgN t
  · simp only [fst3, if_neg a, if_neg b, if_neg c, if_neg d, if_pos e]
    refine ⟨?_, fun e => by cases e⟩
    rw [List.length_take]
    omega
  · simp [fst3, a, b, c, d, e] at h
theorem lx_good : ∀ (n : Nat) (t : List UInt8) (p : Nat × Nat) (ts : List Tok) (q : Nat × Nat), lx n t p = .good ts q → (∀ x ∈ ts, GoodTok x) ∧ ts.length ≤ t.length
  | 0, t, p, ts, q, h => by
    simp only [lx, LR.good.injEq] at h
    rw [← h.1]
    exact ⟨by simp, by simp⟩
  | n + 1, t, p, ts, q, h => by
    unfold lx at h
    split at h
    · injection h with h1 h2
      rw [← h1]
      exact ⟨by simp, by simp⟩
    split at h
    · have := lx_good n _ _ ts q h
      rw [List.length_drop] at this
      exact ⟨this.1, by omega⟩
    split at h
    · cases h
    · rename_i h3 h4 h5
      have h0 : (fst3 t).1 = 0 := by omega
      have hs := fst3_size t h0
      cases hr : lx n (t.drop (fst3 t).2.1) (pss p (t.take (fst3 t).2.1)) with
      | bad e l c => rw [hr] at h; cases h
      | good us q' =>
        rw [hr] at h
        simp only [preT, LR.good.injEq] at h
        have := lx_good n _ _ us q' hr
        rw [List.length_drop] at this
        rw [← h.1]
        refine ⟨fun x hx => ?_, by simp; omega⟩
        rcases List.mem_append.1 hx with hx | hx
        · simp at hx
          rw [hx]
          exact fst3_good t p h0
        · exact this.1 x hx
theorem tokR_good {T : List UInt8} {ts : List Tok} {p : Nat × Nat} (h : tokR T = .good ts p) : (∀ x ∈ ts, GoodTok x) ∧ ts.length ≤ 20000 := by
  unfold tokR at h
  split at h
  · cases h
  · have := lx_good _ _ _ _ _ h
    exact ⟨this.1, by omega⟩

/-- What whole answers: nothing and the fault, or what was read. -/
def ResIs {α : Type} (R : Rdg α) (Z : Array Value) (f : RS) (A : Nat → Prop) (w' : World) (x : α) (e : Ending) : Prop :=
  (f.e ≠ 0 ∧ e = .returned (.tuple #[.agg Z, .agg #[.int .i64 (f.e : Int), .int .i64 (f.fl : Int), .int .i64 (f.fc : Int)]])) ∨
  (f.e = 0 ∧ ∃ cs : List Value, e = .returned (.tuple #[.agg cs.toArray, .agg #[.int .i64 0, .int .i64 0, .int .i64 0]]) ∧ R A w' cs x)
/-- The reader ahead of the first token: what stands behind the text, and how the reader stands. -/
def rs0 : LR → (Nat × Nat) × RS
  | .bad x l c => ((0, 0), ⟨[], x, l, c, false, 0⟩)
  | .good ts p => (p, ⟨ts, 0, 0, 0, false, 0⟩)

set_option maxHeartbeats 6400000 in
theorem open_any (s : ByteArray) (w : World) (hS : Sg w) (hK : Kw w) (h8 : 7 < w.heap.size) :
    Calls Tryz.prog 21 #[.string s] w fun e w' => ∃ b, e = .returned (.pointer (some ⟨b, 0, none⟩)) ∧ w.heap.size ≤ b ∧ Pr (rs0 (tokR s.data.toList)).1 w' b (rs0 (tokR s.data.toList)).2 ∧ Turn [] w w' := by
  have HT := Lib.hid (tokens_any read_said s w hS)
  have HK := Lib.hid hK
  clear hS hK
  go_enter Tryz.func21, Tryz.ntmps21
  go_wp2_with fail
  refine HT.out.mono ?_
  rintro e w1 ⟨t1, h1⟩
  have hsz := t1.size
  have HK1 := Lib.hid (HK.out.turn t1 (by simp))
  have HT1 := Lib.hid t1
  clear t1
  rcases h1 with ⟨x, l, c, htk, hx, rfl⟩ | ⟨ts, p, V, htk, ho, hv, rfl⟩
  · have HTK := Lib.hid htk
    clear htk hx
    unfold badV
    go_wp2_with fail
    go_ret
    rw [HTK.out]
    have t : Turn [] w1 (((w1.alloc (.cells #[.int .i64 0, .int .i64 0] 27)).alloc (.cells #[.int .i64 (x : Int), .int .i64 (l : Int), .int .i64 (c : Int)] 34)).alloc (.cells #[.slice none 0 0, .int .i64 0, .int .i64 0, .int .i64 (x : Int), .int .i64 (l : Int), .int .i64 (c : Int), .bool false, .int .i64 0] 95)) := (((Turn.refl [] w1).alloc _).alloc _).alloc _
    refine ⟨_, rfl, ?_, ⟨.slice none 0 0, ?_, Lf.nil _ _, HK1.out.turn t (by simp), ?_, by simp [rs0], by simp [rs0]⟩, HT1.out.trans' t⟩
    · omega
    · have := heap_alloc_new ((w1.alloc (.cells #[.int .i64 0, .int .i64 0] 27)).alloc (.cells #[.int .i64 (x : Int), .int .i64 (l : Int), .int .i64 (c : Int)] 34)) (.cells #[.slice none 0 0, .int .i64 0, .int .i64 0, .int .i64 (x : Int), .int .i64 (l : Int), .int .i64 (c : Int), .bool false, .int .i64 0] 95)
      rw [World.size_alloc, World.size_alloc] at this
      exact this
    · omega
  · have HTK := Lib.hid htk
    have hgood := tokR_good htk
    have HGD := Lib.hid hgood
    have HO := Lib.hid ho
    have HV := Lib.hid hv
    obtain ⟨A, c, rfl, hc, hrd⟩ := ho.form
    have HRD := Lib.hid hrd
    obtain ⟨p1, p2⟩ := p
    clear htk hgood ho hv hrd
    unfold goodV
    simp only
    go_wp2_with fail
    go_ret
    rw [HTK.out]
    have t : Turn [] w1 (((w1.alloc (.cells #[.int .i64 (p1 : Int), .int .i64 (p2 : Int)] 27)).alloc (.cells #[.int .i64 0, .int .i64 0, .int .i64 0] 34)).alloc (.cells #[.slice A ts.length c, .int .i64 (p1 : Int), .int .i64 (p2 : Int), .int .i64 0, .int .i64 0, .int .i64 0, .bool false, .int .i64 0] 95)) := (((Turn.refl [] w1).alloc _).alloc _).alloc _
    refine ⟨_, rfl, ?_, ⟨.slice A ts.length c, ?_, ?_, HK1.out.turn t (by simp), ?_, by simp only [rs0]; have := HGD.out.2; omega, HGD.out.1⟩, HT1.out.trans' t⟩
    · omega
    · have := heap_alloc_new ((w1.alloc (.cells #[.int .i64 (p1 : Int), .int .i64 (p2 : Int)] 27)).alloc (.cells #[.int .i64 0, .int .i64 0, .int .i64 0] 34)) (.cells #[.slice A ts.length c, .int .i64 (p1 : Int), .int .i64 (p2 : Int), .int .i64 0, .int .i64 0, .int .i64 0, .bool false, .int .i64 0] 95)
      rw [World.size_alloc, World.size_alloc] at this
      exact this
    · refine ⟨A, c, rfl, hc, ?_⟩
      by_cases hn : ts = []
      · exact .inl hn
      · obtain ⟨u, us, hts⟩ := List.exists_cons_of_ne_nil hn
        obtain ⟨g, eg, hg, _⟩ := HRD.out 0 u (by rw [hts]; rfl)
        refine .inr ⟨g, 0, eg, by omega, fun i t' ht k y hy => ?_⟩
        obtain ⟨g', eg', hg', hcell⟩ := HRD.out i t' ht
        rw [eg] at eg'
        injection eg' with e1
        injection e1 with e1
        subst e1
        have hfin := (t.cell (p := ⟨g, i * 4 + k, none⟩) hg (by simp)).trans (hcell k y hy)
        rw [Nat.zero_add]
        exact hfin
    · omega
end Go.Proofs.YtnmhcgkccchacaaGreatDoor
