import Derived.Test.YtnmhcgkccchacaaGreatDoorQ05Sig

/- Interfaces behind a word; braced once more; what a class's block reads as. -/
set_option linter.unusedSimpArgs false
set_option linter.unusedVariables false
set_option maxRecDepth 100000
namespace Go.Proofs.YtnmhcgkccchacaaGreatDoor
open Go.RowKit

set_option maxHeartbeats 3200000 in
theorem faces_any (en : Nat × Nat) (b : Nat) (s : RS) (wd : List UInt8) (T : ByteArray) (hT : T = mk wd) (w : World) (hP : Pr en w b s) :
    Calls Tryz.prog 105 #[.pointer (some ⟨b, 0, none⟩), .string T] w fun e w' => ∃ V, e = .returned V ∧ RdV 1 RdT (fun g => w.heap.size ≤ g) w' V (faces en wd s).1 ∧ Pr en w' b (faces en wd s).2 ∧ Turn [b] w w' := by
  have HSK := Lib.hid (pSkip_any en b s wd T hT w hP)
  obtain ⟨s1, hs1⟩ : ∃ q, (skip en wd s).2 = q := ⟨_, rfl⟩
  rw [hs1] at HSK
  have HS1 := Lib.hid hs1
  clear hP hT hs1
  go_enter Tryz.func105, Tryz.ntmps105
  go_wp2_with fail
  refine HSK.out.mono ?_
  rintro e1 w1 ⟨rfl, h1, t1⟩
  have HT1 := Lib.hid t1
  have HP1 := Lib.hid h1
  have hsz := t1.size
  clear t1 h1
  cases hq : (skip en wd s).1 with
  | false =>
    have HQ := Lib.hid hq
    clear hq
    go_wp2_with fail
    go_ret
    have EF : faces en wd s = ([], s1) := by
      unfold faces
      simp only [HQ.out, HS1.out, Bool.false_eq_true, if_false]
    rw [EF]
    exact ⟨_, rfl, RdV.nil _ _ _, HP1.out, HT1.out⟩
  | true =>
    have HQ := Lib.hid hq
    have HN := Lib.hid (namesL_any en b s1 w1 HP1.out)
    clear hq
    go_wp2_with fail
    refine HN.out.mono ?_
    rintro e2 w2 ⟨V, rfl, hv, h2, t2⟩
    have HV := Lib.hid hv
    have HP2 := Lib.hid h2
    have HT2 := Lib.hid (HT1.out.trans t2 (fun g hg => .inl hg))
    obtain ⟨P, c, rfl, _, _⟩ := id hv
    clear hv h2 t2 HN
    go_wp2_with fail
    go_ret
    have EF : faces en wd s = namesL en s1 := by
      unfold faces
      simp only [HQ.out, HS1.out, if_true]
    rw [EF]
    exact ⟨_, rfl, HV.out.mono goodT (fun g hg _ => Nat.le_trans hsz hg), HP2.out, HT2.out⟩

set_option maxHeartbeats 1600000 in
/-- braced, of a function value that is known by what it does; what it keeps is the caller's to say. -/
theorem braced2_any (en : Nat × Nat) (b : Nat) (s s2 : RS) (k : Nat) (caps : List Value) (Q : World → Prop) (w : World) (hP : Pr en w b s)
    (hen : ∀ (args : Array Value) (W : World), (callFunc k args).run Tryz.prog W = .ok (.enter k args) W)
    (hin : ∀ w1, Pr en w1 b (take en [123] s) → Turn [b] w w1 → Calls Tryz.prog k caps.toArray w1 fun e w2 => e = .returned (.tuple #[]) ∧ Q w2 ∧ Pr en w2 b s2) :
    Calls Tryz.prog 106 #[.pointer (some ⟨b, 0, none⟩), .func (.func k) #[] caps.toArray] w fun e w' => e = .returned (.tuple #[]) ∧ ∃ w2, Q w2 ∧ Turn [b] w2 w' ∧ Pr en w' b (take en [125] s2) := by
  have HP := Lib.hid hP
  have HIN := Lib.hid hin
  clear hP hin
  go_enter Tryz.func106, Tryz.ntmps106
  go_wp2_with fail
  refine (takeN_any en b s [123] _ w.heap.size rfl _ rfl HP.out).mono ?_
  rintro e1 w1 ⟨rfl, h1, t1⟩
  have HC := Lib.hid (HIN.out w1 h1 t1)
  clear h1 t1 HIN
  go_wp2_with fail
  refine HC.out.mono ?_
  rintro e2 w2 ⟨rfl, q2, h2⟩
  have HQ2 := Lib.hid q2
  have HP2 := Lib.hid h2
  clear q2 h2 HC
  go_wp2_with fail
  refine (takeN_any en b s2 [125] _ w2.heap.size rfl _ rfl HP2.out).mono ?_
  rintro e3 w3 ⟨rfl, h3, t3⟩
  have HP3 := Lib.hid h3
  have HT3 := Lib.hid t3
  clear h3 t3
  go_wp2_with fail
  go_end0
  exact ⟨rfl, w2, HQ2.out, HT3.out, HP3.out⟩

/-- The block sb reads as a class. -/
def Rc (w : World) (sb : Nat) (p : Cf) : Prop := ∃ V1 V2 V3 V4 V5, w.heap[sb]? = some (.cells (cbC p V1 V2 V3 V4 V5) 69 (0, 0)) ∧ RdV 1 RdT (fun g => sb < g) w V1 p.fs ∧ RdV 4 RdW (fun g => sb < g) w V2 p.fd ∧ RdV 4 RdW (fun g => sb < g) w V3 p.sc ∧ RdV 9 RdM (fun g => sb < g) w V4 p.ms ∧ RdI (fun g => sb < g) w V5 p.ini
theorem Rc.turn {w w' : World} {sb : Nat} {p : Cf} {F : List Nat} (h : Rc w sb p) (t : Turn F w w') (hF : ∀ g ∈ F, g < sb) : Rc w' sb p := by
  obtain ⟨V1, V2, V3, V4, V5, h0, h1, h2, h3, h4, h5⟩ := h
  exact ⟨V1, V2, V3, V4, V5, t.heap h0 (fun hg => Nat.lt_irrefl _ (hF _ hg)), h1.turn goodT t (fun g hg h => by have := hF g hg; omega), h2.turn goodW t (fun g hg h => by have := hF g hg; omega), h3.turn goodW t (fun g hg h => by have := hF g hg; omega), h4.turn goodM t (fun g hg h => by have := hF g hg; omega), h5.turn t (fun g hg h => by have := hF g hg; omega)⟩
theorem Cb.rc {w : World} {b sb : Nat} {p : Cf} (h : Cb w b sb p) : Rc w sb p := by
  obtain ⟨V1, V2, V3, V4, V5, A1, A2, A3, h⟩ := h
  exact ⟨V1, V2, V3, V4, V5, h.blk, h.fs.mono goodT (fun g hg _ => hg.1), h.fd.rdv goodW |>.mono goodW (fun g hg _ => (h.a1 g hg).1), h.sc.rdv goodW |>.mono goodW (fun g hg _ => (h.a2 g hg).1), h.ms.rdv goodM |>.mono goodM (fun g hg _ => (h.a3 g hg).1), h.ini.mono (fun g hg _ => hg.1)⟩
theorem Rc.set_ms {w : World} {sb : Nat} {p : Cf} {V : Value} {l : List Mf} (h : Rc w sb p) (k : RdV 9 RdM (fun g => sb < g) w V l) : Rc (w.setCell ⟨sb, 6, none⟩ V) sb { p with ms := l } := by
  have t : Turn [sb] w (w.setCell ⟨sb, 6, none⟩ V) := (Turn.refl [sb] w).setCell (.inl (by simp)) _
  obtain ⟨V1, V2, V3, V4, V5, h0, h1, h2, h3, h4, h5⟩ := h
  exact ⟨V1, V2, V3, V, V5, rset h0 rfl, h1.turn goodT t (by simp), h2.turn goodW t (by simp), h3.turn goodW t (by simp), k.turn goodM t (by simp), h5.turn t (by simp)⟩

set_option maxHeartbeats 12800000 in
theorem face1_any (en : Nat × Nat) (b sb g1 : Nat) (s : RS) (p : Cf) (w : World) (hP : Pr en w b s) (hS : Rc w sb p) (hbs : b < sb) (hg1 : b < g1) (hn1 : g1 < sb) (c1 : w.cell? ⟨g1, 0, none⟩ = some (.pointer (some ⟨b, 0, none⟩))) :
    Calls Tryz.prog 107 #[.pointer (some ⟨g1, 0, none⟩), .pointer (some ⟨sb, 0, none⟩)] w fun e w' => e = .returned (.tuple #[]) ∧
      Rc w' sb { p with ms := (many (sees kMethod) (signature en) 40 (s.l.length + 1) [] s).1 } ∧ Pr en w' b (many (sees kMethod) (signature en) 40 (s.l.length + 1) [] s).2 ∧ Tq b sb w w' := by
  have hmf := mf
  have hbl := hP.lt
  have hg1l := cell_lt c1
  have hsl : sb < w.heap.size := by
    obtain ⟨V1, V2, V3, V4, V5, h0, _⟩ := hS
    exact (Array.getElem?_eq_some_iff.1 h0).1
  have HC : Hid (∀ W, Turn [b] w W → W.cell? ⟨g1, 0, none⟩ = some (.pointer (some ⟨b, 0, none⟩))) := Lib.hid fun W t => (t.cell (p := ⟨g1, 0, none⟩) hg1l (by simp; omega)).trans c1
  obtain ⟨x, hx⟩ : ∃ q, (many (sees kMethod) (signature en) 40 (s.l.length + 1) [] s).1 = q := ⟨_, rfl⟩
  obtain ⟨s1, hs1⟩ : ∃ q, (many (sees kMethod) (signature en) 40 (s.l.length + 1) [] s).2 = q := ⟨_, rfl⟩
  rw [hx, hs1]
  have HX := Lib.hid (And.intro hx hs1)
  have HP := Lib.hid hP
  have HS := Lib.hid hS
  have hbeg := begins_any b [kMethod] (w.alloc (.cells #[.string ⟨#[109, 101, 116, 104, 111, 100]⟩] 9)).drew (some ⟨w.heap.size, 0, none⟩) 1 (by simp; omega) ((sts_new w [kMethod] #[.string ⟨#[109, 101, 116, 104, 111, 100]⟩] rfl).turn (Turn.refl [] _).drew (by simp)) (fun g off e => by injection e with e; injection e with e; subst e; exact ⟨hbl, by simp⟩)
  rw [show ([kMethod] : List (List UInt8)).length = 1 from rfl] at hbeg
  have HBG := Lib.hid hbeg
  clear hP hS hx hs1 hbeg
  go_enter Tryz.func107, Tryz.ntmps107
  go_upto_region 0 with (fail)
  go_region_held3 (fun w' => w'.cell? ⟨g1, 0, none⟩ = some (.pointer (some ⟨b, 0, none⟩)))
    (first | exact c1 | exact d1 | exact f1 | exact f1' | go_keep)
    (first
      | (go_at_call 49; (with_reducible refine HBG.out.mono ?_); rintro e1 w1 ⟨h1, h2, rfl, hb1, t1⟩
         have tT1 : Turn [] w w1 := ((Turn.refl [] w).alloc _).drew.trans' t1
         have d1 := HC.out w1 (tT1.more (by simp))
         have HT1 := Lib.hid tT1
         have HM := Lib.hid (manyM_any en b s h1 h2 w1 (HP.out.up tT1) hb1)
         clear hb1 t1 tT1)
      | (go_at_call 108; (with_reducible refine HM.out.mono ?_); rintro e2 w2 ⟨V2, rfl, hv2, h2, t2⟩
         have tT2 : Turn [b] w w2 := (HT1.out.more (by simp)).trans t2 (fun g hg => .inl hg)
         rw [HX.out.1] at hv2
         rw [HX.out.2] at h2
         have f1 := HC.out w2 tT2
         have hsz1 := HT1.out.size
         have hv2' := hv2.mono (B := fun g => sb < g) goodM (fun g hg _ => by omega)
         obtain ⟨P2, q2, rfl, _, _⟩ := id hv2'
         have hrc := HS.out.turn tT2 (by simp; exact hbs)
         obtain ⟨U1, U2, U3, U4, U5, hrow, _⟩ := id hrc
         have i6 : w2.cell? ⟨sb, 6, none⟩ = some U4 := cell_of_row w2 sb 6 _ _ _ hrow
         have g6 : w2.frozen? ⟨sb, 6, none⟩ = false := frozen_of_row w2 sb 6 _ _ hrow
         have HR3 := Lib.hid (hrc.set_ms hv2')
         have HP2 := Lib.hid h2
         have HT2 := Lib.hid tT2
         have f1' : (w2.setCell ⟨sb, 6, none⟩ (.slice P2 x.length q2)).cell? ⟨g1, 0, none⟩ = some (.pointer (some ⟨b, 0, none⟩)) := (World.cell?_setCell_far _ _ _ _ (by simp; omega)).trans f1
         clear hv2 hv2' h2 t2 tT2 hrc hrow)
      | fail)
  all_goals
    go_wp2_with fail
    go_end0
    exact ⟨rfl, HR3.out, HP2.out.turn (F := [sb]) ((Turn.refl [sb] w2).setCell (.inl (by simp)) _) (by simp; exact hbs), (Tq.of HT2.out (by simp)).trans (Tq.set w2)⟩
end Go.Proofs.YtnmhcgkccchacaaGreatDoor

/- face. Printed by mkcls.py. -/
set_option linter.unusedSimpArgs false
set_option linter.unusedVariables false
set_option maxRecDepth 100000
namespace Go.Proofs.YtnmhcgkccchacaaGreatDoor
open Go.RowKit
theorem cf0_mk (a c : Nat) : cf0 (a, c) = ⟨e0, e0, false, [], [], [], [], none, (a : Int), (c : Int)⟩ := rfl
set_option maxHeartbeats 12800000 in
theorem face_any (en : Nat × Nat) (b : Nat) (s : RS) (w : World) (hP : Pr en w b s) :
    Calls Tryz.prog 83 #[.pointer (some ⟨b, 0, none⟩)] w fun e w' => ∃ cs : List Value, e = .returned (.agg cs.toArray) ∧ RdC (fun g => w.heap.size ≤ g) w' cs (face en s).1 ∧ Pr en w' b (face en s).2 ∧ Turn [b] w w' := by
  have hmf := mf
  have hbl := hP.lt
  have hlen0 := hP.len
  obtain ⟨W1, hW1⟩ : ∃ W1, (w.alloc (.cells #[.pointer (some ⟨b, 0, none⟩)] 57)).alloc (.cells #[.string ⟨#[]⟩, .string ⟨#[]⟩, .bool false, .slice none 0 0, .slice none 0 0, .slice none 0 0, .slice none 0 0, .pointer none, .int .i64 0, .int .i64 0] 69) = W1 := ⟨_, rfl⟩
  obtain ⟨g1, hg1⟩ : ∃ g, w.heap.size = g := ⟨_, rfl⟩
  obtain ⟨r, hr⟩ : ∃ r, g1 + 1 = r := ⟨_, rfl⟩
  have tW1 : Turn [] w W1 := by rw [← hW1]; exact ((Turn.refl [] w).alloc _).alloc _
  have gW1 : W1.heap[g1]? = some (.cells #[.pointer (some ⟨b, 0, none⟩)] 57 (0, 0)) := by rw [← hW1, ← hg1]; exact ((Turn.refl [] _).alloc _).heap (heap_alloc_new w _) (by simp)
  have rW1 : W1.heap[r]? = some (.cells #[.string ⟨#[]⟩, .string ⟨#[]⟩, .bool false, .slice none 0 0, .slice none 0 0, .slice none 0 0, .slice none 0 0, .pointer none, .int .i64 0, .int .i64 0] 69 (0, 0)) := by
    rw [← hW1, ← hr, ← hg1]
    have := heap_alloc_new (w.alloc (.cells #[.pointer (some ⟨b, 0, none⟩)] 57)) (.cells #[.string ⟨#[]⟩, .string ⟨#[]⟩, .bool false, .slice none 0 0, .slice none 0 0, .slice none 0 0, .slice none 0 0, .pointer none, .int .i64 0, .int .i64 0] 69)
    rwa [World.size_alloc] at this
  have sW1 : W1.heap.size = r + 1 := by rw [← hW1, ← hr, ← hg1]; simp
  have c1 : W1.cell? ⟨g1, 0, none⟩ = some (.pointer (some ⟨b, 0, none⟩)) := cell_of_row W1 g1 0 _ _ _ gW1
  have HW1 := Lib.hid hW1
  have HG := Lib.hid hg1
  have HR := Lib.hid hr
  have hPl := place_any en b s W1 (hP.up tW1)
  obtain ⟨pl, hpl⟩ : ∃ p, (atP en s).1 = p := ⟨_, rfl⟩
  obtain ⟨pc, hpc⟩ : ∃ p, (atP en s).2 = p := ⟨_, rfl⟩
  rw [hpl, hpc] at hPl
  have HPL := Lib.hid hPl
  have HAT : Hid (atP en s = (pl, pc)) := Lib.hid (by rw [← hpl, ← hpc])
  have HP1 := Lib.hid (hP.up tW1)
  have HTW1 := Lib.hid tW1
  have HRW1 := Lib.hid rW1
  have HGW1 := Lib.hid gW1
  have HSW1 := Lib.hid sW1
  clear hW1 tW1 rW1 gW1 sW1 hPl hpl hpc hP
  go_enter Tryz.func83, Tryz.ntmps83
  go_upto_region 1 with (fail)
  rw [HW1.out]
  go_wp2_with fail
  refine HPL.out.mono ?_
  rintro e0 w2 ⟨rfl, t2⟩
  obtain ⟨W2, hW2⟩ : ∃ W2, w2.alloc (.cells #[.string ⟨#[]⟩, .string ⟨#[]⟩, .bool true, .slice none 0 0, .slice none 0 0, .slice none 0 0, .slice none 0 0, .pointer none, .int .i64 (pl : Int), .int .i64 (pc : Int)] 69) = W2 := ⟨_, rfl⟩
  obtain ⟨sb, hsb⟩ : ∃ sb, w2.heap.size = sb := ⟨_, rfl⟩
  have tW2 : Turn [] W1 W2 := by rw [← hW2]; exact t2.alloc _
  have hsbk : W2.heap[sb]? = some (.cells #[.string ⟨#[]⟩, .string ⟨#[]⟩, .bool true, .slice none 0 0, .slice none 0 0, .slice none 0 0, .slice none 0 0, .pointer none, .int .i64 (pl : Int), .int .i64 (pc : Int)] 69 (0, 0)) := by rw [← hW2, ← hsb]; exact heap_alloc_new w2 _
  have hrsb : r < sb := by have := t2.size; have := HSW1.out; omega
  have hgr : g1 < r := by have := HR.out; omega
  have hbg : b < g1 := by have := HG.out; omega
  have hSb : Cb W2 b sb ⟨e0, e0, true, [], [], [], [], none, pl, pc⟩ :=
    ⟨_, _, _, _, _, fun _ => False, fun _ => False, fun _ => False, by omega, hsbk, fun _ h => h.elim, fun _ h => h.elim, fun _ h => h.elim, fun _ h => h.elim, fun _ h => h.elim, fun _ h => h.elim, RdV.nil _ _ _, OwnL.nil _ _ _, OwnL.nil _ _ _, OwnL.nil _ _ _, rfl⟩
  have H0 := Lib.hid (StC.mk0 (HP1.out.up tW2) hSb)
  have HB : Hid (∀ W, Tq b sb W2 W → W.cell? ⟨g1, 0, none⟩ = some (.pointer (some ⟨b, 0, none⟩)) ∧ W.heap[r]? = some (.cells #[.string ⟨#[]⟩, .string ⟨#[]⟩, .bool false, .slice none 0 0, .slice none 0 0, .slice none 0 0, .slice none 0 0, .pointer none, .int .i64 0, .int .i64 0] 69 (0, 0))) := Lib.hid fun W ⟨F, t, hF⟩ =>
    ⟨cell_of_row W g1 0 _ _ _ (t.heap (tW2.heap HGW1.out (by simp)) (fun hg => by have := hF _ hg; omega)), t.heap (tW2.heap HRW1.out (by simp)) (fun hg => by have := hF _ hg; omega)⟩
  have HT2 : Hid (Turn [] w W2) := Lib.hid (HTW1.out.trans' tW2)
  have HW2 := Lib.hid hW2
  have HSB := Lib.hid hsb
  have c2 := (HB.out W2 (Tq.refl _ _ _)).1
  clear hW2 hsb tW2 hsbk t2 hSb c1
  go_upto_region 2 with (fail)
  rw [HW2.out, HSB.out]
  go_wp2_with fail
  refine (takeN_any en b s kFace _ W2.heap.size rfl _ rfl H0.out.pr).mono ?_
  rintro e1 w3 ⟨rfl, h3, t3⟩
  have H3 := Lib.hid (H0.out.call h3 t3)
  obtain ⟨s1, es1⟩ : ∃ q, take en kFace s = q := ⟨_, rfl⟩
  rw [es1] at H3
  have HE1 := Lib.hid es1
  have c3 := (HB.out w3 H3.out.tt).1
  clear h3 t3 es1 c2
  go_wp2_with fail
  refine (pName_any en b s1 _ H3.out.pr).mono ?_
  rintro e2 w4 ⟨rfl, h4, t4⟩
  have H4 := Lib.hid (H3.out.call h4 t4)
  obtain ⟨v1, ev1⟩ : ∃ q, (name en s1).1 = q := ⟨_, rfl⟩
  obtain ⟨s2, es2⟩ : ∃ q, (name en s1).2 = q := ⟨_, rfl⟩
  rw [es2] at H4
  rw [ev1]
  have HE2 := Lib.hid (And.intro ev1 es2)
  have c4 := (HB.out w4 H4.out.tt).1
  clear h4 t4 es2 ev1 c3
  obtain ⟨U1_4, U2_4, U3_4, U4_4, U5_4, hcc, hff⟩ := H4.out.ss.cells
  have k4 : w4.cell? ⟨sb, 0, none⟩ = some (.string e0) := hcc 0
  have kf4 : w4.frozen? ⟨sb, 0, none⟩ = false := hff 0
  clear hcc hff
  have H4s : Hid (StC en W2 (w4.setCell ⟨sb, 0, none⟩ (.string v1)) b sb s2 ⟨v1, e0, true, [], [], [], [], none, pl, pc⟩) := Lib.hid (H4.out.set_nm v1)
  have c4s := (HB.out _ H4s.out.tt).1
  obtain ⟨W4, hW4⟩ : ∃ W4, w4.setCell ⟨sb, 0, none⟩ (.string v1) = W4 := ⟨_, rfl⟩
  rw [hW4] at H4s c4s
  have HW4 := Lib.hid hW4
  clear hW4
  go_upto_region 4 with (fail)
  rw [HW4.out]
  clear c4 k4 kf4
  go_wp2_with fail
  refine (faces_any en b s2 kExt ⟨#[101, 120, 116, 101, 110, 100, 115]⟩ rfl W4 H4s.out.pr).mono ?_
  rintro e5 w5 ⟨V, rfl, hv, h5, t5⟩
  obtain ⟨v2, ev2⟩ : ∃ q, (faces en kExt s2).1 = q := ⟨_, rfl⟩
  obtain ⟨s3, es3⟩ : ∃ q, (faces en kExt s2).2 = q := ⟨_, rfl⟩
  rw [ev2] at hv
  rw [es3] at h5
  obtain ⟨Pv, qv, rfl, _, _⟩ := id hv
  have H5 := Lib.hid (H4s.out.call_fs h5 t5 hv)
  have hc5 := H4s.out.call h5 t5
  obtain ⟨X1, X2, X3, X4, X5, hcc, hff⟩ := hc5.ss.cells
  have k5 : w5.cell? ⟨sb, 3, none⟩ = some X1 := hcc 3
  have kf5 : w5.frozen? ⟨sb, 3, none⟩ = false := hff 3
  have HE3 := Lib.hid (And.intro ev2 es3)
  have c5 := (HB.out _ H5.out.tt).1
  obtain ⟨W5, hW5⟩ : ∃ W5, w5.setCell ⟨sb, 3, none⟩ (.slice Pv v2.length qv) = W5 := ⟨_, rfl⟩
  rw [hW5] at H5 c5
  have HW5 := Lib.hid hW5
  clear hW5 hcc hff hc5 hv h5 t5 ev2 es3 c4s
  go_upto_region 5 with (fail)
  rw [HW5.out]
  obtain ⟨s4, es4⟩ : ∃ q, take en [123] s3 = q := ⟨_, rfl⟩
  obtain ⟨x, ex⟩ : ∃ q, (many (sees kMethod) (signature en) 40 (s4.l.length + 1) [] s4).1 = q := ⟨_, rfl⟩
  obtain ⟨s5, es5⟩ : ∃ q, (many (sees kMethod) (signature en) 40 (s4.l.length + 1) [] s4).2 = q := ⟨_, rfl⟩
  obtain ⟨pF, hpF⟩ : ∃ q : Cf, (⟨v1, e0, true, v2, [], [], x, none, pl, pc⟩ : Cf) = q := ⟨_, rfl⟩
  have hEF : face en s = (pF, take en [125] s5) := by
    rw [← hpF]
    unfold face
    simp only [HAT.out, cf0_mk, HE1.out, HE2.out.1, HE2.out.2, HE3.out.1, HE3.out.2, es4, ex, es5]
  have HEF := Lib.hid hEF
  have HBR := Lib.hid (braced2_any en b s3 s5 107 [.pointer (some ⟨g1, 0, none⟩), .pointer (some ⟨sb, 0, none⟩)] (fun w' => Rc w' sb pF ∧ Tq b sb W5 w') W5 H5.out.pr (enters_of Tryz.func107 (by kernel_rfl) rfl) (fun w1 h1 t1 => by
    rw [es4] at h1
    have hc := (H5.out.call (s' := s4) h1 t1)
    refine (face1_any en b sb g1 s4 _ w1 h1 hc.ss.rc (by omega) hbg (by omega) (HB.out _ hc.tt).1).mono ?_
    rintro e3 w3 ⟨rfl, hm, h3, t3⟩
    rw [ex] at hm
    rw [es5] at h3
    rw [← hpF]
    exact ⟨rfl, ⟨hm, (Tq.of t1 (by simp)).trans t3⟩, h3⟩))
  clear es4 ex es5 hEF hpF
  go_wp2_with fail
  refine HBR.out.mono ?_
  rintro e9 w9 ⟨rfl, w8, ⟨hrc, htq⟩, t9, h9⟩
  have HRC := Lib.hid (hrc.turn t9 (by simp; omega))
  have HP9 := Lib.hid h9
  have HTQ : Hid (Tq b sb W2 w9) := Lib.hid ((H5.out.tt.trans htq).trans (Tq.of t9 (by simp)))
  clear hrc htq t9 h9 HBR c5 k5 kf5
  obtain ⟨xnm, xsup, xface, xfs, xfd, xsc, xms, xini, xln, xcl⟩ := pF
  obtain ⟨V1, V2, V3, V4, V5, hrow, k1, k2, k3, k4, k5⟩ := HRC.out
  obtain ⟨P1, q1, rfl, _, _⟩ := id k1
  obtain ⟨P2, q2, rfl, _, _⟩ := id k2
  obtain ⟨P3, q3, rfl, _, _⟩ := id k3
  obtain ⟨P4, q4, rfl, _, _⟩ := id k4
  have hV5 : ∃ A, V5 = .pointer A := by
    cases hxi : xini with
    | none => simp only [hxi] at k5; exact ⟨_, k5⟩
    | some m => simp only [hxi] at k5; obtain ⟨g, cs, e, _⟩ := k5; exact ⟨_, e⟩
  obtain ⟨A5, rfl⟩ := hV5
  have hrw := (HB.out w9 HTQ.out).2
  have m0 : w9.cell? ⟨sb, 0, none⟩ = some (.string xnm) := cell_of_row w9 sb 0 _ _ _ hrow
  have m1 : w9.cell? ⟨sb, 1, none⟩ = some (.string xsup) := cell_of_row w9 sb 1 _ _ _ hrow
  have m2 : w9.cell? ⟨sb, 2, none⟩ = some (.bool xface) := cell_of_row w9 sb 2 _ _ _ hrow
  have m3 : w9.cell? ⟨sb, 3, none⟩ = some (.slice P1 xfs.length q1) := cell_of_row w9 sb 3 _ _ _ hrow
  have m4 : w9.cell? ⟨sb, 4, none⟩ = some (.slice P2 xfd.length q2) := cell_of_row w9 sb 4 _ _ _ hrow
  have m5 : w9.cell? ⟨sb, 5, none⟩ = some (.slice P3 xsc.length q3) := cell_of_row w9 sb 5 _ _ _ hrow
  have m6 : w9.cell? ⟨sb, 6, none⟩ = some (.slice P4 xms.length q4) := cell_of_row w9 sb 6 _ _ _ hrow
  have m7 : w9.cell? ⟨sb, 7, none⟩ = some (.pointer A5) := cell_of_row w9 sb 7 _ _ _ hrow
  have m8 : w9.cell? ⟨sb, 8, none⟩ = some (.int .i64 xln) := cell_of_row w9 sb 8 _ _ _ hrow
  have m9 : w9.cell? ⟨sb, 9, none⟩ = some (.int .i64 xcl) := cell_of_row w9 sb 9 _ _ _ hrow
  have zz0 : w9.cell? ⟨r, 0, none⟩ = some (.string ⟨#[]⟩) := cell_of_row w9 r 0 _ _ _ hrw
  have zf0 : w9.frozen? ⟨r, 0, none⟩ = false := frozen_of_row w9 r 0 _ _ hrw
  have zz1 : w9.cell? ⟨r, 1, none⟩ = some (.string ⟨#[]⟩) := cell_of_row w9 r 1 _ _ _ hrw
  have zf1 : w9.frozen? ⟨r, 1, none⟩ = false := frozen_of_row w9 r 1 _ _ hrw
  have zz2 : w9.cell? ⟨r, 2, none⟩ = some (.bool false) := cell_of_row w9 r 2 _ _ _ hrw
  have zf2 : w9.frozen? ⟨r, 2, none⟩ = false := frozen_of_row w9 r 2 _ _ hrw
  have zz3 : w9.cell? ⟨r, 3, none⟩ = some (.slice none 0 0) := cell_of_row w9 r 3 _ _ _ hrw
  have zf3 : w9.frozen? ⟨r, 3, none⟩ = false := frozen_of_row w9 r 3 _ _ hrw
  have zz4 : w9.cell? ⟨r, 4, none⟩ = some (.slice none 0 0) := cell_of_row w9 r 4 _ _ _ hrw
  have zf4 : w9.frozen? ⟨r, 4, none⟩ = false := frozen_of_row w9 r 4 _ _ hrw
  have zz5 : w9.cell? ⟨r, 5, none⟩ = some (.slice none 0 0) := cell_of_row w9 r 5 _ _ _ hrw
  have zf5 : w9.frozen? ⟨r, 5, none⟩ = false := frozen_of_row w9 r 5 _ _ hrw
  have zz6 : w9.cell? ⟨r, 6, none⟩ = some (.slice none 0 0) := cell_of_row w9 r 6 _ _ _ hrw
  have zf6 : w9.frozen? ⟨r, 6, none⟩ = false := frozen_of_row w9 r 6 _ _ hrw
  have zz7 : w9.cell? ⟨r, 7, none⟩ = some (.pointer none) := cell_of_row w9 r 7 _ _ _ hrw
  have zf7 : w9.frozen? ⟨r, 7, none⟩ = false := frozen_of_row w9 r 7 _ _ hrw
  have zz8 : w9.cell? ⟨r, 8, none⟩ = some (.int .i64 0) := cell_of_row w9 r 8 _ _ _ hrw
  have zf8 : w9.frozen? ⟨r, 8, none⟩ = false := frozen_of_row w9 r 8 _ _ hrw
  have zz9 : w9.cell? ⟨r, 9, none⟩ = some (.int .i64 0) := cell_of_row w9 r 9 _ _ _ hrw
  have zf9 : w9.frozen? ⟨r, 9, none⟩ = false := frozen_of_row w9 r 9 _ _ hrw
  have HK := Lib.hid (And.intro k1 (And.intro k2 (And.intro k3 (And.intro k4 k5))))
  clear hrow hrw k1 k2 k3 k4 k5
  go_wp2_with fail
  refine bodyPost_ret (v := .agg #[.string xnm, .string xsup, .bool xface, .slice P1 xfs.length q1, .slice P2 xfd.length q2, .slice P3 xsc.length q3, .slice P4 xms.length q4, .pointer A5, .int .i64 xln, .int .i64 xcl]) (by simp [results, Tryz.results83, go_sem, zz0, zz1, zz2, zz3, zz4, zz5, zz6, zz7, zz8, zz9]) rfl ?_
  rw [HEF.out]
  have key : ∀ W', Turn [r] w9 W' → ∃ cs : List Value, Ending.returned (.agg #[.string xnm, .string xsup, .bool xface, .slice P1 xfs.length q1, .slice P2 xfd.length q2, .slice P3 xsc.length q3, .slice P4 xms.length q4, .pointer A5, .int .i64 xln, .int .i64 xcl]) = Ending.returned (.agg cs.toArray) ∧ RdC (fun g => w.heap.size ≤ g) W' cs ⟨xnm, xsup, xface, xfs, xfd, xsc, xms, xini, xln, xcl⟩ ∧ Pr en W' b (take en [125] s5) ∧ Turn [b] w W' := fun W' tE => by
    obtain ⟨F, tF, hF⟩ := HTQ.out
    have hwsb : w.heap.size ≤ sb := by have := HG.out; omega
    refine ⟨[.string xnm, .string xsup, .bool xface, .slice P1 xfs.length q1, .slice P2 xfd.length q2, .slice P3 xsc.length q3, .slice P4 xms.length q4, .pointer A5, .int .i64 xln, .int .i64 xcl], rfl, goodC.mono (goodC.turn (show RdC (fun g => sb < g) w9 [.string xnm, .string xsup, .bool xface, .slice P1 xfs.length q1, .slice P2 xfd.length q2, .slice P3 xsc.length q3, .slice P4 xms.length q4, .pointer A5, .int .i64 xln, .int .i64 xcl] ⟨xnm, xsup, xface, xfs, xfd, xsc, xms, xini, xln, xcl⟩ from ⟨_, _, _, _, _, rfl, HK.out.1, HK.out.2.1, HK.out.2.2.1, HK.out.2.2.2.1, HK.out.2.2.2.2⟩) tE (fun g hg h => by simp at hg; omega)) (fun g hg _ => by omega), HP9.out.turn tE (by simp; omega), ?_⟩
    refine (((HT2.out.more (by simp)).trans tF (fun g hg => ?_)).trans tE (fun g hg => by have := HG.out; simp at hg; omega))
    rcases hF g hg with h | h
    · exact .inl (by simp [h])
    · exact .inr (by have := HG.out; omega)
  exact key _ (((((((((((Turn.refl [r] w9).setCell (.inl (by simp)) _).setCell (.inl (by simp)) _).setCell (.inl (by simp)) _).setCell (.inl (by simp)) _).setCell (.inl (by simp)) _).setCell (.inl (by simp)) _).setCell (.inl (by simp)) _).setCell (.inl (by simp)) _).setCell (.inl (by simp)) _).setCell (.inl (by simp)) _)
end Go.Proofs.YtnmhcgkccchacaaGreatDoor
