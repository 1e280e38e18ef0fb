import Derived.Test.YtnmhcgkccchacaaGreatDoorQ05Sig
import Derived.Test.YtnmhcgkccchacaaGreatDoorQ06Fcs

/- members. Printed by mkmem.py. -/
set_option linter.unusedSimpArgs false
set_option linter.unusedVariables false
set_option maxRecDepth 100000
namespace Go.Proofs.YtnmhcgkccchacaaGreatDoor
open Go.RowKit

def memWords : List (List UInt8) := [kField, kStatic, kMethod, kInit]
set_option maxHeartbeats 25600000 in
theorem members_any (en : Nat × Nat) (b sb : Nat) (s : RS) (p : Cf) (w : World) (hP : Pr en w b s) (hS : Cb w b sb p) (hd : s.deep = 0) (hz : p.fd.length + p.sc.length + p.ms.length + s.l.length ≤ 900000) :
    Calls Tryz.prog 111 #[.pointer (some ⟨b, 0, none⟩), .pointer (some ⟨sb, 0, none⟩)] w fun e w' => e = .returned (.tuple #[]) ∧ StC en w w' b sb (members en (s.l.length + 1) p s).2 (members en (s.l.length + 1) p s).1 := by
  have hbs := hS.gt
  obtain ⟨R, hR⟩ : ∃ R, members en (s.l.length + 1) p s = R := ⟨_, rfl⟩
  rw [hR]
  have H00 := Lib.hid (StC.mk0 hP hS)
  have HR0 := Lib.hid hR
  have HD0 := Lib.hid hd
  have HZ0 := Lib.hid hz
  clear hR hP hS hd hz
  go_enter Tryz.func111, Tryz.ntmps111
  go_wp2_with fail
  go_loopw [4] (fun ti wr => ∃ (p1 : Cf) (s1 : RS), Hid (StC en w wr b sb s1 p1) ∧ Hid (s1.deep = 0) ∧ Hid (p1.fd.length + p1.sc.length + p1.ms.length + s1.l.length ≤ 900000) ∧ ∃ n, s1.l.length < n ∧ members en n p1 s1 = R) (fun ti wr => lenAt wr b)
  case atStart => exact ⟨p, s, Lib.hid H00.out, Lib.hid HD0.out, Lib.hid HZ0.out, s.l.length + 1, by omega, HR0.out⟩
  case round =>
    obtain ⟨p1, s1, HS, HD, HN, n, hn, hmem0⟩ := hrel
    obtain ⟨m, rfl⟩ : ∃ m, n = m + 1 := ⟨n - 1, by omega⟩
    unfold members at hmem0
    have HM0 := Lib.hid hmem0
    clear hmem0
    have HQ0 := Lib.hid (sees_any en b s1 (wr.alloc (.cells #[.string (mk kField), .string (mk kStatic), .string (mk kMethod), .string (mk kInit)] 9)) (HS.out.pr.up ((Turn.refl [] wr).alloc _)) (some ⟨wr.heap.size, 0, none⟩) 4 memWords (sts_new wr memWords _ rfl) (by decide))
    go_wp2_with fail
    refine HQ0.out.mono ?_
    rintro e1 w1 ⟨rfl, t1⟩
    have H1 := Lib.hid (HS.out.up (((Turn.refl [] wr).alloc _).trans' t1))
    clear t1 HQ0
    cases hq : seesAny memWords s1 with
    | false =>
      have HQ := Lib.hid (show seesAny [kField, kStatic, kMethod, kInit] s1 = false from hq)
      clear hq
      go_wp2_with fail
      go_end0
      have hm := HM0.out
      rw [HQ.out] at hm
      simp only [Bool.false_eq_true, if_false] at hm
      subst hm
      exact ⟨rfl, H1.out⟩
    | true =>
      have HNE := Lib.hid (seesAny_ne hq)
      have hm0 := HM0.out
      rw [show seesAny [kField, kStatic, kMethod, kInit] s1 = true from hq] at hm0
      simp only [if_true] at hm0
      have HM := Lib.hid hm0
      clear hq hm0 HM0
      go_wp2_with fail
      refine (seesN_any en b s1 kField _ w1.heap.size rfl _ rfl H1.out.pr).mono ?_
      rintro e2 w2 ⟨rfl, t2⟩
      have H2 := Lib.hid (H1.out.up t2)
      clear t2
      cases hq1 : sees kField s1 with
      | true =>
        have HQ1 := Lib.hid hq1
        clear hq1
        obtain ⟨V1, V2, V3, V4, V5, A1, A2, A3, hC⟩ := id H2.out.ss
        obtain ⟨Pf, qf, ev, _⟩ := hC.fd.form
        subst ev
        have hlen : p1.fd.length ≤ 900000 := by have := HN.out; omega
        obtain ⟨n4, hn4⟩ : ∃ n, p1.fd.length = n := ⟨_, rfl⟩
        rw [hn4] at hC hlen
        have c4 : w2.cell? ⟨sb, 4, none⟩ = some (.slice Pf n4 qf) := cell_of_row w2 sb 4 _ _ _ hC.blk
        have HCC := Lib.hid hC
        have HN4 := Lib.hid hn4
        clear hC hn4
        go_wp2_with fail
        refine (room_any en b n4 40 s1 w2 H2.out.pr).mono ?_
        rintro e3 w3 ⟨rfl, h3, t3⟩
        have H3 := Lib.hid (H2.out.call h3 t3)
        obtain ⟨s3, hs3⟩ : ∃ q, room (decide (40 ≤ n4)) s1 = q := ⟨_, rfl⟩
        rw [hs3] at H3
        have hd3 : s3.deep = 0 := by rw [← hs3]; exact HD.out
        have hl3 : s3.l = s1.l := by rw [← hs3]; rfl
        have hne3 : s3.l ≠ [] := by rw [hl3]; exact HNE.out
        have hC3 := HCC.out.turn t3 (by simp; exact hbs)
        have d4 : w3.cell? ⟨sb, 4, none⟩ = some (.slice Pf n4 qf) := cell_of_row w3 sb 4 _ _ _ hC3.blk
        have H3d := Lib.hid (H3.out.up (Turn.refl [] w3).drew)
        have HD3 := Lib.hid hd3
        have HL3 := Lib.hid (congrArg List.length hl3)
        have HC3 := Lib.hid hC3
        have HS3 := Lib.hid hs3
        have HLT3 : Hid (Lt s3 (declared en kField s3).2) := Lib.hid (declared_lt _ hne3)
        clear h3 t3 hs3 hd3 hl3 hne3 hC3 c4 HCC
        go_upto_region 5 with (fail)
        refine wp_region_held_drew (S := fun w' => True) (by kernel_rfl) ?_ (fun hHeld => ?_)
        · trivial
        refine wpAnyH_take (i := 0) (oi := { dst := some 36, op := Op.move (Operand.tmp 1), type := 158, pos := _, after := #[], guard := none }) (v := ?_) rfl (by kernel_rfl) (by kernel_rfl) (by kernel_rfl) (fun _ _ _ h => h) (Or.inl ⟨by rfl, ?_⟩) (by assumption) ?_
        rotate_left
        · intro w hSw; (try dsimp only at hSw); go_simp; (try with_reducible rfl)
        try simp only [Act.put, List.setIfInBounds_toArray, List.set_cons_zero, List.set_cons_succ]
        refine wpAnyH_take (i := 1) (oi := { dst := some 37, op := Op.move (Operand.tmp 1), type := 158, pos := _, after := #[], guard := none }) (v := ?_) rfl (by kernel_rfl) (by kernel_rfl) (by kernel_rfl) (fun _ _ _ h => h) (Or.inl ⟨by rfl, ?_⟩) (by assumption) ?_
        rotate_left
        · intro w hSw; (try dsimp only at hSw); go_simp; (try with_reducible rfl)
        try simp only [Act.put, List.setIfInBounds_toArray, List.set_cons_zero, List.set_cons_succ]
        refine wpAnyH_take (i := 2) (oi := { dst := some 38, op := Op.nilCheck (Operand.tmp 37), type := 0, pos := _, after := #[{ on := 1, ground := Ground.data }], guard := none }) (v := ?_) rfl (by kernel_rfl) (by kernel_rfl) (by kernel_rfl) (fun _ _ _ h => h) (Or.inl ⟨by rfl, ?_⟩) (by assumption) ?_
        rotate_left
        · intro w hSw; (try dsimp only at hSw); go_simp; (try with_reducible rfl)
        try simp only [Act.put, List.setIfInBounds_toArray, List.set_cons_zero, List.set_cons_succ]
        refine wpAnyH_take (i := 3) (oi := { dst := some 39, op := Op.fieldAddr 69 (Operand.tmp 38) 4, type := 0, pos := _, after := #[{ on := 2, ground := Ground.data }], guard := none }) (v := ?_) rfl (by kernel_rfl) (by kernel_rfl) (by kernel_rfl) (fun _ _ _ h => h) (Or.inl ⟨by rfl, ?_⟩) (by assumption) ?_
        rotate_left
        · intro w hSw; (try dsimp only at hSw); go_simp; (try with_reducible rfl)
        try simp only [Act.put, List.setIfInBounds_toArray, List.set_cons_zero, List.set_cons_succ]
        refine wpAnyH_take (i := 5) (oi := { dst := some 41, op := Op.move (Operand.tmp 0), type := 57, pos := _, after := #[], guard := none }) (v := ?_) rfl (by kernel_rfl) (by kernel_rfl) (by kernel_rfl) (fun _ _ _ h => h) (Or.inl ⟨by rfl, ?_⟩) (by assumption) ?_
        rotate_left
        · intro w hSw; (try dsimp only at hSw); go_simp; (try with_reducible rfl)
        try simp only [Act.put, List.setIfInBounds_toArray, List.set_cons_zero, List.set_cons_succ]
        refine wpAnyH_ready (rs := [4, 6]) (by kernel_rfl) (by simp) ?_
        refine AllReadyH.cons (o := { dst := some 40, op := Op.load 24 (Operand.tmp 39), type := 24, pos := _, after := #[{ on := 3, ground := Ground.data }], guard := none }) rfl (fun K hK => ?_) (AllReadyH.cons (o := { dst := some 42, op := Op.call { callee := Callee.value (Operand.func 136), args := #[Operand.tmp 41, Operand.const (Value.string { data := #[102, 105, 101, 108, 100] })], argTypes := #[57, 9] }, type := 107, pos := _, after := #[{ on := 5, ground := Ground.data }], guard := none }) rfl (fun K hK => ?_) AllReadyH.nil)
        · go_simp
          refine hK.out _ _ ?_ (fun hHeld => ?_)
          · trivial
          clear hK K
          try simp only [Act.put, List.setIfInBounds_toArray, List.set_cons_zero, List.set_cons_succ]
          refine wpAnyH_ready (rs := [6]) (by kernel_rfl) (by simp) ?_
          refine AllReadyH.cons (o := { dst := some 42, op := Op.call { callee := Callee.value (Operand.func 136), args := #[Operand.tmp 41, Operand.const (Value.string { data := #[102, 105, 101, 108, 100] })], argTypes := #[57, 9] }, type := 107, pos := _, after := #[{ on := 5, ground := Ground.data }], guard := none }) rfl (fun K hK => ?_) AllReadyH.nil
          go_simp
          go_at_call 136
          (with_reducible refine (declared_any en b s3 kField ⟨#[102, 105, 101, 108, 100]⟩ rfl w3.drew H3d.out.pr).mono ?_)
          rintro e4 w4 ⟨cs, rfl, hr4, h4, t4⟩
          obtain ⟨x, hx⟩ : ∃ q, (declared en kField s3).1 = q := ⟨_, rfl⟩
          obtain ⟨s4, hs4⟩ : ∃ q, (declared en kField s3).2 = q := ⟨_, rfl⟩
          rw [hx] at hr4
          rw [hs4] at h4
          have HX := Lib.hid hx
          have HS4 := Lib.hid hs4
          have HLT4 : Hid (s4.deep = s3.deep ∧ s4.l.length < s3.l.length) := Lib.hid (by rw [← hs4]; exact HLT3.out)
          have tb4 : Turn [b] w3 w4 := ((Turn.refl [b] w3).drew).trans t4 (fun g hg => .inl hg)
          clear hx hs4
          obtain ⟨xt, xn, xl, xc⟩ := x
          have e9 : cs = [.string xt, .string xn, .int .i64 xl, .int .i64 xc] := hr4
          subst e9
          have hC4 := HC3.out.turn tb4 (by simp; exact hbs)
          have e4' : w4.cell? ⟨sb, 4, none⟩ = some (.slice Pf n4 qf) := cell_of_row w4 sb 4 _ _ _ hC4.blk
          have e4a : (w4.alloc (.cells #[.string xt, .string xn, .int .i64 xl, .int .i64 xc] 107)).cell? ⟨sb, 4, none⟩ = some (.slice Pf n4 qf) := cell_of_row _ sb 4 _ _ _ (((Turn.refl [] w4).alloc _).heap hC4.blk (by simp))
          have HR4 := Lib.hid hr4
          have HP4 := Lib.hid h4
          have HT4 := Lib.hid tb4
          have hsz4 := tb4.size
          have hszd : w3.drew.heap.size = w3.heap.size := rfl
          clear hC4 h4 t4 tb4 hr4
          try go_wp2_with fail
          refine hK.out _ _ ?_ (fun hHeld => ?_)
          · trivial
          clear hK K
          try simp only [Act.put, List.setIfInBounds_toArray, List.set_cons_zero, List.set_cons_succ]
          refine wpAnyH_ready (rs := [7]) (by kernel_rfl) (by simp) ?_
          refine AllReadyH.cons (o := { dst := some 43, op := Op.buildSlice 24 1 #[(0, Operand.tmp 42)], type := 24, pos := _, after := #[{ on := 6, ground := Ground.data }], guard := none }) rfl (fun K hK => ?_) AllReadyH.nil
          go_simp
          refine hK.out _ _ ?_ (fun hHeld => ?_)
          · trivial
          clear hK K
          try simp only [Act.put, List.setIfInBounds_toArray, List.set_cons_zero, List.set_cons_succ]
          refine wpAnyH_ready (rs := [8]) (by kernel_rfl) (by simp) ?_
          refine AllReadyH.cons (o := { dst := some 44, op := Op.call { callee := Callee.builtin Builtin.append, args := #[Operand.tmp 40, Operand.tmp 43], argTypes := #[24, 24] }, type := 24, pos := _, after := #[{ on := 4, ground := Ground.data }, { on := 7, ground := Ground.data }, { on := 6, ground := Ground.chain }], guard := none }) rfl (fun K hK => ?_) AllReadyH.nil
          have tal : Turn [] w4 (w4.alloc (.cells #[.string xt, .string xn, .int .i64 xl, .int .i64 xc] 107)) := (Turn.refl [] w4).alloc _
          have hown : OwnL 107 4 RdW (fun g => A1 g ∨ w3.heap.size ≤ g) (w4.alloc (.cells #[.string xt, .string xn, .int .i64 xl, .int .i64 xc] 107)) (.slice Pf n4 qf) p1.fd :=
            ((HC3.out.fd.turn goodW HT4.out (by simp; intro h; have := (HC3.out.a1 _ h).1; omega)).turn goodW tal (by simp)).mono goodW (fun g hg _ => .inl hg)
          have hvb : ∀ g, (Value.slice Pf n4 qf).ownBlock = some g → A1 g ∧ g < w3.heap.size := fun g hg => ⟨(HC3.out.fd.lt hg).2, (HC3.out.fd.lt hg).1⟩
          have hrr : RdW (fun g => (A1 g ∨ w3.heap.size ≤ g) ∧ (Value.slice Pf n4 qf).ownBlock ≠ some g) (w4.alloc (.cells #[.string xt, .string xn, .int .i64 xl, .int .i64 xc] 107)) [.string xt, .string xn, .int .i64 xl, .int .i64 xc] ⟨xt, xn, xl, xc⟩ :=
            goodW.mono (goodW.turn HR4.out tal (by simp)) (fun g hg _ => ⟨.inr hg, fun h => by have h1 := (hvb g h).2; have h2 : w3.heap.size ≤ g := hg; omega⟩)
          refine step_appL rfl (.tmp 40) (.tmp 43) 24 rfl (w4.alloc (.cells #[.string xt, .string xn, .int .i64 xl, .int .i64 xc] 107)) 107 4 48 _ RdW goodW (fun g => A1 g ∨ w3.heap.size ≤ g) Tryz.underlying24 var_info rfl (by omega) (by omega) (.slice Pf n4 qf) p1.fd (by simp [Act.eval, Act.put]) hown w4.heap.size 1 [.string xt, .string xn, .int .i64 xl, .int .i64 xc] ⟨xt, xn, xl, xc⟩ (by exact heap_alloc_new w4 _) hrr (by simp [Act.eval, Act.put]) (by rw [HN4.out]; omega) (.inr (by simp; omega)) ?_
          intro v5 w5 ho5 t5
          obtain ⟨P5, q5, ev5, _⟩ := ho5.form
          rw [List.length_append, HN4.out] at ev5
          subst ev5
          have tb5 : Turn [b] w3 (w4.alloc (.cells #[.string xt, .string xn, .int .i64 xl, .int .i64 xc] 107)) := HT4.out.trans' tal
          have hC5 := (HC3.out.turn tb5 (by simp; exact hbs))
          have hrow5 := t5.heap hC5.blk (fun hg => by have h1 := (HC3.out.a1 _ (hvb _ (by simpa using hg)).1).1; omega)
          have x4 : w5.cell? ⟨sb, 4, none⟩ = some (.slice Pf n4 qf) := cell_of_row w5 sb 4 _ _ _ hrow5
          have xf4 : w5.frozen? ⟨sb, 4, none⟩ = false := frozen_of_row w5 sb 4 _ _ hrow5
          have HAP := Lib.hid (HC3.out.app_fd tb5 t5 ho5)
          have HP5 := Lib.hid ((HP4.out.up tal).turn t5 (fun g hg => by have h1 := (HC3.out.a1 _ (hvb _ (by simpa using hg)).1).1; omega))
          have HT5 : Hid (Tq b sb w3 w5) := Lib.hid ((Tq.of tb5 (by simp)).trans (Tq.of t5 (fun g hg => .inr (by have h1 := (HC3.out.a1 _ (hvb _ (by simpa using hg)).1).1; omega))))
          clear ho5 t5 hC5 hrow5 tb5 hrr hown tal
          refine hK.out _ _ ?_ (fun hHeld => ?_)
          · trivial
          clear hK K
          try simp only [Act.put, List.setIfInBounds_toArray, List.set_cons_zero, List.set_cons_succ]
          refine wpAnyH_take (i := 9) (oi := { dst := some 45, op := Op.nilCheck (Operand.tmp 36), type := 0, pos := _, after := #[{ on := 0, ground := Ground.data }, { on := 0, ground := Ground.phase }, { on := 1, ground := Ground.phase }, { on := 2, ground := Ground.phase }, { on := 3, ground := Ground.phase }, { on := 4, ground := Ground.phase }, { on := 5, ground := Ground.phase }, { on := 6, ground := Ground.phase }, { on := 7, ground := Ground.phase }, { on := 8, ground := Ground.phase }], guard := none }) (v := ?_) rfl (by kernel_rfl) (by kernel_rfl) (by kernel_rfl) (fun _ _ _ h => h) (Or.inl ⟨by rfl, ?_⟩) (by assumption) ?_
          rotate_left
          · intro w hSw; (try dsimp only at hSw); go_simp; (try with_reducible rfl)
          try simp only [Act.put, List.setIfInBounds_toArray, List.set_cons_zero, List.set_cons_succ]
          refine wpAnyH_take (i := 10) (oi := { dst := some 46, op := Op.fieldAddr 69 (Operand.tmp 45) 4, type := 0, pos := _, after := #[{ on := 9, ground := Ground.data }, { on := 0, ground := Ground.phase }, { on := 1, ground := Ground.phase }, { on := 2, ground := Ground.phase }, { on := 3, ground := Ground.phase }, { on := 4, ground := Ground.phase }, { on := 5, ground := Ground.phase }, { on := 6, ground := Ground.phase }, { on := 7, ground := Ground.phase }, { on := 8, ground := Ground.phase }], guard := none }) (v := ?_) rfl (by kernel_rfl) (by kernel_rfl) (by kernel_rfl) (fun _ _ _ h => h) (Or.inl ⟨by rfl, ?_⟩) (by assumption) ?_
          rotate_left
          · intro w hSw; (try dsimp only at hSw); go_simp; (try with_reducible rfl)
          try simp only [Act.put, List.setIfInBounds_toArray, List.set_cons_zero, List.set_cons_succ]
          refine wpAnyH_ready (rs := [11]) (by kernel_rfl) (by simp) ?_
          refine AllReadyH.cons (o := { dst := none, op := Op.store 24 (Operand.tmp 46) (Operand.tmp 44), type := 0, pos := _, after := #[{ on := 10, ground := Ground.data }, { on := 8, ground := Ground.data }, { on := 8, ground := Ground.chain }, { on := 0, ground := Ground.phase }, { on := 1, ground := Ground.phase }, { on := 2, ground := Ground.phase }, { on := 3, ground := Ground.phase }, { on := 4, ground := Ground.phase }, { on := 5, ground := Ground.phase }, { on := 6, ground := Ground.phase }, { on := 7, ground := Ground.phase }, { on := 8, ground := Ground.phase }], guard := none }) rfl (fun K hK => ?_) AllReadyH.nil
          go_simp
          refine hK.out _ _ ?_ (fun hHeld => ?_)
          · trivial
          clear hK K
          try simp only [Act.put, List.setIfInBounds_toArray, List.set_cons_zero, List.set_cons_succ]
          refine wpAnyH_done (by kernel_rfl) ?_ _
          go_wp2_with fail
          go_roundw
          case rel =>
            have hmem : member en p1 s1 = ({ p1 with fd := p1.fd ++ [⟨xt, xn, xl, xc⟩] }, s4) := by
              unfold member
              simp only [HQ1.out, if_true, if_false, Bool.false_eq_true, reduceIte, HN4.out, HS3.out, HX.out, HS4.out]
            have hm := HM.out
            rw [hmem] at hm
            have hl := HLT4.out
            have hl3 := HL3.out
            have hn0 := HN.out
            refine ⟨{ p1 with fd := p1.fd ++ [⟨xt, xn, xl, xc⟩] }, s4, Lib.hid ⟨HP5.out.turn (F := [sb]) ((Turn.refl [sb] w5).setCell (.inl (by simp)) _) (by simp; exact hbs), HAP.out, ?_⟩, Lib.hid (by rw [hl.1, HD3.out]), Lib.hid (by simp only [List.length_append, List.length_singleton]; omega), m, by omega, hm⟩
            exact (H3.out.tt.trans HT5.out).trans (Tq.set w5)
          case measure =>
            have h1 := HP5.out.turn (F := [sb]) ((Turn.refl [sb] w5).setCell (p := ⟨sb, 4, none⟩) (.inl (by simp)) (.slice P5 (n4 + 1) q5)) (by simp; exact hbs)
            rw [h1.lenAt, HS.out.pr.lenAt]
            have hl := HLT4.out
            have hl3 := HL3.out
            omega
        · go_simp
          go_at_call 136
          (with_reducible refine (declared_any en b s3 kField ⟨#[102, 105, 101, 108, 100]⟩ rfl w3.drew H3d.out.pr).mono ?_)
          rintro e4 w4 ⟨cs, rfl, hr4, h4, t4⟩
          obtain ⟨x, hx⟩ : ∃ q, (declared en kField s3).1 = q := ⟨_, rfl⟩
          obtain ⟨s4, hs4⟩ : ∃ q, (declared en kField s3).2 = q := ⟨_, rfl⟩
          rw [hx] at hr4
          rw [hs4] at h4
          have HX := Lib.hid hx
          have HS4 := Lib.hid hs4
          have HLT4 : Hid (s4.deep = s3.deep ∧ s4.l.length < s3.l.length) := Lib.hid (by rw [← hs4]; exact HLT3.out)
          have tb4 : Turn [b] w3 w4 := ((Turn.refl [b] w3).drew).trans t4 (fun g hg => .inl hg)
          clear hx hs4
          obtain ⟨xt, xn, xl, xc⟩ := x
          have e9 : cs = [.string xt, .string xn, .int .i64 xl, .int .i64 xc] := hr4
          subst e9
          have hC4 := HC3.out.turn tb4 (by simp; exact hbs)
          have e4' : w4.cell? ⟨sb, 4, none⟩ = some (.slice Pf n4 qf) := cell_of_row w4 sb 4 _ _ _ hC4.blk
          have e4a : (w4.alloc (.cells #[.string xt, .string xn, .int .i64 xl, .int .i64 xc] 107)).cell? ⟨sb, 4, none⟩ = some (.slice Pf n4 qf) := cell_of_row _ sb 4 _ _ _ (((Turn.refl [] w4).alloc _).heap hC4.blk (by simp))
          have HR4 := Lib.hid hr4
          have HP4 := Lib.hid h4
          have HT4 := Lib.hid tb4
          have hsz4 := tb4.size
          have hszd : w3.drew.heap.size = w3.heap.size := rfl
          clear hC4 h4 t4 tb4 hr4
          try go_wp2_with fail
          refine hK.out _ _ ?_ (fun hHeld => ?_)
          · trivial
          clear hK K
          try simp only [Act.put, List.setIfInBounds_toArray, List.set_cons_zero, List.set_cons_succ]
          refine wpAnyH_ready (rs := [4, 7]) (by kernel_rfl) (by simp) ?_
          refine AllReadyH.cons (o := { dst := some 40, op := Op.load 24 (Operand.tmp 39), type := 24, pos := _, after := #[{ on := 3, ground := Ground.data }], guard := none }) rfl (fun K hK => ?_) (AllReadyH.cons (o := { dst := some 43, op := Op.buildSlice 24 1 #[(0, Operand.tmp 42)], type := 24, pos := _, after := #[{ on := 6, ground := Ground.data }], guard := none }) rfl (fun K hK => ?_) AllReadyH.nil)
          · go_simp
            refine hK.out _ _ ?_ (fun hHeld => ?_)
            · trivial
            clear hK K
            try simp only [Act.put, List.setIfInBounds_toArray, List.set_cons_zero, List.set_cons_succ]
            refine wpAnyH_ready (rs := [7]) (by kernel_rfl) (by simp) ?_
            refine AllReadyH.cons (o := { dst := some 43, op := Op.buildSlice 24 1 #[(0, Operand.tmp 42)], type := 24, pos := _, after := #[{ on := 6, ground := Ground.data }], guard := none }) rfl (fun K hK => ?_) AllReadyH.nil
            go_simp
            refine hK.out _ _ ?_ (fun hHeld => ?_)
            · trivial
            clear hK K
            try simp only [Act.put, List.setIfInBounds_toArray, List.set_cons_zero, List.set_cons_succ]
            refine wpAnyH_ready (rs := [8]) (by kernel_rfl) (by simp) ?_
            refine AllReadyH.cons (o := { dst := some 44, op := Op.call { callee := Callee.builtin Builtin.append, args := #[Operand.tmp 40, Operand.tmp 43], argTypes := #[24, 24] }, type := 24, pos := _, after := #[{ on := 4, ground := Ground.data }, { on := 7, ground := Ground.data }, { on := 6, ground := Ground.chain }], guard := none }) rfl (fun K hK => ?_) AllReadyH.nil
            have tal : Turn [] w4 (w4.alloc (.cells #[.string xt, .string xn, .int .i64 xl, .int .i64 xc] 107)) := (Turn.refl [] w4).alloc _
            have hown : OwnL 107 4 RdW (fun g => A1 g ∨ w3.heap.size ≤ g) (w4.alloc (.cells #[.string xt, .string xn, .int .i64 xl, .int .i64 xc] 107)) (.slice Pf n4 qf) p1.fd :=
              ((HC3.out.fd.turn goodW HT4.out (by simp; intro h; have := (HC3.out.a1 _ h).1; omega)).turn goodW tal (by simp)).mono goodW (fun g hg _ => .inl hg)
            have hvb : ∀ g, (Value.slice Pf n4 qf).ownBlock = some g → A1 g ∧ g < w3.heap.size := fun g hg => ⟨(HC3.out.fd.lt hg).2, (HC3.out.fd.lt hg).1⟩
            have hrr : RdW (fun g => (A1 g ∨ w3.heap.size ≤ g) ∧ (Value.slice Pf n4 qf).ownBlock ≠ some g) (w4.alloc (.cells #[.string xt, .string xn, .int .i64 xl, .int .i64 xc] 107)) [.string xt, .string xn, .int .i64 xl, .int .i64 xc] ⟨xt, xn, xl, xc⟩ :=
              goodW.mono (goodW.turn HR4.out tal (by simp)) (fun g hg _ => ⟨.inr hg, fun h => by have h1 := (hvb g h).2; have h2 : w3.heap.size ≤ g := hg; omega⟩)
            refine step_appL rfl (.tmp 40) (.tmp 43) 24 rfl (w4.alloc (.cells #[.string xt, .string xn, .int .i64 xl, .int .i64 xc] 107)) 107 4 48 _ RdW goodW (fun g => A1 g ∨ w3.heap.size ≤ g) Tryz.underlying24 var_info rfl (by omega) (by omega) (.slice Pf n4 qf) p1.fd (by simp [Act.eval, Act.put]) hown w4.heap.size 1 [.string xt, .string xn, .int .i64 xl, .int .i64 xc] ⟨xt, xn, xl, xc⟩ (by exact heap_alloc_new w4 _) hrr (by simp [Act.eval, Act.put]) (by rw [HN4.out]; omega) (.inr (by simp; omega)) ?_
            intro v5 w5 ho5 t5
            obtain ⟨P5, q5, ev5, _⟩ := ho5.form
            rw [List.length_append, HN4.out] at ev5
            subst ev5
            have tb5 : Turn [b] w3 (w4.alloc (.cells #[.string xt, .string xn, .int .i64 xl, .int .i64 xc] 107)) := HT4.out.trans' tal
            have hC5 := (HC3.out.turn tb5 (by simp; exact hbs))
            have hrow5 := t5.heap hC5.blk (fun hg => by have h1 := (HC3.out.a1 _ (hvb _ (by simpa using hg)).1).1; omega)
            have x4 : w5.cell? ⟨sb, 4, none⟩ = some (.slice Pf n4 qf) := cell_of_row w5 sb 4 _ _ _ hrow5
            have xf4 : w5.frozen? ⟨sb, 4, none⟩ = false := frozen_of_row w5 sb 4 _ _ hrow5
            have HAP := Lib.hid (HC3.out.app_fd tb5 t5 ho5)
            have HP5 := Lib.hid ((HP4.out.up tal).turn t5 (fun g hg => by have h1 := (HC3.out.a1 _ (hvb _ (by simpa using hg)).1).1; omega))
            have HT5 : Hid (Tq b sb w3 w5) := Lib.hid ((Tq.of tb5 (by simp)).trans (Tq.of t5 (fun g hg => .inr (by have h1 := (HC3.out.a1 _ (hvb _ (by simpa using hg)).1).1; omega))))
            clear ho5 t5 hC5 hrow5 tb5 hrr hown tal
            refine hK.out _ _ ?_ (fun hHeld => ?_)
            · trivial
            clear hK K
            try simp only [Act.put, List.setIfInBounds_toArray, List.set_cons_zero, List.set_cons_succ]
            refine wpAnyH_take (i := 9) (oi := { dst := some 45, op := Op.nilCheck (Operand.tmp 36), type := 0, pos := _, after := #[{ on := 0, ground := Ground.data }, { on := 0, ground := Ground.phase }, { on := 1, ground := Ground.phase }, { on := 2, ground := Ground.phase }, { on := 3, ground := Ground.phase }, { on := 4, ground := Ground.phase }, { on := 5, ground := Ground.phase }, { on := 6, ground := Ground.phase }, { on := 7, ground := Ground.phase }, { on := 8, ground := Ground.phase }], guard := none }) (v := ?_) rfl (by kernel_rfl) (by kernel_rfl) (by kernel_rfl) (fun _ _ _ h => h) (Or.inl ⟨by rfl, ?_⟩) (by assumption) ?_
            rotate_left
            · intro w hSw; (try dsimp only at hSw); go_simp; (try with_reducible rfl)
            try simp only [Act.put, List.setIfInBounds_toArray, List.set_cons_zero, List.set_cons_succ]
            refine wpAnyH_take (i := 10) (oi := { dst := some 46, op := Op.fieldAddr 69 (Operand.tmp 45) 4, type := 0, pos := _, after := #[{ on := 9, ground := Ground.data }, { on := 0, ground := Ground.phase }, { on := 1, ground := Ground.phase }, { on := 2, ground := Ground.phase }, { on := 3, ground := Ground.phase }, { on := 4, ground := Ground.phase }, { on := 5, ground := Ground.phase }, { on := 6, ground := Ground.phase }, { on := 7, ground := Ground.phase }, { on := 8, ground := Ground.phase }], guard := none }) (v := ?_) rfl (by kernel_rfl) (by kernel_rfl) (by kernel_rfl) (fun _ _ _ h => h) (Or.inl ⟨by rfl, ?_⟩) (by assumption) ?_
            rotate_left
            · intro w hSw; (try dsimp only at hSw); go_simp; (try with_reducible rfl)
            try simp only [Act.put, List.setIfInBounds_toArray, List.set_cons_zero, List.set_cons_succ]
            refine wpAnyH_ready (rs := [11]) (by kernel_rfl) (by simp) ?_
            refine AllReadyH.cons (o := { dst := none, op := Op.store 24 (Operand.tmp 46) (Operand.tmp 44), type := 0, pos := _, after := #[{ on := 10, ground := Ground.data }, { on := 8, ground := Ground.data }, { on := 8, ground := Ground.chain }, { on := 0, ground := Ground.phase }, { on := 1, ground := Ground.phase }, { on := 2, ground := Ground.phase }, { on := 3, ground := Ground.phase }, { on := 4, ground := Ground.phase }, { on := 5, ground := Ground.phase }, { on := 6, ground := Ground.phase }, { on := 7, ground := Ground.phase }, { on := 8, ground := Ground.phase }], guard := none }) rfl (fun K hK => ?_) AllReadyH.nil
            go_simp
            refine hK.out _ _ ?_ (fun hHeld => ?_)
            · trivial
            clear hK K
            try simp only [Act.put, List.setIfInBounds_toArray, List.set_cons_zero, List.set_cons_succ]
            refine wpAnyH_done (by kernel_rfl) ?_ _
            go_wp2_with fail
            go_roundw
            case rel =>
              have hmem : member en p1 s1 = ({ p1 with fd := p1.fd ++ [⟨xt, xn, xl, xc⟩] }, s4) := by
                unfold member
                simp only [HQ1.out, if_true, if_false, Bool.false_eq_true, reduceIte, HN4.out, HS3.out, HX.out, HS4.out]
              have hm := HM.out
              rw [hmem] at hm
              have hl := HLT4.out
              have hl3 := HL3.out
              have hn0 := HN.out
              refine ⟨{ p1 with fd := p1.fd ++ [⟨xt, xn, xl, xc⟩] }, s4, Lib.hid ⟨HP5.out.turn (F := [sb]) ((Turn.refl [sb] w5).setCell (.inl (by simp)) _) (by simp; exact hbs), HAP.out, ?_⟩, Lib.hid (by rw [hl.1, HD3.out]), Lib.hid (by simp only [List.length_append, List.length_singleton]; omega), m, by omega, hm⟩
              exact (H3.out.tt.trans HT5.out).trans (Tq.set w5)
            case measure =>
              have h1 := HP5.out.turn (F := [sb]) ((Turn.refl [sb] w5).setCell (p := ⟨sb, 4, none⟩) (.inl (by simp)) (.slice P5 (n4 + 1) q5)) (by simp; exact hbs)
              rw [h1.lenAt, HS.out.pr.lenAt]
              have hl := HLT4.out
              have hl3 := HL3.out
              omega
          · go_simp
            refine hK.out _ _ ?_ (fun hHeld => ?_)
            · trivial
            clear hK K
            try simp only [Act.put, List.setIfInBounds_toArray, List.set_cons_zero, List.set_cons_succ]
            refine wpAnyH_ready (rs := [4]) (by kernel_rfl) (by simp) ?_
            refine AllReadyH.cons (o := { dst := some 40, op := Op.load 24 (Operand.tmp 39), type := 24, pos := _, after := #[{ on := 3, ground := Ground.data }], guard := none }) rfl (fun K hK => ?_) AllReadyH.nil
            go_simp
            refine hK.out _ _ ?_ (fun hHeld => ?_)
            · trivial
            clear hK K
            try simp only [Act.put, List.setIfInBounds_toArray, List.set_cons_zero, List.set_cons_succ]
            refine wpAnyH_ready (rs := [8]) (by kernel_rfl) (by simp) ?_
            refine AllReadyH.cons (o := { dst := some 44, op := Op.call { callee := Callee.builtin Builtin.append, args := #[Operand.tmp 40, Operand.tmp 43], argTypes := #[24, 24] }, type := 24, pos := _, after := #[{ on := 4, ground := Ground.data }, { on := 7, ground := Ground.data }, { on := 6, ground := Ground.chain }], guard := none }) rfl (fun K hK => ?_) AllReadyH.nil
            have tal : Turn [] w4 (w4.alloc (.cells #[.string xt, .string xn, .int .i64 xl, .int .i64 xc] 107)) := (Turn.refl [] w4).alloc _
            have hown : OwnL 107 4 RdW (fun g => A1 g ∨ w3.heap.size ≤ g) (w4.alloc (.cells #[.string xt, .string xn, .int .i64 xl, .int .i64 xc] 107)) (.slice Pf n4 qf) p1.fd :=
              ((HC3.out.fd.turn goodW HT4.out (by simp; intro h; have := (HC3.out.a1 _ h).1; omega)).turn goodW tal (by simp)).mono goodW (fun g hg _ => .inl hg)
            have hvb : ∀ g, (Value.slice Pf n4 qf).ownBlock = some g → A1 g ∧ g < w3.heap.size := fun g hg => ⟨(HC3.out.fd.lt hg).2, (HC3.out.fd.lt hg).1⟩
            have hrr : RdW (fun g => (A1 g ∨ w3.heap.size ≤ g) ∧ (Value.slice Pf n4 qf).ownBlock ≠ some g) (w4.alloc (.cells #[.string xt, .string xn, .int .i64 xl, .int .i64 xc] 107)) [.string xt, .string xn, .int .i64 xl, .int .i64 xc] ⟨xt, xn, xl, xc⟩ :=
              goodW.mono (goodW.turn HR4.out tal (by simp)) (fun g hg _ => ⟨.inr hg, fun h => by have h1 := (hvb g h).2; have h2 : w3.heap.size ≤ g := hg; omega⟩)
            refine step_appL rfl (.tmp 40) (.tmp 43) 24 rfl (w4.alloc (.cells #[.string xt, .string xn, .int .i64 xl, .int .i64 xc] 107)) 107 4 48 _ RdW goodW (fun g => A1 g ∨ w3.heap.size ≤ g) Tryz.underlying24 var_info rfl (by omega) (by omega) (.slice Pf n4 qf) p1.fd (by simp [Act.eval, Act.put]) hown w4.heap.size 1 [.string xt, .string xn, .int .i64 xl, .int .i64 xc] ⟨xt, xn, xl, xc⟩ (by exact heap_alloc_new w4 _) hrr (by simp [Act.eval, Act.put]) (by rw [HN4.out]; omega) (.inr (by simp; omega)) ?_
            intro v5 w5 ho5 t5
            obtain ⟨P5, q5, ev5, _⟩ := ho5.form
            rw [List.length_append, HN4.out] at ev5
            subst ev5
            have tb5 : Turn [b] w3 (w4.alloc (.cells #[.string xt, .string xn, .int .i64 xl, .int .i64 xc] 107)) := HT4.out.trans' tal
            have hC5 := (HC3.out.turn tb5 (by simp; exact hbs))
            have hrow5 := t5.heap hC5.blk (fun hg => by have h1 := (HC3.out.a1 _ (hvb _ (by simpa using hg)).1).1; omega)
            have x4 : w5.cell? ⟨sb, 4, none⟩ = some (.slice Pf n4 qf) := cell_of_row w5 sb 4 _ _ _ hrow5
            have xf4 : w5.frozen? ⟨sb, 4, none⟩ = false := frozen_of_row w5 sb 4 _ _ hrow5
            have HAP := Lib.hid (HC3.out.app_fd tb5 t5 ho5)
            have HP5 := Lib.hid ((HP4.out.up tal).turn t5 (fun g hg => by have h1 := (HC3.out.a1 _ (hvb _ (by simpa using hg)).1).1; omega))
            have HT5 : Hid (Tq b sb w3 w5) := Lib.hid ((Tq.of tb5 (by simp)).trans (Tq.of t5 (fun g hg => .inr (by have h1 := (HC3.out.a1 _ (hvb _ (by simpa using hg)).1).1; omega))))
            clear ho5 t5 hC5 hrow5 tb5 hrr hown tal
            refine hK.out _ _ ?_ (fun hHeld => ?_)
            · trivial
            clear hK K
            try simp only [Act.put, List.setIfInBounds_toArray, List.set_cons_zero, List.set_cons_succ]
            refine wpAnyH_take (i := 9) (oi := { dst := some 45, op := Op.nilCheck (Operand.tmp 36), type := 0, pos := _, after := #[{ on := 0, ground := Ground.data }, { on := 0, ground := Ground.phase }, { on := 1, ground := Ground.phase }, { on := 2, ground := Ground.phase }, { on := 3, ground := Ground.phase }, { on := 4, ground := Ground.phase }, { on := 5, ground := Ground.phase }, { on := 6, ground := Ground.phase }, { on := 7, ground := Ground.phase }, { on := 8, ground := Ground.phase }], guard := none }) (v := ?_) rfl (by kernel_rfl) (by kernel_rfl) (by kernel_rfl) (fun _ _ _ h => h) (Or.inl ⟨by rfl, ?_⟩) (by assumption) ?_
            rotate_left
            · intro w hSw; (try dsimp only at hSw); go_simp; (try with_reducible rfl)
            try simp only [Act.put, List.setIfInBounds_toArray, List.set_cons_zero, List.set_cons_succ]
            refine wpAnyH_take (i := 10) (oi := { dst := some 46, op := Op.fieldAddr 69 (Operand.tmp 45) 4, type := 0, pos := _, after := #[{ on := 9, ground := Ground.data }, { on := 0, ground := Ground.phase }, { on := 1, ground := Ground.phase }, { on := 2, ground := Ground.phase }, { on := 3, ground := Ground.phase }, { on := 4, ground := Ground.phase }, { on := 5, ground := Ground.phase }, { on := 6, ground := Ground.phase }, { on := 7, ground := Ground.phase }, { on := 8, ground := Ground.phase }], guard := none }) (v := ?_) rfl (by kernel_rfl) (by kernel_rfl) (by kernel_rfl) (fun _ _ _ h => h) (Or.inl ⟨by rfl, ?_⟩) (by assumption) ?_
            rotate_left
            · intro w hSw; (try dsimp only at hSw); go_simp; (try with_reducible rfl)
            try simp only [Act.put, List.setIfInBounds_toArray, List.set_cons_zero, List.set_cons_succ]
            refine wpAnyH_ready (rs := [11]) (by kernel_rfl) (by simp) ?_
            refine AllReadyH.cons (o := { dst := none, op := Op.store 24 (Operand.tmp 46) (Operand.tmp 44), type := 0, pos := _, after := #[{ on := 10, ground := Ground.data }, { on := 8, ground := Ground.data }, { on := 8, ground := Ground.chain }, { on := 0, ground := Ground.phase }, { on := 1, ground := Ground.phase }, { on := 2, ground := Ground.phase }, { on := 3, ground := Ground.phase }, { on := 4, ground := Ground.phase }, { on := 5, ground := Ground.phase }, { on := 6, ground := Ground.phase }, { on := 7, ground := Ground.phase }, { on := 8, ground := Ground.phase }], guard := none }) rfl (fun K hK => ?_) AllReadyH.nil
            go_simp
            refine hK.out _ _ ?_ (fun hHeld => ?_)
            · trivial
            clear hK K
            try simp only [Act.put, List.setIfInBounds_toArray, List.set_cons_zero, List.set_cons_succ]
            refine wpAnyH_done (by kernel_rfl) ?_ _
            go_wp2_with fail
            go_roundw
            case rel =>
              have hmem : member en p1 s1 = ({ p1 with fd := p1.fd ++ [⟨xt, xn, xl, xc⟩] }, s4) := by
                unfold member
                simp only [HQ1.out, if_true, if_false, Bool.false_eq_true, reduceIte, HN4.out, HS3.out, HX.out, HS4.out]
              have hm := HM.out
              rw [hmem] at hm
              have hl := HLT4.out
              have hl3 := HL3.out
              have hn0 := HN.out
              refine ⟨{ p1 with fd := p1.fd ++ [⟨xt, xn, xl, xc⟩] }, s4, Lib.hid ⟨HP5.out.turn (F := [sb]) ((Turn.refl [sb] w5).setCell (.inl (by simp)) _) (by simp; exact hbs), HAP.out, ?_⟩, Lib.hid (by rw [hl.1, HD3.out]), Lib.hid (by simp only [List.length_append, List.length_singleton]; omega), m, by omega, hm⟩
              exact (H3.out.tt.trans HT5.out).trans (Tq.set w5)
            case measure =>
              have h1 := HP5.out.turn (F := [sb]) ((Turn.refl [sb] w5).setCell (p := ⟨sb, 4, none⟩) (.inl (by simp)) (.slice P5 (n4 + 1) q5)) (by simp; exact hbs)
              rw [h1.lenAt, HS.out.pr.lenAt]
              have hl := HLT4.out
              have hl3 := HL3.out
              omega
      | false =>
        have HQ1 := Lib.hid hq1
        clear hq1
        go_wp2_with fail
        refine (seesN_any en b s1 kInit _ w2.heap.size rfl _ rfl H2.out.pr).mono ?_
        rintro e5 w5 ⟨rfl, t5⟩
        have H5 := Lib.hid (H2.out.up t5)
        clear t5
        cases hq2 : sees kInit s1 with
        | true =>
          have HQ2 := Lib.hid hq2
          clear hq2
          go_wp2_with fail
          refine (setup_any en b sb s1 p1 w5 H5.out.pr H5.out.ss HD.out).mono ?_
          rintro e6 w6 ⟨rfl, h6⟩
          have H6 := Lib.hid (H5.out.callS h6)
          clear h6
          have hlt : Lt s1 (setup en p1 s1).2 := by
            have := member_lt (en := en) p1 HNE.out
            unfold member at this
            rw [HQ1.out, HQ2.out] at this
            simpa using this
          have hln : (setup en p1 s1).1.fd = p1.fd ∧ (setup en p1 s1).1.sc = p1.sc ∧ (setup en p1 s1).1.ms = p1.ms := by
            unfold setup
            cases p1.ini <;> exact ⟨rfl, rfl, rfl⟩
          have hmem : member en p1 s1 = setup en p1 s1 := by
            unfold member
            simp only [HQ1.out, HQ2.out, if_true, if_false, Bool.false_eq_true, reduceIte]
          have hm := HM.out
          rw [hmem] at hm
          obtain ⟨p2, hp2⟩ : ∃ q, (setup en p1 s1).1 = q := ⟨_, rfl⟩
          obtain ⟨s2, hs2⟩ : ∃ q, (setup en p1 s1).2 = q := ⟨_, rfl⟩
          rw [hp2, hs2] at hm
          rw [hp2, hs2] at H6
          rw [hp2] at hln
          rw [hs2] at hlt
          have HLT := Lib.hid hlt
          have HLN := Lib.hid hln
          have HM2 := Lib.hid hm
          clear hlt hln hm hmem hp2 hs2
          go_wp2_with fail
          go_roundw
          case rel =>
            have hl := HLT.out
            have hl2 := hl.2
            have hn0 := HN.out
            exact ⟨p2, s2, H6, Lib.hid (by rw [hl.1, HD.out]), Lib.hid (by rw [HLN.out.1, HLN.out.2.1, HLN.out.2.2]; omega), m, by omega, HM2.out⟩
          case measure =>
            rw [H6.out.pr.lenAt, HS.out.pr.lenAt]
            exact HLT.out.2
        | false =>
          have HQ2 := Lib.hid hq2
          clear hq2
          have HRW := Lib.hid (row_any en b s1 (w5.alloc (.cells #[.string (mk kStatic), .string (mk kMethod)] 9)) (H5.out.pr.up ((Turn.refl [] w5).alloc _)) (some ⟨w5.heap.size, 0, none⟩) 2 [kStatic, kMethod] (sts_new w5 [kStatic, kMethod] _ rfl) (by decide))
          go_wp2_with fail
          refine HRW.out.mono ?_
          rintro e6 w6 ⟨rfl, ew6⟩
          have H6 : Hid (StC en w w6 b sb s1 p1) := Lib.hid (by rw [← ew6]; exact H5.out.up ((Turn.refl [] w5).alloc _))
          rw [← row2_row]
          clear ew6 HRW
          have hfin : ∀ (W : World), Hid (StC en w W b sb s1 p1) → True := fun _ _ => trivial
          clear hfin
          cases hq3 : row2 kStatic kMethod s1 with
          | true =>
            have HQ3 : Hid ((row2 kStatic kMethod s1 || sees kMethod s1) = true) := Lib.hid (by rw [hq3]; rfl)
            clear hq3
            obtain ⟨V1, V2, V3, V4, V5, A1, A2, A3, hC⟩ := id H6.out.ss
            obtain ⟨Pf, qf, ev, _⟩ := hC.ms.form
            subst ev
            have hlen : p1.ms.length ≤ 900000 := by have := HN.out; omega
            obtain ⟨n4, hn4⟩ : ∃ n, p1.ms.length = n := ⟨_, rfl⟩
            rw [hn4] at hC hlen
            have c4 : w6.cell? ⟨sb, 6, none⟩ = some (.slice Pf n4 qf) := cell_of_row w6 sb 6 _ _ _ hC.blk
            have HCC := Lib.hid hC
            have HN4 := Lib.hid hn4
            clear hC hn4
            go_wp2_with fail
            refine (room_any en b n4 40 s1 w6 H6.out.pr).mono ?_
            rintro e3 w3 ⟨rfl, h3, t3⟩
            have H3 := Lib.hid (H6.out.call h3 t3)
            obtain ⟨s3, hs3⟩ : ∃ q, room (decide (40 ≤ n4)) s1 = q := ⟨_, rfl⟩
            rw [hs3] at H3
            have hd3 : s3.deep = 0 := by rw [← hs3]; exact HD.out
            have hl3 : s3.l = s1.l := by rw [← hs3]; rfl
            have hne3 : s3.l ≠ [] := by rw [hl3]; exact HNE.out
            have hC3 := HCC.out.turn t3 (by simp; exact hbs)
            have d4 : w3.cell? ⟨sb, 6, none⟩ = some (.slice Pf n4 qf) := cell_of_row w3 sb 6 _ _ _ hC3.blk
            have H3d := Lib.hid (H3.out.up (Turn.refl [] w3).drew)
            have HD3 := Lib.hid hd3
            have HL3 := Lib.hid (congrArg List.length hl3)
            have HC3 := Lib.hid hC3
            have HS3 := Lib.hid hs3
            have HLT3 : Hid (Lt s3 (method en s3).2) := Lib.hid (method_lt hne3)
            clear h3 t3 hs3 hd3 hl3 hne3 hC3 c4 HCC
            go_upto_region 10 with (fail)
            refine wp_region_held_drew (S := fun w' => True) (by kernel_rfl) ?_ (fun hHeld => ?_)
            · trivial
            refine wpAnyH_take (i := 0) (oi := { dst := some 70, op := Op.move (Operand.tmp 1), type := 158, pos := _, after := #[], guard := none }) (v := ?_) rfl (by kernel_rfl) (by kernel_rfl) (by kernel_rfl) (fun _ _ _ h => h) (Or.inl ⟨by rfl, ?_⟩) (by assumption) ?_
            rotate_left
            · intro w hSw; (try dsimp only at hSw); go_simp; (try with_reducible rfl)
            try simp only [Act.put, List.setIfInBounds_toArray, List.set_cons_zero, List.set_cons_succ]
            refine wpAnyH_take (i := 1) (oi := { dst := some 71, op := Op.move (Operand.tmp 1), type := 158, pos := _, after := #[], guard := none }) (v := ?_) rfl (by kernel_rfl) (by kernel_rfl) (by kernel_rfl) (fun _ _ _ h => h) (Or.inl ⟨by rfl, ?_⟩) (by assumption) ?_
            rotate_left
            · intro w hSw; (try dsimp only at hSw); go_simp; (try with_reducible rfl)
            try simp only [Act.put, List.setIfInBounds_toArray, List.set_cons_zero, List.set_cons_succ]
            refine wpAnyH_take (i := 2) (oi := { dst := some 72, op := Op.nilCheck (Operand.tmp 71), type := 0, pos := _, after := #[{ on := 1, ground := Ground.data }], guard := none }) (v := ?_) rfl (by kernel_rfl) (by kernel_rfl) (by kernel_rfl) (fun _ _ _ h => h) (Or.inl ⟨by rfl, ?_⟩) (by assumption) ?_
            rotate_left
            · intro w hSw; (try dsimp only at hSw); go_simp; (try with_reducible rfl)
            try simp only [Act.put, List.setIfInBounds_toArray, List.set_cons_zero, List.set_cons_succ]
            refine wpAnyH_take (i := 3) (oi := { dst := some 73, op := Op.fieldAddr 69 (Operand.tmp 72) 6, type := 0, pos := _, after := #[{ on := 2, ground := Ground.data }], guard := none }) (v := ?_) rfl (by kernel_rfl) (by kernel_rfl) (by kernel_rfl) (fun _ _ _ h => h) (Or.inl ⟨by rfl, ?_⟩) (by assumption) ?_
            rotate_left
            · intro w hSw; (try dsimp only at hSw); go_simp; (try with_reducible rfl)
            try simp only [Act.put, List.setIfInBounds_toArray, List.set_cons_zero, List.set_cons_succ]
            refine wpAnyH_take (i := 5) (oi := { dst := some 75, op := Op.move (Operand.tmp 0), type := 57, pos := _, after := #[], guard := none }) (v := ?_) rfl (by kernel_rfl) (by kernel_rfl) (by kernel_rfl) (fun _ _ _ h => h) (Or.inl ⟨by rfl, ?_⟩) (by assumption) ?_
            rotate_left
            · intro w hSw; (try dsimp only at hSw); go_simp; (try with_reducible rfl)
            try simp only [Act.put, List.setIfInBounds_toArray, List.set_cons_zero, List.set_cons_succ]
            refine wpAnyH_ready (rs := [4, 6]) (by kernel_rfl) (by simp) ?_
            refine AllReadyH.cons (o := { dst := some 74, op := Op.load 66 (Operand.tmp 73), type := 66, pos := _, after := #[{ on := 3, ground := Ground.data }], guard := none }) rfl (fun K hK => ?_) (AllReadyH.cons (o := { dst := some 76, op := Op.call { callee := Callee.value (Operand.func 138), args := #[Operand.tmp 75], argTypes := #[57] }, type := 29, pos := _, after := #[{ on := 5, ground := Ground.data }], guard := none }) rfl (fun K hK => ?_) AllReadyH.nil)
            · go_simp
              refine hK.out _ _ ?_ (fun hHeld => ?_)
              · trivial
              clear hK K
              try simp only [Act.put, List.setIfInBounds_toArray, List.set_cons_zero, List.set_cons_succ]
              refine wpAnyH_ready (rs := [6]) (by kernel_rfl) (by simp) ?_
              refine AllReadyH.cons (o := { dst := some 76, op := Op.call { callee := Callee.value (Operand.func 138), args := #[Operand.tmp 75], argTypes := #[57] }, type := 29, pos := _, after := #[{ on := 5, ground := Ground.data }], guard := none }) rfl (fun K hK => ?_) AllReadyH.nil
              go_simp
              go_at_call 138
              (with_reducible refine (method_any en b s3 w3.drew H3d.out.pr HD3.out).mono ?_)
              rintro e4 w4 ⟨cs, rfl, hr4, h4, t4⟩
              obtain ⟨x, hx⟩ : ∃ q, (method en s3).1 = q := ⟨_, rfl⟩
              obtain ⟨s4, hs4⟩ : ∃ q, (method en s3).2 = q := ⟨_, rfl⟩
              rw [hx] at hr4
              rw [hs4] at h4
              have HX := Lib.hid hx
              have HS4 := Lib.hid hs4
              have HLT4 : Hid (s4.deep = s3.deep ∧ s4.l.length < s3.l.length) := Lib.hid (by rw [← hs4]; exact HLT3.out)
              have tb4 : Turn [b] w3 w4 := ((Turn.refl [b] w3).drew).trans t4 (fun g hg => .inl hg)
              clear hx hs4
              obtain ⟨mr, mn, mst, mb, mps, mls, mbd, mln, mcl⟩ := x
              obtain ⟨Y1, Y2, Y3, ecs, k1, k2, k3⟩ := id hr4
              simp only at ecs
              subst ecs
              obtain ⟨P1, q1, rfl, _, _⟩ := k1
              obtain ⟨P2, q2, rfl, _, _⟩ := k2
              obtain ⟨P3, q3, rfl, _, _⟩ := k3
              have hC4 := HC3.out.turn tb4 (by simp; exact hbs)
              have e4' : w4.cell? ⟨sb, 6, none⟩ = some (.slice Pf n4 qf) := cell_of_row w4 sb 6 _ _ _ hC4.blk
              have e4a : (w4.alloc (.cells #[.string mr, .string mn, .bool mst, .bool mb, .slice P1 mps.length q1, .slice P2 mls.length q2, .slice P3 mbd.length q3, .int .i64 mln, .int .i64 mcl] 29)).cell? ⟨sb, 6, none⟩ = some (.slice Pf n4 qf) := cell_of_row _ sb 6 _ _ _ (((Turn.refl [] w4).alloc _).heap hC4.blk (by simp))
              have HR4 := Lib.hid hr4
              have HP4 := Lib.hid h4
              have HT4 := Lib.hid tb4
              have hsz4 := tb4.size
              have hszd : w3.drew.heap.size = w3.heap.size := rfl
              clear hC4 h4 t4 tb4 hr4
              try go_wp2_with fail
              refine hK.out _ _ ?_ (fun hHeld => ?_)
              · trivial
              clear hK K
              try simp only [Act.put, List.setIfInBounds_toArray, List.set_cons_zero, List.set_cons_succ]
              refine wpAnyH_ready (rs := [7]) (by kernel_rfl) (by simp) ?_
              refine AllReadyH.cons (o := { dst := some 77, op := Op.buildSlice 66 1 #[(0, Operand.tmp 76)], type := 66, pos := _, after := #[{ on := 6, ground := Ground.data }], guard := none }) rfl (fun K hK => ?_) AllReadyH.nil
              go_simp
              refine hK.out _ _ ?_ (fun hHeld => ?_)
              · trivial
              clear hK K
              try simp only [Act.put, List.setIfInBounds_toArray, List.set_cons_zero, List.set_cons_succ]
              refine wpAnyH_ready (rs := [8]) (by kernel_rfl) (by simp) ?_
              refine AllReadyH.cons (o := { dst := some 78, op := Op.call { callee := Callee.builtin Builtin.append, args := #[Operand.tmp 74, Operand.tmp 77], argTypes := #[66, 66] }, type := 66, pos := _, after := #[{ on := 4, ground := Ground.data }, { on := 7, ground := Ground.data }, { on := 6, ground := Ground.chain }], guard := none }) rfl (fun K hK => ?_) AllReadyH.nil
              have tal : Turn [] w4 (w4.alloc (.cells #[.string mr, .string mn, .bool mst, .bool mb, .slice P1 mps.length q1, .slice P2 mls.length q2, .slice P3 mbd.length q3, .int .i64 mln, .int .i64 mcl] 29)) := (Turn.refl [] w4).alloc _
              have hown : OwnL 29 9 RdM (fun g => A3 g ∨ w3.heap.size ≤ g) (w4.alloc (.cells #[.string mr, .string mn, .bool mst, .bool mb, .slice P1 mps.length q1, .slice P2 mls.length q2, .slice P3 mbd.length q3, .int .i64 mln, .int .i64 mcl] 29)) (.slice Pf n4 qf) p1.ms :=
                ((HC3.out.ms.turn goodM HT4.out (by simp; intro h; have := (HC3.out.a3 _ h).1; omega)).turn goodM tal (by simp)).mono goodM (fun g hg _ => .inl hg)
              have hvb : ∀ g, (Value.slice Pf n4 qf).ownBlock = some g → A3 g ∧ g < w3.heap.size := fun g hg => ⟨(HC3.out.ms.lt hg).2, (HC3.out.ms.lt hg).1⟩
              have hrr : RdM (fun g => (A3 g ∨ w3.heap.size ≤ g) ∧ (Value.slice Pf n4 qf).ownBlock ≠ some g) (w4.alloc (.cells #[.string mr, .string mn, .bool mst, .bool mb, .slice P1 mps.length q1, .slice P2 mls.length q2, .slice P3 mbd.length q3, .int .i64 mln, .int .i64 mcl] 29)) [.string mr, .string mn, .bool mst, .bool mb, .slice P1 mps.length q1, .slice P2 mls.length q2, .slice P3 mbd.length q3, .int .i64 mln, .int .i64 mcl] ⟨mr, mn, mst, mb, mps, mls, mbd, mln, mcl⟩ :=
                goodM.mono (goodM.turn HR4.out tal (by simp)) (fun g hg _ => ⟨.inr hg, fun h => by have h1 := (hvb g h).2; have h2 : w3.heap.size ≤ g := hg; omega⟩)
              refine step_appL rfl (.tmp 74) (.tmp 77) 66 rfl (w4.alloc (.cells #[.string mr, .string mn, .bool mst, .bool mb, .slice P1 mps.length q1, .slice P2 mls.length q2, .slice P3 mbd.length q3, .int .i64 mln, .int .i64 mcl] 29)) 29 9 128 _ RdM goodM (fun g => A3 g ∨ w3.heap.size ≤ g) Tryz.underlying66 method_info rfl (by omega) (by omega) (.slice Pf n4 qf) p1.ms (by simp [Act.eval, Act.put]) hown w4.heap.size 1 [.string mr, .string mn, .bool mst, .bool mb, .slice P1 mps.length q1, .slice P2 mls.length q2, .slice P3 mbd.length q3, .int .i64 mln, .int .i64 mcl] ⟨mr, mn, mst, mb, mps, mls, mbd, mln, mcl⟩ (by exact heap_alloc_new w4 _) hrr (by simp [Act.eval, Act.put]) (by rw [HN4.out]; omega) (.inr (by simp; omega)) ?_
              intro v5 w5 ho5 t5
              obtain ⟨P5, q5, ev5, _⟩ := ho5.form
              rw [List.length_append, HN4.out] at ev5
              subst ev5
              have tb5 : Turn [b] w3 (w4.alloc (.cells #[.string mr, .string mn, .bool mst, .bool mb, .slice P1 mps.length q1, .slice P2 mls.length q2, .slice P3 mbd.length q3, .int .i64 mln, .int .i64 mcl] 29)) := HT4.out.trans' tal
              have hC5 := (HC3.out.turn tb5 (by simp; exact hbs))
              have hrow5 := t5.heap hC5.blk (fun hg => by have h1 := (HC3.out.a3 _ (hvb _ (by simpa using hg)).1).1; omega)
              have x4 : w5.cell? ⟨sb, 6, none⟩ = some (.slice Pf n4 qf) := cell_of_row w5 sb 6 _ _ _ hrow5
              have xf4 : w5.frozen? ⟨sb, 6, none⟩ = false := frozen_of_row w5 sb 6 _ _ hrow5
              have HAP := Lib.hid (HC3.out.app_ms tb5 t5 ho5)
              have HP5 := Lib.hid ((HP4.out.up tal).turn t5 (fun g hg => by have h1 := (HC3.out.a3 _ (hvb _ (by simpa using hg)).1).1; omega))
              have HT5 : Hid (Tq b sb w3 w5) := Lib.hid ((Tq.of tb5 (by simp)).trans (Tq.of t5 (fun g hg => .inr (by have h1 := (HC3.out.a3 _ (hvb _ (by simpa using hg)).1).1; omega))))
              clear ho5 t5 hC5 hrow5 tb5 hrr hown tal
              refine hK.out _ _ ?_ (fun hHeld => ?_)
              · trivial
              clear hK K
              try simp only [Act.put, List.setIfInBounds_toArray, List.set_cons_zero, List.set_cons_succ]
              refine wpAnyH_take (i := 9) (oi := { dst := some 79, op := Op.nilCheck (Operand.tmp 70), type := 0, pos := _, after := #[{ on := 0, ground := Ground.data }, { on := 0, ground := Ground.phase }, { on := 1, ground := Ground.phase }, { on := 2, ground := Ground.phase }, { on := 3, ground := Ground.phase }, { on := 4, ground := Ground.phase }, { on := 5, ground := Ground.phase }, { on := 6, ground := Ground.phase }, { on := 7, ground := Ground.phase }, { on := 8, ground := Ground.phase }], guard := none }) (v := ?_) rfl (by kernel_rfl) (by kernel_rfl) (by kernel_rfl) (fun _ _ _ h => h) (Or.inl ⟨by rfl, ?_⟩) (by assumption) ?_
              rotate_left
              · intro w hSw; (try dsimp only at hSw); go_simp; (try with_reducible rfl)
              try simp only [Act.put, List.setIfInBounds_toArray, List.set_cons_zero, List.set_cons_succ]
              refine wpAnyH_take (i := 10) (oi := { dst := some 80, op := Op.fieldAddr 69 (Operand.tmp 79) 6, type := 0, pos := _, after := #[{ on := 9, ground := Ground.data }, { on := 0, ground := Ground.phase }, { on := 1, ground := Ground.phase }, { on := 2, ground := Ground.phase }, { on := 3, ground := Ground.phase }, { on := 4, ground := Ground.phase }, { on := 5, ground := Ground.phase }, { on := 6, ground := Ground.phase }, { on := 7, ground := Ground.phase }, { on := 8, ground := Ground.phase }], guard := none }) (v := ?_) rfl (by kernel_rfl) (by kernel_rfl) (by kernel_rfl) (fun _ _ _ h => h) (Or.inl ⟨by rfl, ?_⟩) (by assumption) ?_
              rotate_left
              · intro w hSw; (try dsimp only at hSw); go_simp; (try with_reducible rfl)
              try simp only [Act.put, List.setIfInBounds_toArray, List.set_cons_zero, List.set_cons_succ]
              refine wpAnyH_ready (rs := [11]) (by kernel_rfl) (by simp) ?_
              refine AllReadyH.cons (o := { dst := none, op := Op.store 66 (Operand.tmp 80) (Operand.tmp 78), type := 0, pos := _, after := #[{ on := 10, ground := Ground.data }, { on := 8, ground := Ground.data }, { on := 8, ground := Ground.chain }, { on := 0, ground := Ground.phase }, { on := 1, ground := Ground.phase }, { on := 2, ground := Ground.phase }, { on := 3, ground := Ground.phase }, { on := 4, ground := Ground.phase }, { on := 5, ground := Ground.phase }, { on := 6, ground := Ground.phase }, { on := 7, ground := Ground.phase }, { on := 8, ground := Ground.phase }], guard := none }) rfl (fun K hK => ?_) AllReadyH.nil
              go_simp
              refine hK.out _ _ ?_ (fun hHeld => ?_)
              · trivial
              clear hK K
              try simp only [Act.put, List.setIfInBounds_toArray, List.set_cons_zero, List.set_cons_succ]
              refine wpAnyH_done (by kernel_rfl) ?_ _
              go_wp2_with fail
              go_roundw
              case rel =>
                have hmem : member en p1 s1 = ({ p1 with ms := p1.ms ++ [⟨mr, mn, mst, mb, mps, mls, mbd, mln, mcl⟩] }, s4) := by
                  unfold member
                  simp only [HQ1.out, HQ2.out, HQ3.out, if_true, if_false, Bool.false_eq_true, reduceIte, HN4.out, HS3.out, HX.out, HS4.out]
                have hm := HM.out
                rw [hmem] at hm
                have hl := HLT4.out
                have hl3 := HL3.out
                have hn0 := HN.out
                refine ⟨{ p1 with ms := p1.ms ++ [⟨mr, mn, mst, mb, mps, mls, mbd, mln, mcl⟩] }, s4, Lib.hid ⟨HP5.out.turn (F := [sb]) ((Turn.refl [sb] w5).setCell (.inl (by simp)) _) (by simp; exact hbs), HAP.out, ?_⟩, Lib.hid (by rw [hl.1, HD3.out]), Lib.hid (by simp only [List.length_append, List.length_singleton]; omega), m, by omega, hm⟩
                exact (H3.out.tt.trans HT5.out).trans (Tq.set w5)
              case measure =>
                have h1 := HP5.out.turn (F := [sb]) ((Turn.refl [sb] w5).setCell (p := ⟨sb, 6, none⟩) (.inl (by simp)) (.slice P5 (n4 + 1) q5)) (by simp; exact hbs)
                rw [h1.lenAt, HS.out.pr.lenAt]
                have hl := HLT4.out
                have hl3 := HL3.out
                omega
            · go_simp
              go_at_call 138
              (with_reducible refine (method_any en b s3 w3.drew H3d.out.pr HD3.out).mono ?_)
              rintro e4 w4 ⟨cs, rfl, hr4, h4, t4⟩
              obtain ⟨x, hx⟩ : ∃ q, (method en s3).1 = q := ⟨_, rfl⟩
              obtain ⟨s4, hs4⟩ : ∃ q, (method en s3).2 = q := ⟨_, rfl⟩
              rw [hx] at hr4
              rw [hs4] at h4
              have HX := Lib.hid hx
              have HS4 := Lib.hid hs4
              have HLT4 : Hid (s4.deep = s3.deep ∧ s4.l.length < s3.l.length) := Lib.hid (by rw [← hs4]; exact HLT3.out)
              have tb4 : Turn [b] w3 w4 := ((Turn.refl [b] w3).drew).trans t4 (fun g hg => .inl hg)
              clear hx hs4
              obtain ⟨mr, mn, mst, mb, mps, mls, mbd, mln, mcl⟩ := x
              obtain ⟨Y1, Y2, Y3, ecs, k1, k2, k3⟩ := id hr4
              simp only at ecs
              subst ecs
              obtain ⟨P1, q1, rfl, _, _⟩ := k1
              obtain ⟨P2, q2, rfl, _, _⟩ := k2
              obtain ⟨P3, q3, rfl, _, _⟩ := k3
              have hC4 := HC3.out.turn tb4 (by simp; exact hbs)
              have e4' : w4.cell? ⟨sb, 6, none⟩ = some (.slice Pf n4 qf) := cell_of_row w4 sb 6 _ _ _ hC4.blk
              have e4a : (w4.alloc (.cells #[.string mr, .string mn, .bool mst, .bool mb, .slice P1 mps.length q1, .slice P2 mls.length q2, .slice P3 mbd.length q3, .int .i64 mln, .int .i64 mcl] 29)).cell? ⟨sb, 6, none⟩ = some (.slice Pf n4 qf) := cell_of_row _ sb 6 _ _ _ (((Turn.refl [] w4).alloc _).heap hC4.blk (by simp))
              have HR4 := Lib.hid hr4
              have HP4 := Lib.hid h4
              have HT4 := Lib.hid tb4
              have hsz4 := tb4.size
              have hszd : w3.drew.heap.size = w3.heap.size := rfl
              clear hC4 h4 t4 tb4 hr4
              try go_wp2_with fail
              refine hK.out _ _ ?_ (fun hHeld => ?_)
              · trivial
              clear hK K
              try simp only [Act.put, List.setIfInBounds_toArray, List.set_cons_zero, List.set_cons_succ]
              refine wpAnyH_ready (rs := [4, 7]) (by kernel_rfl) (by simp) ?_
              refine AllReadyH.cons (o := { dst := some 74, op := Op.load 66 (Operand.tmp 73), type := 66, pos := _, after := #[{ on := 3, ground := Ground.data }], guard := none }) rfl (fun K hK => ?_) (AllReadyH.cons (o := { dst := some 77, op := Op.buildSlice 66 1 #[(0, Operand.tmp 76)], type := 66, pos := _, after := #[{ on := 6, ground := Ground.data }], guard := none }) rfl (fun K hK => ?_) AllReadyH.nil)
              · go_simp
                refine hK.out _ _ ?_ (fun hHeld => ?_)
                · trivial
                clear hK K
                try simp only [Act.put, List.setIfInBounds_toArray, List.set_cons_zero, List.set_cons_succ]
                refine wpAnyH_ready (rs := [7]) (by kernel_rfl) (by simp) ?_
                refine AllReadyH.cons (o := { dst := some 77, op := Op.buildSlice 66 1 #[(0, Operand.tmp 76)], type := 66, pos := _, after := #[{ on := 6, ground := Ground.data }], guard := none }) rfl (fun K hK => ?_) AllReadyH.nil
                go_simp
                refine hK.out _ _ ?_ (fun hHeld => ?_)
                · trivial
                clear hK K
                try simp only [Act.put, List.setIfInBounds_toArray, List.set_cons_zero, List.set_cons_succ]
                refine wpAnyH_ready (rs := [8]) (by kernel_rfl) (by simp) ?_
                refine AllReadyH.cons (o := { dst := some 78, op := Op.call { callee := Callee.builtin Builtin.append, args := #[Operand.tmp 74, Operand.tmp 77], argTypes := #[66, 66] }, type := 66, pos := _, after := #[{ on := 4, ground := Ground.data }, { on := 7, ground := Ground.data }, { on := 6, ground := Ground.chain }], guard := none }) rfl (fun K hK => ?_) AllReadyH.nil
                have tal : Turn [] w4 (w4.alloc (.cells #[.string mr, .string mn, .bool mst, .bool mb, .slice P1 mps.length q1, .slice P2 mls.length q2, .slice P3 mbd.length q3, .int .i64 mln, .int .i64 mcl] 29)) := (Turn.refl [] w4).alloc _
                have hown : OwnL 29 9 RdM (fun g => A3 g ∨ w3.heap.size ≤ g) (w4.alloc (.cells #[.string mr, .string mn, .bool mst, .bool mb, .slice P1 mps.length q1, .slice P2 mls.length q2, .slice P3 mbd.length q3, .int .i64 mln, .int .i64 mcl] 29)) (.slice Pf n4 qf) p1.ms :=
                  ((HC3.out.ms.turn goodM HT4.out (by simp; intro h; have := (HC3.out.a3 _ h).1; omega)).turn goodM tal (by simp)).mono goodM (fun g hg _ => .inl hg)
                have hvb : ∀ g, (Value.slice Pf n4 qf).ownBlock = some g → A3 g ∧ g < w3.heap.size := fun g hg => ⟨(HC3.out.ms.lt hg).2, (HC3.out.ms.lt hg).1⟩
                have hrr : RdM (fun g => (A3 g ∨ w3.heap.size ≤ g) ∧ (Value.slice Pf n4 qf).ownBlock ≠ some g) (w4.alloc (.cells #[.string mr, .string mn, .bool mst, .bool mb, .slice P1 mps.length q1, .slice P2 mls.length q2, .slice P3 mbd.length q3, .int .i64 mln, .int .i64 mcl] 29)) [.string mr, .string mn, .bool mst, .bool mb, .slice P1 mps.length q1, .slice P2 mls.length q2, .slice P3 mbd.length q3, .int .i64 mln, .int .i64 mcl] ⟨mr, mn, mst, mb, mps, mls, mbd, mln, mcl⟩ :=
                  goodM.mono (goodM.turn HR4.out tal (by simp)) (fun g hg _ => ⟨.inr hg, fun h => by have h1 := (hvb g h).2; have h2 : w3.heap.size ≤ g := hg; omega⟩)
                refine step_appL rfl (.tmp 74) (.tmp 77) 66 rfl (w4.alloc (.cells #[.string mr, .string mn, .bool mst, .bool mb, .slice P1 mps.length q1, .slice P2 mls.length q2, .slice P3 mbd.length q3, .int .i64 mln, .int .i64 mcl] 29)) 29 9 128 _ RdM goodM (fun g => A3 g ∨ w3.heap.size ≤ g) Tryz.underlying66 method_info rfl (by omega) (by omega) (.slice Pf n4 qf) p1.ms (by simp [Act.eval, Act.put]) hown w4.heap.size 1 [.string mr, .string mn, .bool mst, .bool mb, .slice P1 mps.length q1, .slice P2 mls.length q2, .slice P3 mbd.length q3, .int .i64 mln, .int .i64 mcl] ⟨mr, mn, mst, mb, mps, mls, mbd, mln, mcl⟩ (by exact heap_alloc_new w4 _) hrr (by simp [Act.eval, Act.put]) (by rw [HN4.out]; omega) (.inr (by simp; omega)) ?_
                intro v5 w5 ho5 t5
                obtain ⟨P5, q5, ev5, _⟩ := ho5.form
                rw [List.length_append, HN4.out] at ev5
                subst ev5
                have tb5 : Turn [b] w3 (w4.alloc (.cells #[.string mr, .string mn, .bool mst, .bool mb, .slice P1 mps.length q1, .slice P2 mls.length q2, .slice P3 mbd.length q3, .int .i64 mln, .int .i64 mcl] 29)) := HT4.out.trans' tal
                have hC5 := (HC3.out.turn tb5 (by simp; exact hbs))
                have hrow5 := t5.heap hC5.blk (fun hg => by have h1 := (HC3.out.a3 _ (hvb _ (by simpa using hg)).1).1; omega)
                have x4 : w5.cell? ⟨sb, 6, none⟩ = some (.slice Pf n4 qf) := cell_of_row w5 sb 6 _ _ _ hrow5
                have xf4 : w5.frozen? ⟨sb, 6, none⟩ = false := frozen_of_row w5 sb 6 _ _ hrow5
                have HAP := Lib.hid (HC3.out.app_ms tb5 t5 ho5)
                have HP5 := Lib.hid ((HP4.out.up tal).turn t5 (fun g hg => by have h1 := (HC3.out.a3 _ (hvb _ (by simpa using hg)).1).1; omega))
                have HT5 : Hid (Tq b sb w3 w5) := Lib.hid ((Tq.of tb5 (by simp)).trans (Tq.of t5 (fun g hg => .inr (by have h1 := (HC3.out.a3 _ (hvb _ (by simpa using hg)).1).1; omega))))
                clear ho5 t5 hC5 hrow5 tb5 hrr hown tal
                refine hK.out _ _ ?_ (fun hHeld => ?_)
                · trivial
                clear hK K
                try simp only [Act.put, List.setIfInBounds_toArray, List.set_cons_zero, List.set_cons_succ]
                refine wpAnyH_take (i := 9) (oi := { dst := some 79, op := Op.nilCheck (Operand.tmp 70), type := 0, pos := _, after := #[{ on := 0, ground := Ground.data }, { on := 0, ground := Ground.phase }, { on := 1, ground := Ground.phase }, { on := 2, ground := Ground.phase }, { on := 3, ground := Ground.phase }, { on := 4, ground := Ground.phase }, { on := 5, ground := Ground.phase }, { on := 6, ground := Ground.phase }, { on := 7, ground := Ground.phase }, { on := 8, ground := Ground.phase }], guard := none }) (v := ?_) rfl (by kernel_rfl) (by kernel_rfl) (by kernel_rfl) (fun _ _ _ h => h) (Or.inl ⟨by rfl, ?_⟩) (by assumption) ?_
                rotate_left
                · intro w hSw; (try dsimp only at hSw); go_simp; (try with_reducible rfl)
                try simp only [Act.put, List.setIfInBounds_toArray, List.set_cons_zero, List.set_cons_succ]
                refine wpAnyH_take (i := 10) (oi := { dst := some 80, op := Op.fieldAddr 69 (Operand.tmp 79) 6, type := 0, pos := _, after := #[{ on := 9, ground := Ground.data }, { on := 0, ground := Ground.phase }, { on := 1, ground := Ground.phase }, { on := 2, ground := Ground.phase }, { on := 3, ground := Ground.phase }, { on := 4, ground := Ground.phase }, { on := 5, ground := Ground.phase }, { on := 6, ground := Ground.phase }, { on := 7, ground := Ground.phase }, { on := 8, ground := Ground.phase }], guard := none }) (v := ?_) rfl (by kernel_rfl) (by kernel_rfl) (by kernel_rfl) (fun _ _ _ h => h) (Or.inl ⟨by rfl, ?_⟩) (by assumption) ?_
                rotate_left
                · intro w hSw; (try dsimp only at hSw); go_simp; (try with_reducible rfl)
                try simp only [Act.put, List.setIfInBounds_toArray, List.set_cons_zero, List.set_cons_succ]
                refine wpAnyH_ready (rs := [11]) (by kernel_rfl) (by simp) ?_
                refine AllReadyH.cons (o := { dst := none, op := Op.store 66 (Operand.tmp 80) (Operand.tmp 78), type := 0, pos := _, after := #[{ on := 10, ground := Ground.data }, { on := 8, ground := Ground.data }, { on := 8, ground := Ground.chain }, { on := 0, ground := Ground.phase }, { on := 1, ground := Ground.phase }, { on := 2, ground := Ground.phase }, { on := 3, ground := Ground.phase }, { on := 4, ground := Ground.phase }, { on := 5, ground := Ground.phase }, { on := 6, ground := Ground.phase }, { on := 7, ground := Ground.phase }, { on := 8, ground := Ground.phase }], guard := none }) rfl (fun K hK => ?_) AllReadyH.nil
                go_simp
                refine hK.out _ _ ?_ (fun hHeld => ?_)
                · trivial
                clear hK K
                try simp only [Act.put, List.setIfInBounds_toArray, List.set_cons_zero, List.set_cons_succ]
                refine wpAnyH_done (by kernel_rfl) ?_ _
                go_wp2_with fail
                go_roundw
                case rel =>
                  have hmem : member en p1 s1 = ({ p1 with ms := p1.ms ++ [⟨mr, mn, mst, mb, mps, mls, mbd, mln, mcl⟩] }, s4) := by
                    unfold member
                    simp only [HQ1.out, HQ2.out, HQ3.out, if_true, if_false, Bool.false_eq_true, reduceIte, HN4.out, HS3.out, HX.out, HS4.out]
                  have hm := HM.out
                  rw [hmem] at hm
                  have hl := HLT4.out
                  have hl3 := HL3.out
                  have hn0 := HN.out
                  refine ⟨{ p1 with ms := p1.ms ++ [⟨mr, mn, mst, mb, mps, mls, mbd, mln, mcl⟩] }, s4, Lib.hid ⟨HP5.out.turn (F := [sb]) ((Turn.refl [sb] w5).setCell (.inl (by simp)) _) (by simp; exact hbs), HAP.out, ?_⟩, Lib.hid (by rw [hl.1, HD3.out]), Lib.hid (by simp only [List.length_append, List.length_singleton]; omega), m, by omega, hm⟩
                  exact (H3.out.tt.trans HT5.out).trans (Tq.set w5)
                case measure =>
                  have h1 := HP5.out.turn (F := [sb]) ((Turn.refl [sb] w5).setCell (p := ⟨sb, 6, none⟩) (.inl (by simp)) (.slice P5 (n4 + 1) q5)) (by simp; exact hbs)
                  rw [h1.lenAt, HS.out.pr.lenAt]
                  have hl := HLT4.out
                  have hl3 := HL3.out
                  omega
              · go_simp
                refine hK.out _ _ ?_ (fun hHeld => ?_)
                · trivial
                clear hK K
                try simp only [Act.put, List.setIfInBounds_toArray, List.set_cons_zero, List.set_cons_succ]
                refine wpAnyH_ready (rs := [4]) (by kernel_rfl) (by simp) ?_
                refine AllReadyH.cons (o := { dst := some 74, op := Op.load 66 (Operand.tmp 73), type := 66, pos := _, after := #[{ on := 3, ground := Ground.data }], guard := none }) rfl (fun K hK => ?_) AllReadyH.nil
                go_simp
                refine hK.out _ _ ?_ (fun hHeld => ?_)
                · trivial
                clear hK K
                try simp only [Act.put, List.setIfInBounds_toArray, List.set_cons_zero, List.set_cons_succ]
                refine wpAnyH_ready (rs := [8]) (by kernel_rfl) (by simp) ?_
                refine AllReadyH.cons (o := { dst := some 78, op := Op.call { callee := Callee.builtin Builtin.append, args := #[Operand.tmp 74, Operand.tmp 77], argTypes := #[66, 66] }, type := 66, pos := _, after := #[{ on := 4, ground := Ground.data }, { on := 7, ground := Ground.data }, { on := 6, ground := Ground.chain }], guard := none }) rfl (fun K hK => ?_) AllReadyH.nil
                have tal : Turn [] w4 (w4.alloc (.cells #[.string mr, .string mn, .bool mst, .bool mb, .slice P1 mps.length q1, .slice P2 mls.length q2, .slice P3 mbd.length q3, .int .i64 mln, .int .i64 mcl] 29)) := (Turn.refl [] w4).alloc _
                have hown : OwnL 29 9 RdM (fun g => A3 g ∨ w3.heap.size ≤ g) (w4.alloc (.cells #[.string mr, .string mn, .bool mst, .bool mb, .slice P1 mps.length q1, .slice P2 mls.length q2, .slice P3 mbd.length q3, .int .i64 mln, .int .i64 mcl] 29)) (.slice Pf n4 qf) p1.ms :=
                  ((HC3.out.ms.turn goodM HT4.out (by simp; intro h; have := (HC3.out.a3 _ h).1; omega)).turn goodM tal (by simp)).mono goodM (fun g hg _ => .inl hg)
                have hvb : ∀ g, (Value.slice Pf n4 qf).ownBlock = some g → A3 g ∧ g < w3.heap.size := fun g hg => ⟨(HC3.out.ms.lt hg).2, (HC3.out.ms.lt hg).1⟩
                have hrr : RdM (fun g => (A3 g ∨ w3.heap.size ≤ g) ∧ (Value.slice Pf n4 qf).ownBlock ≠ some g) (w4.alloc (.cells #[.string mr, .string mn, .bool mst, .bool mb, .slice P1 mps.length q1, .slice P2 mls.length q2, .slice P3 mbd.length q3, .int .i64 mln, .int .i64 mcl] 29)) [.string mr, .string mn, .bool mst, .bool mb, .slice P1 mps.length q1, .slice P2 mls.length q2, .slice P3 mbd.length q3, .int .i64 mln, .int .i64 mcl] ⟨mr, mn, mst, mb, mps, mls, mbd, mln, mcl⟩ :=
                  goodM.mono (goodM.turn HR4.out tal (by simp)) (fun g hg _ => ⟨.inr hg, fun h => by have h1 := (hvb g h).2; have h2 : w3.heap.size ≤ g := hg; omega⟩)
                refine step_appL rfl (.tmp 74) (.tmp 77) 66 rfl (w4.alloc (.cells #[.string mr, .string mn, .bool mst, .bool mb, .slice P1 mps.length q1, .slice P2 mls.length q2, .slice P3 mbd.length q3, .int .i64 mln, .int .i64 mcl] 29)) 29 9 128 _ RdM goodM (fun g => A3 g ∨ w3.heap.size ≤ g) Tryz.underlying66 method_info rfl (by omega) (by omega) (.slice Pf n4 qf) p1.ms (by simp [Act.eval, Act.put]) hown w4.heap.size 1 [.string mr, .string mn, .bool mst, .bool mb, .slice P1 mps.length q1, .slice P2 mls.length q2, .slice P3 mbd.length q3, .int .i64 mln, .int .i64 mcl] ⟨mr, mn, mst, mb, mps, mls, mbd, mln, mcl⟩ (by exact heap_alloc_new w4 _) hrr (by simp [Act.eval, Act.put]) (by rw [HN4.out]; omega) (.inr (by simp; omega)) ?_
                intro v5 w5 ho5 t5
                obtain ⟨P5, q5, ev5, _⟩ := ho5.form
                rw [List.length_append, HN4.out] at ev5
                subst ev5
                have tb5 : Turn [b] w3 (w4.alloc (.cells #[.string mr, .string mn, .bool mst, .bool mb, .slice P1 mps.length q1, .slice P2 mls.length q2, .slice P3 mbd.length q3, .int .i64 mln, .int .i64 mcl] 29)) := HT4.out.trans' tal
                have hC5 := (HC3.out.turn tb5 (by simp; exact hbs))
                have hrow5 := t5.heap hC5.blk (fun hg => by have h1 := (HC3.out.a3 _ (hvb _ (by simpa using hg)).1).1; omega)
                have x4 : w5.cell? ⟨sb, 6, none⟩ = some (.slice Pf n4 qf) := cell_of_row w5 sb 6 _ _ _ hrow5
                have xf4 : w5.frozen? ⟨sb, 6, none⟩ = false := frozen_of_row w5 sb 6 _ _ hrow5
                have HAP := Lib.hid (HC3.out.app_ms tb5 t5 ho5)
                have HP5 := Lib.hid ((HP4.out.up tal).turn t5 (fun g hg => by have h1 := (HC3.out.a3 _ (hvb _ (by simpa using hg)).1).1; omega))
                have HT5 : Hid (Tq b sb w3 w5) := Lib.hid ((Tq.of tb5 (by simp)).trans (Tq.of t5 (fun g hg => .inr (by have h1 := (HC3.out.a3 _ (hvb _ (by simpa using hg)).1).1; omega))))
                clear ho5 t5 hC5 hrow5 tb5 hrr hown tal
                refine hK.out _ _ ?_ (fun hHeld => ?_)
                · trivial
                clear hK K
                try simp only [Act.put, List.setIfInBounds_toArray, List.set_cons_zero, List.set_cons_succ]
                refine wpAnyH_take (i := 9) (oi := { dst := some 79, op := Op.nilCheck (Operand.tmp 70), type := 0, pos := _, after := #[{ on := 0, ground := Ground.data }, { on := 0, ground := Ground.phase }, { on := 1, ground := Ground.phase }, { on := 2, ground := Ground.phase }, { on := 3, ground := Ground.phase }, { on := 4, ground := Ground.phase }, { on := 5, ground := Ground.phase }, { on := 6, ground := Ground.phase }, { on := 7, ground := Ground.phase }, { on := 8, ground := Ground.phase }], guard := none }) (v := ?_) rfl (by kernel_rfl) (by kernel_rfl) (by kernel_rfl) (fun _ _ _ h => h) (Or.inl ⟨by rfl, ?_⟩) (by assumption) ?_
                rotate_left
                · intro w hSw; (try dsimp only at hSw); go_simp; (try with_reducible rfl)
                try simp only [Act.put, List.setIfInBounds_toArray, List.set_cons_zero, List.set_cons_succ]
                refine wpAnyH_take (i := 10) (oi := { dst := some 80, op := Op.fieldAddr 69 (Operand.tmp 79) 6, type := 0, pos := _, after := #[{ on := 9, ground := Ground.data }, { on := 0, ground := Ground.phase }, { on := 1, ground := Ground.phase }, { on := 2, ground := Ground.phase }, { on := 3, ground := Ground.phase }, { on := 4, ground := Ground.phase }, { on := 5, ground := Ground.phase }, { on := 6, ground := Ground.phase }, { on := 7, ground := Ground.phase }, { on := 8, ground := Ground.phase }], guard := none }) (v := ?_) rfl (by kernel_rfl) (by kernel_rfl) (by kernel_rfl) (fun _ _ _ h => h) (Or.inl ⟨by rfl, ?_⟩) (by assumption) ?_
                rotate_left
                · intro w hSw; (try dsimp only at hSw); go_simp; (try with_reducible rfl)
                try simp only [Act.put, List.setIfInBounds_toArray, List.set_cons_zero, List.set_cons_succ]
                refine wpAnyH_ready (rs := [11]) (by kernel_rfl) (by simp) ?_
                refine AllReadyH.cons (o := { dst := none, op := Op.store 66 (Operand.tmp 80) (Operand.tmp 78), type := 0, pos := _, after := #[{ on := 10, ground := Ground.data }, { on := 8, ground := Ground.data }, { on := 8, ground := Ground.chain }, { on := 0, ground := Ground.phase }, { on := 1, ground := Ground.phase }, { on := 2, ground := Ground.phase }, { on := 3, ground := Ground.phase }, { on := 4, ground := Ground.phase }, { on := 5, ground := Ground.phase }, { on := 6, ground := Ground.phase }, { on := 7, ground := Ground.phase }, { on := 8, ground := Ground.phase }], guard := none }) rfl (fun K hK => ?_) AllReadyH.nil
                go_simp
                refine hK.out _ _ ?_ (fun hHeld => ?_)
                · trivial
                clear hK K
                try simp only [Act.put, List.setIfInBounds_toArray, List.set_cons_zero, List.set_cons_succ]
                refine wpAnyH_done (by kernel_rfl) ?_ _
                go_wp2_with fail
                go_roundw
                case rel =>
                  have hmem : member en p1 s1 = ({ p1 with ms := p1.ms ++ [⟨mr, mn, mst, mb, mps, mls, mbd, mln, mcl⟩] }, s4) := by
                    unfold member
                    simp only [HQ1.out, HQ2.out, HQ3.out, if_true, if_false, Bool.false_eq_true, reduceIte, HN4.out, HS3.out, HX.out, HS4.out]
                  have hm := HM.out
                  rw [hmem] at hm
                  have hl := HLT4.out
                  have hl3 := HL3.out
                  have hn0 := HN.out
                  refine ⟨{ p1 with ms := p1.ms ++ [⟨mr, mn, mst, mb, mps, mls, mbd, mln, mcl⟩] }, s4, Lib.hid ⟨HP5.out.turn (F := [sb]) ((Turn.refl [sb] w5).setCell (.inl (by simp)) _) (by simp; exact hbs), HAP.out, ?_⟩, Lib.hid (by rw [hl.1, HD3.out]), Lib.hid (by simp only [List.length_append, List.length_singleton]; omega), m, by omega, hm⟩
                  exact (H3.out.tt.trans HT5.out).trans (Tq.set w5)
                case measure =>
                  have h1 := HP5.out.turn (F := [sb]) ((Turn.refl [sb] w5).setCell (p := ⟨sb, 6, none⟩) (.inl (by simp)) (.slice P5 (n4 + 1) q5)) (by simp; exact hbs)
                  rw [h1.lenAt, HS.out.pr.lenAt]
                  have hl := HLT4.out
                  have hl3 := HL3.out
                  omega
          | false =>
            have HQ4 := Lib.hid hq3
            clear hq3
            have HSM := Lib.hid (seesN_any en b s1 kMethod w6 w6.heap.size rfl #[.string ⟨#[109, 101, 116, 104, 111, 100]⟩] rfl H6.out.pr)
            go_wp2_with fail
            refine HSM.out.mono ?_
            rintro e7 w7 ⟨rfl, t7⟩
            have H7 := Lib.hid (H6.out.up t7)
            clear t7 HSM
            cases hq5 : sees kMethod s1 with
            | true =>
              have HQ3 : Hid ((row2 kStatic kMethod s1 || sees kMethod s1) = true) := Lib.hid (by rw [hq5]; simp)
              clear hq5
              obtain ⟨V1, V2, V3, V4, V5, A1, A2, A3, hC⟩ := id H7.out.ss
              obtain ⟨Pf, qf, ev, _⟩ := hC.ms.form
              subst ev
              have hlen : p1.ms.length ≤ 900000 := by have := HN.out; omega
              obtain ⟨n4, hn4⟩ : ∃ n, p1.ms.length = n := ⟨_, rfl⟩
              rw [hn4] at hC hlen
              have c4 : w7.cell? ⟨sb, 6, none⟩ = some (.slice Pf n4 qf) := cell_of_row w7 sb 6 _ _ _ hC.blk
              have HCC := Lib.hid hC
              have HN4 := Lib.hid hn4
              clear hC hn4
              go_wp2_with fail
              refine (room_any en b n4 40 s1 w7 H7.out.pr).mono ?_
              rintro e3 w3 ⟨rfl, h3, t3⟩
              have H3 := Lib.hid (H7.out.call h3 t3)
              obtain ⟨s3, hs3⟩ : ∃ q, room (decide (40 ≤ n4)) s1 = q := ⟨_, rfl⟩
              rw [hs3] at H3
              have hd3 : s3.deep = 0 := by rw [← hs3]; exact HD.out
              have hl3 : s3.l = s1.l := by rw [← hs3]; rfl
              have hne3 : s3.l ≠ [] := by rw [hl3]; exact HNE.out
              have hC3 := HCC.out.turn t3 (by simp; exact hbs)
              have d4 : w3.cell? ⟨sb, 6, none⟩ = some (.slice Pf n4 qf) := cell_of_row w3 sb 6 _ _ _ hC3.blk
              have H3d := Lib.hid (H3.out.up (Turn.refl [] w3).drew)
              have HD3 := Lib.hid hd3
              have HL3 := Lib.hid (congrArg List.length hl3)
              have HC3 := Lib.hid hC3
              have HS3 := Lib.hid hs3
              have HLT3 : Hid (Lt s3 (method en s3).2) := Lib.hid (method_lt hne3)
              clear h3 t3 hs3 hd3 hl3 hne3 hC3 c4 HCC
              go_upto_region 10 with (fail)
              refine wp_region_held_drew (S := fun w' => True) (by kernel_rfl) ?_ (fun hHeld => ?_)
              · trivial
              refine wpAnyH_take (i := 0) (oi := { dst := some 70, op := Op.move (Operand.tmp 1), type := 158, pos := _, after := #[], guard := none }) (v := ?_) rfl (by kernel_rfl) (by kernel_rfl) (by kernel_rfl) (fun _ _ _ h => h) (Or.inl ⟨by rfl, ?_⟩) (by assumption) ?_
              rotate_left
              · intro w hSw; (try dsimp only at hSw); go_simp; (try with_reducible rfl)
              try simp only [Act.put, List.setIfInBounds_toArray, List.set_cons_zero, List.set_cons_succ]
              refine wpAnyH_take (i := 1) (oi := { dst := some 71, op := Op.move (Operand.tmp 1), type := 158, pos := _, after := #[], guard := none }) (v := ?_) rfl (by kernel_rfl) (by kernel_rfl) (by kernel_rfl) (fun _ _ _ h => h) (Or.inl ⟨by rfl, ?_⟩) (by assumption) ?_
              rotate_left
              · intro w hSw; (try dsimp only at hSw); go_simp; (try with_reducible rfl)
              try simp only [Act.put, List.setIfInBounds_toArray, List.set_cons_zero, List.set_cons_succ]
              refine wpAnyH_take (i := 2) (oi := { dst := some 72, op := Op.nilCheck (Operand.tmp 71), type := 0, pos := _, after := #[{ on := 1, ground := Ground.data }], guard := none }) (v := ?_) rfl (by kernel_rfl) (by kernel_rfl) (by kernel_rfl) (fun _ _ _ h => h) (Or.inl ⟨by rfl, ?_⟩) (by assumption) ?_
              rotate_left
              · intro w hSw; (try dsimp only at hSw); go_simp; (try with_reducible rfl)
              try simp only [Act.put, List.setIfInBounds_toArray, List.set_cons_zero, List.set_cons_succ]
              refine wpAnyH_take (i := 3) (oi := { dst := some 73, op := Op.fieldAddr 69 (Operand.tmp 72) 6, type := 0, pos := _, after := #[{ on := 2, ground := Ground.data }], guard := none }) (v := ?_) rfl (by kernel_rfl) (by kernel_rfl) (by kernel_rfl) (fun _ _ _ h => h) (Or.inl ⟨by rfl, ?_⟩) (by assumption) ?_
              rotate_left
              · intro w hSw; (try dsimp only at hSw); go_simp; (try with_reducible rfl)
              try simp only [Act.put, List.setIfInBounds_toArray, List.set_cons_zero, List.set_cons_succ]
              refine wpAnyH_take (i := 5) (oi := { dst := some 75, op := Op.move (Operand.tmp 0), type := 57, pos := _, after := #[], guard := none }) (v := ?_) rfl (by kernel_rfl) (by kernel_rfl) (by kernel_rfl) (fun _ _ _ h => h) (Or.inl ⟨by rfl, ?_⟩) (by assumption) ?_
              rotate_left
              · intro w hSw; (try dsimp only at hSw); go_simp; (try with_reducible rfl)
              try simp only [Act.put, List.setIfInBounds_toArray, List.set_cons_zero, List.set_cons_succ]
              refine wpAnyH_ready (rs := [4, 6]) (by kernel_rfl) (by simp) ?_
              refine AllReadyH.cons (o := { dst := some 74, op := Op.load 66 (Operand.tmp 73), type := 66, pos := _, after := #[{ on := 3, ground := Ground.data }], guard := none }) rfl (fun K hK => ?_) (AllReadyH.cons (o := { dst := some 76, op := Op.call { callee := Callee.value (Operand.func 138), args := #[Operand.tmp 75], argTypes := #[57] }, type := 29, pos := _, after := #[{ on := 5, ground := Ground.data }], guard := none }) rfl (fun K hK => ?_) AllReadyH.nil)
              · go_simp
                refine hK.out _ _ ?_ (fun hHeld => ?_)
                · trivial
                clear hK K
                try simp only [Act.put, List.setIfInBounds_toArray, List.set_cons_zero, List.set_cons_succ]
                refine wpAnyH_ready (rs := [6]) (by kernel_rfl) (by simp) ?_
                refine AllReadyH.cons (o := { dst := some 76, op := Op.call { callee := Callee.value (Operand.func 138), args := #[Operand.tmp 75], argTypes := #[57] }, type := 29, pos := _, after := #[{ on := 5, ground := Ground.data }], guard := none }) rfl (fun K hK => ?_) AllReadyH.nil
                go_simp
                go_at_call 138
                (with_reducible refine (method_any en b s3 w3.drew H3d.out.pr HD3.out).mono ?_)
                rintro e4 w4 ⟨cs, rfl, hr4, h4, t4⟩
                obtain ⟨x, hx⟩ : ∃ q, (method en s3).1 = q := ⟨_, rfl⟩
                obtain ⟨s4, hs4⟩ : ∃ q, (method en s3).2 = q := ⟨_, rfl⟩
                rw [hx] at hr4
                rw [hs4] at h4
                have HX := Lib.hid hx
                have HS4 := Lib.hid hs4
                have HLT4 : Hid (s4.deep = s3.deep ∧ s4.l.length < s3.l.length) := Lib.hid (by rw [← hs4]; exact HLT3.out)
                have tb4 : Turn [b] w3 w4 := ((Turn.refl [b] w3).drew).trans t4 (fun g hg => .inl hg)
                clear hx hs4
                obtain ⟨mr, mn, mst, mb, mps, mls, mbd, mln, mcl⟩ := x
                obtain ⟨Y1, Y2, Y3, ecs, k1, k2, k3⟩ := id hr4
                simp only at ecs
                subst ecs
                obtain ⟨P1, q1, rfl, _, _⟩ := k1
                obtain ⟨P2, q2, rfl, _, _⟩ := k2
                obtain ⟨P3, q3, rfl, _, _⟩ := k3
                have hC4 := HC3.out.turn tb4 (by simp; exact hbs)
                have e4' : w4.cell? ⟨sb, 6, none⟩ = some (.slice Pf n4 qf) := cell_of_row w4 sb 6 _ _ _ hC4.blk
                have e4a : (w4.alloc (.cells #[.string mr, .string mn, .bool mst, .bool mb, .slice P1 mps.length q1, .slice P2 mls.length q2, .slice P3 mbd.length q3, .int .i64 mln, .int .i64 mcl] 29)).cell? ⟨sb, 6, none⟩ = some (.slice Pf n4 qf) := cell_of_row _ sb 6 _ _ _ (((Turn.refl [] w4).alloc _).heap hC4.blk (by simp))
                have HR4 := Lib.hid hr4
                have HP4 := Lib.hid h4
                have HT4 := Lib.hid tb4
                have hsz4 := tb4.size
                have hszd : w3.drew.heap.size = w3.heap.size := rfl
                clear hC4 h4 t4 tb4 hr4
                try go_wp2_with fail
                refine hK.out _ _ ?_ (fun hHeld => ?_)
                · trivial
                clear hK K
                try simp only [Act.put, List.setIfInBounds_toArray, List.set_cons_zero, List.set_cons_succ]
                refine wpAnyH_ready (rs := [7]) (by kernel_rfl) (by simp) ?_
                refine AllReadyH.cons (o := { dst := some 77, op := Op.buildSlice 66 1 #[(0, Operand.tmp 76)], type := 66, pos := _, after := #[{ on := 6, ground := Ground.data }], guard := none }) rfl (fun K hK => ?_) AllReadyH.nil
                go_simp
                refine hK.out _ _ ?_ (fun hHeld => ?_)
                · trivial
                clear hK K
                try simp only [Act.put, List.setIfInBounds_toArray, List.set_cons_zero, List.set_cons_succ]
                refine wpAnyH_ready (rs := [8]) (by kernel_rfl) (by simp) ?_
                refine AllReadyH.cons (o := { dst := some 78, op := Op.call { callee := Callee.builtin Builtin.append, args := #[Operand.tmp 74, Operand.tmp 77], argTypes := #[66, 66] }, type := 66, pos := _, after := #[{ on := 4, ground := Ground.data }, { on := 7, ground := Ground.data }, { on := 6, ground := Ground.chain }], guard := none }) rfl (fun K hK => ?_) AllReadyH.nil
                have tal : Turn [] w4 (w4.alloc (.cells #[.string mr, .string mn, .bool mst, .bool mb, .slice P1 mps.length q1, .slice P2 mls.length q2, .slice P3 mbd.length q3, .int .i64 mln, .int .i64 mcl] 29)) := (Turn.refl [] w4).alloc _
                have hown : OwnL 29 9 RdM (fun g => A3 g ∨ w3.heap.size ≤ g) (w4.alloc (.cells #[.string mr, .string mn, .bool mst, .bool mb, .slice P1 mps.length q1, .slice P2 mls.length q2, .slice P3 mbd.length q3, .int .i64 mln, .int .i64 mcl] 29)) (.slice Pf n4 qf) p1.ms :=
                  ((HC3.out.ms.turn goodM HT4.out (by simp; intro h; have := (HC3.out.a3 _ h).1; omega)).turn goodM tal (by simp)).mono goodM (fun g hg _ => .inl hg)
                have hvb : ∀ g, (Value.slice Pf n4 qf).ownBlock = some g → A3 g ∧ g < w3.heap.size := fun g hg => ⟨(HC3.out.ms.lt hg).2, (HC3.out.ms.lt hg).1⟩
                have hrr : RdM (fun g => (A3 g ∨ w3.heap.size ≤ g) ∧ (Value.slice Pf n4 qf).ownBlock ≠ some g) (w4.alloc (.cells #[.string mr, .string mn, .bool mst, .bool mb, .slice P1 mps.length q1, .slice P2 mls.length q2, .slice P3 mbd.length q3, .int .i64 mln, .int .i64 mcl] 29)) [.string mr, .string mn, .bool mst, .bool mb, .slice P1 mps.length q1, .slice P2 mls.length q2, .slice P3 mbd.length q3, .int .i64 mln, .int .i64 mcl] ⟨mr, mn, mst, mb, mps, mls, mbd, mln, mcl⟩ :=
                  goodM.mono (goodM.turn HR4.out tal (by simp)) (fun g hg _ => ⟨.inr hg, fun h => by have h1 := (hvb g h).2; have h2 : w3.heap.size ≤ g := hg; omega⟩)
                refine step_appL rfl (.tmp 74) (.tmp 77) 66 rfl (w4.alloc (.cells #[.string mr, .string mn, .bool mst, .bool mb, .slice P1 mps.length q1, .slice P2 mls.length q2, .slice P3 mbd.length q3, .int .i64 mln, .int .i64 mcl] 29)) 29 9 128 _ RdM goodM (fun g => A3 g ∨ w3.heap.size ≤ g) Tryz.underlying66 method_info rfl (by omega) (by omega) (.slice Pf n4 qf) p1.ms (by simp [Act.eval, Act.put]) hown w4.heap.size 1 [.string mr, .string mn, .bool mst, .bool mb, .slice P1 mps.length q1, .slice P2 mls.length q2, .slice P3 mbd.length q3, .int .i64 mln, .int .i64 mcl] ⟨mr, mn, mst, mb, mps, mls, mbd, mln, mcl⟩ (by exact heap_alloc_new w4 _) hrr (by simp [Act.eval, Act.put]) (by rw [HN4.out]; omega) (.inr (by simp; omega)) ?_
                intro v5 w5 ho5 t5
                obtain ⟨P5, q5, ev5, _⟩ := ho5.form
                rw [List.length_append, HN4.out] at ev5
                subst ev5
                have tb5 : Turn [b] w3 (w4.alloc (.cells #[.string mr, .string mn, .bool mst, .bool mb, .slice P1 mps.length q1, .slice P2 mls.length q2, .slice P3 mbd.length q3, .int .i64 mln, .int .i64 mcl] 29)) := HT4.out.trans' tal
                have hC5 := (HC3.out.turn tb5 (by simp; exact hbs))
                have hrow5 := t5.heap hC5.blk (fun hg => by have h1 := (HC3.out.a3 _ (hvb _ (by simpa using hg)).1).1; omega)
                have x4 : w5.cell? ⟨sb, 6, none⟩ = some (.slice Pf n4 qf) := cell_of_row w5 sb 6 _ _ _ hrow5
                have xf4 : w5.frozen? ⟨sb, 6, none⟩ = false := frozen_of_row w5 sb 6 _ _ hrow5
                have HAP := Lib.hid (HC3.out.app_ms tb5 t5 ho5)
                have HP5 := Lib.hid ((HP4.out.up tal).turn t5 (fun g hg => by have h1 := (HC3.out.a3 _ (hvb _ (by simpa using hg)).1).1; omega))
                have HT5 : Hid (Tq b sb w3 w5) := Lib.hid ((Tq.of tb5 (by simp)).trans (Tq.of t5 (fun g hg => .inr (by have h1 := (HC3.out.a3 _ (hvb _ (by simpa using hg)).1).1; omega))))
                clear ho5 t5 hC5 hrow5 tb5 hrr hown tal
                refine hK.out _ _ ?_ (fun hHeld => ?_)
                · trivial
                clear hK K
                try simp only [Act.put, List.setIfInBounds_toArray, List.set_cons_zero, List.set_cons_succ]
                refine wpAnyH_take (i := 9) (oi := { dst := some 79, op := Op.nilCheck (Operand.tmp 70), type := 0, pos := _, after := #[{ on := 0, ground := Ground.data }, { on := 0, ground := Ground.phase }, { on := 1, ground := Ground.phase }, { on := 2, ground := Ground.phase }, { on := 3, ground := Ground.phase }, { on := 4, ground := Ground.phase }, { on := 5, ground := Ground.phase }, { on := 6, ground := Ground.phase }, { on := 7, ground := Ground.phase }, { on := 8, ground := Ground.phase }], guard := none }) (v := ?_) rfl (by kernel_rfl) (by kernel_rfl) (by kernel_rfl) (fun _ _ _ h => h) (Or.inl ⟨by rfl, ?_⟩) (by assumption) ?_
                rotate_left
                · intro w hSw; (try dsimp only at hSw); go_simp; (try with_reducible rfl)
                try simp only [Act.put, List.setIfInBounds_toArray, List.set_cons_zero, List.set_cons_succ]
                refine wpAnyH_take (i := 10) (oi := { dst := some 80, op := Op.fieldAddr 69 (Operand.tmp 79) 6, type := 0, pos := _, after := #[{ on := 9, ground := Ground.data }, { on := 0, ground := Ground.phase }, { on := 1, ground := Ground.phase }, { on := 2, ground := Ground.phase }, { on := 3, ground := Ground.phase }, { on := 4, ground := Ground.phase }, { on := 5, ground := Ground.phase }, { on := 6, ground := Ground.phase }, { on := 7, ground := Ground.phase }, { on := 8, ground := Ground.phase }], guard := none }) (v := ?_) rfl (by kernel_rfl) (by kernel_rfl) (by kernel_rfl) (fun _ _ _ h => h) (Or.inl ⟨by rfl, ?_⟩) (by assumption) ?_
                rotate_left
                · intro w hSw; (try dsimp only at hSw); go_simp; (try with_reducible rfl)
                try simp only [Act.put, List.setIfInBounds_toArray, List.set_cons_zero, List.set_cons_succ]
                refine wpAnyH_ready (rs := [11]) (by kernel_rfl) (by simp) ?_
                refine AllReadyH.cons (o := { dst := none, op := Op.store 66 (Operand.tmp 80) (Operand.tmp 78), type := 0, pos := _, after := #[{ on := 10, ground := Ground.data }, { on := 8, ground := Ground.data }, { on := 8, ground := Ground.chain }, { on := 0, ground := Ground.phase }, { on := 1, ground := Ground.phase }, { on := 2, ground := Ground.phase }, { on := 3, ground := Ground.phase }, { on := 4, ground := Ground.phase }, { on := 5, ground := Ground.phase }, { on := 6, ground := Ground.phase }, { on := 7, ground := Ground.phase }, { on := 8, ground := Ground.phase }], guard := none }) rfl (fun K hK => ?_) AllReadyH.nil
                go_simp
                refine hK.out _ _ ?_ (fun hHeld => ?_)
                · trivial
                clear hK K
                try simp only [Act.put, List.setIfInBounds_toArray, List.set_cons_zero, List.set_cons_succ]
                refine wpAnyH_done (by kernel_rfl) ?_ _
                go_wp2_with fail
                go_roundw
                case rel =>
                  have hmem : member en p1 s1 = ({ p1 with ms := p1.ms ++ [⟨mr, mn, mst, mb, mps, mls, mbd, mln, mcl⟩] }, s4) := by
                    unfold member
                    simp only [HQ1.out, HQ2.out, HQ3.out, if_true, if_false, Bool.false_eq_true, reduceIte, HN4.out, HS3.out, HX.out, HS4.out]
                  have hm := HM.out
                  rw [hmem] at hm
                  have hl := HLT4.out
                  have hl3 := HL3.out
                  have hn0 := HN.out
                  refine ⟨{ p1 with ms := p1.ms ++ [⟨mr, mn, mst, mb, mps, mls, mbd, mln, mcl⟩] }, s4, Lib.hid ⟨HP5.out.turn (F := [sb]) ((Turn.refl [sb] w5).setCell (.inl (by simp)) _) (by simp; exact hbs), HAP.out, ?_⟩, Lib.hid (by rw [hl.1, HD3.out]), Lib.hid (by simp only [List.length_append, List.length_singleton]; omega), m, by omega, hm⟩
                  exact (H3.out.tt.trans HT5.out).trans (Tq.set w5)
                case measure =>
                  have h1 := HP5.out.turn (F := [sb]) ((Turn.refl [sb] w5).setCell (p := ⟨sb, 6, none⟩) (.inl (by simp)) (.slice P5 (n4 + 1) q5)) (by simp; exact hbs)
                  rw [h1.lenAt, HS.out.pr.lenAt]
                  have hl := HLT4.out
                  have hl3 := HL3.out
                  omega
              · go_simp
                go_at_call 138
                (with_reducible refine (method_any en b s3 w3.drew H3d.out.pr HD3.out).mono ?_)
                rintro e4 w4 ⟨cs, rfl, hr4, h4, t4⟩
                obtain ⟨x, hx⟩ : ∃ q, (method en s3).1 = q := ⟨_, rfl⟩
                obtain ⟨s4, hs4⟩ : ∃ q, (method en s3).2 = q := ⟨_, rfl⟩
                rw [hx] at hr4
                rw [hs4] at h4
                have HX := Lib.hid hx
                have HS4 := Lib.hid hs4
                have HLT4 : Hid (s4.deep = s3.deep ∧ s4.l.length < s3.l.length) := Lib.hid (by rw [← hs4]; exact HLT3.out)
                have tb4 : Turn [b] w3 w4 := ((Turn.refl [b] w3).drew).trans t4 (fun g hg => .inl hg)
                clear hx hs4
                obtain ⟨mr, mn, mst, mb, mps, mls, mbd, mln, mcl⟩ := x
                obtain ⟨Y1, Y2, Y3, ecs, k1, k2, k3⟩ := id hr4
                simp only at ecs
                subst ecs
                obtain ⟨P1, q1, rfl, _, _⟩ := k1
                obtain ⟨P2, q2, rfl, _, _⟩ := k2
                obtain ⟨P3, q3, rfl, _, _⟩ := k3
                have hC4 := HC3.out.turn tb4 (by simp; exact hbs)
                have e4' : w4.cell? ⟨sb, 6, none⟩ = some (.slice Pf n4 qf) := cell_of_row w4 sb 6 _ _ _ hC4.blk
                have e4a : (w4.alloc (.cells #[.string mr, .string mn, .bool mst, .bool mb, .slice P1 mps.length q1, .slice P2 mls.length q2, .slice P3 mbd.length q3, .int .i64 mln, .int .i64 mcl] 29)).cell? ⟨sb, 6, none⟩ = some (.slice Pf n4 qf) := cell_of_row _ sb 6 _ _ _ (((Turn.refl [] w4).alloc _).heap hC4.blk (by simp))
                have HR4 := Lib.hid hr4
                have HP4 := Lib.hid h4
                have HT4 := Lib.hid tb4
                have hsz4 := tb4.size
                have hszd : w3.drew.heap.size = w3.heap.size := rfl
                clear hC4 h4 t4 tb4 hr4
                try go_wp2_with fail
                refine hK.out _ _ ?_ (fun hHeld => ?_)
                · trivial
                clear hK K
                try simp only [Act.put, List.setIfInBounds_toArray, List.set_cons_zero, List.set_cons_succ]
                refine wpAnyH_ready (rs := [4, 7]) (by kernel_rfl) (by simp) ?_
                refine AllReadyH.cons (o := { dst := some 74, op := Op.load 66 (Operand.tmp 73), type := 66, pos := _, after := #[{ on := 3, ground := Ground.data }], guard := none }) rfl (fun K hK => ?_) (AllReadyH.cons (o := { dst := some 77, op := Op.buildSlice 66 1 #[(0, Operand.tmp 76)], type := 66, pos := _, after := #[{ on := 6, ground := Ground.data }], guard := none }) rfl (fun K hK => ?_) AllReadyH.nil)
                · go_simp
                  refine hK.out _ _ ?_ (fun hHeld => ?_)
                  · trivial
                  clear hK K
                  try simp only [Act.put, List.setIfInBounds_toArray, List.set_cons_zero, List.set_cons_succ]
                  refine wpAnyH_ready (rs := [7]) (by kernel_rfl) (by simp) ?_
                  refine AllReadyH.cons (o := { dst := some 77, op := Op.buildSlice 66 1 #[(0, Operand.tmp 76)], type := 66, pos := _, after := #[{ on := 6, ground := Ground.data }], guard := none }) rfl (fun K hK => ?_) AllReadyH.nil
                  go_simp
                  refine hK.out _ _ ?_ (fun hHeld => ?_)
                  · trivial
                  clear hK K
                  try simp only [Act.put, List.setIfInBounds_toArray, List.set_cons_zero, List.set_cons_succ]
                  refine wpAnyH_ready (rs := [8]) (by kernel_rfl) (by simp) ?_
                  refine AllReadyH.cons (o := { dst := some 78, op := Op.call { callee := Callee.builtin Builtin.append, args := #[Operand.tmp 74, Operand.tmp 77], argTypes := #[66, 66] }, type := 66, pos := _, after := #[{ on := 4, ground := Ground.data }, { on := 7, ground := Ground.data }, { on := 6, ground := Ground.chain }], guard := none }) rfl (fun K hK => ?_) AllReadyH.nil
                  have tal : Turn [] w4 (w4.alloc (.cells #[.string mr, .string mn, .bool mst, .bool mb, .slice P1 mps.length q1, .slice P2 mls.length q2, .slice P3 mbd.length q3, .int .i64 mln, .int .i64 mcl] 29)) := (Turn.refl [] w4).alloc _
                  have hown : OwnL 29 9 RdM (fun g => A3 g ∨ w3.heap.size ≤ g) (w4.alloc (.cells #[.string mr, .string mn, .bool mst, .bool mb, .slice P1 mps.length q1, .slice P2 mls.length q2, .slice P3 mbd.length q3, .int .i64 mln, .int .i64 mcl] 29)) (.slice Pf n4 qf) p1.ms :=
                    ((HC3.out.ms.turn goodM HT4.out (by simp; intro h; have := (HC3.out.a3 _ h).1; omega)).turn goodM tal (by simp)).mono goodM (fun g hg _ => .inl hg)
                  have hvb : ∀ g, (Value.slice Pf n4 qf).ownBlock = some g → A3 g ∧ g < w3.heap.size := fun g hg => ⟨(HC3.out.ms.lt hg).2, (HC3.out.ms.lt hg).1⟩
                  have hrr : RdM (fun g => (A3 g ∨ w3.heap.size ≤ g) ∧ (Value.slice Pf n4 qf).ownBlock ≠ some g) (w4.alloc (.cells #[.string mr, .string mn, .bool mst, .bool mb, .slice P1 mps.length q1, .slice P2 mls.length q2, .slice P3 mbd.length q3, .int .i64 mln, .int .i64 mcl] 29)) [.string mr, .string mn, .bool mst, .bool mb, .slice P1 mps.length q1, .slice P2 mls.length q2, .slice P3 mbd.length q3, .int .i64 mln, .int .i64 mcl] ⟨mr, mn, mst, mb, mps, mls, mbd, mln, mcl⟩ :=
                    goodM.mono (goodM.turn HR4.out tal (by simp)) (fun g hg _ => ⟨.inr hg, fun h => by have h1 := (hvb g h).2; have h2 : w3.heap.size ≤ g := hg; omega⟩)
                  refine step_appL rfl (.tmp 74) (.tmp 77) 66 rfl (w4.alloc (.cells #[.string mr, .string mn, .bool mst, .bool mb, .slice P1 mps.length q1, .slice P2 mls.length q2, .slice P3 mbd.length q3, .int .i64 mln, .int .i64 mcl] 29)) 29 9 128 _ RdM goodM (fun g => A3 g ∨ w3.heap.size ≤ g) Tryz.underlying66 method_info rfl (by omega) (by omega) (.slice Pf n4 qf) p1.ms (by simp [Act.eval, Act.put]) hown w4.heap.size 1 [.string mr, .string mn, .bool mst, .bool mb, .slice P1 mps.length q1, .slice P2 mls.length q2, .slice P3 mbd.length q3, .int .i64 mln, .int .i64 mcl] ⟨mr, mn, mst, mb, mps, mls, mbd, mln, mcl⟩ (by exact heap_alloc_new w4 _) hrr (by simp [Act.eval, Act.put]) (by rw [HN4.out]; omega) (.inr (by simp; omega)) ?_
                  intro v5 w5 ho5 t5
                  obtain ⟨P5, q5, ev5, _⟩ := ho5.form
                  rw [List.length_append, HN4.out] at ev5
                  subst ev5
                  have tb5 : Turn [b] w3 (w4.alloc (.cells #[.string mr, .string mn, .bool mst, .bool mb, .slice P1 mps.length q1, .slice P2 mls.length q2, .slice P3 mbd.length q3, .int .i64 mln, .int .i64 mcl] 29)) := HT4.out.trans' tal
                  have hC5 := (HC3.out.turn tb5 (by simp; exact hbs))
                  have hrow5 := t5.heap hC5.blk (fun hg => by have h1 := (HC3.out.a3 _ (hvb _ (by simpa using hg)).1).1; omega)
                  have x4 : w5.cell? ⟨sb, 6, none⟩ = some (.slice Pf n4 qf) := cell_of_row w5 sb 6 _ _ _ hrow5
                  have xf4 : w5.frozen? ⟨sb, 6, none⟩ = false := frozen_of_row w5 sb 6 _ _ hrow5
                  have HAP := Lib.hid (HC3.out.app_ms tb5 t5 ho5)
                  have HP5 := Lib.hid ((HP4.out.up tal).turn t5 (fun g hg => by have h1 := (HC3.out.a3 _ (hvb _ (by simpa using hg)).1).1; omega))
                  have HT5 : Hid (Tq b sb w3 w5) := Lib.hid ((Tq.of tb5 (by simp)).trans (Tq.of t5 (fun g hg => .inr (by have h1 := (HC3.out.a3 _ (hvb _ (by simpa using hg)).1).1; omega))))
                  clear ho5 t5 hC5 hrow5 tb5 hrr hown tal
                  refine hK.out _ _ ?_ (fun hHeld => ?_)
                  · trivial
                  clear hK K
                  try simp only [Act.put, List.setIfInBounds_toArray, List.set_cons_zero, List.set_cons_succ]
                  refine wpAnyH_take (i := 9) (oi := { dst := some 79, op := Op.nilCheck (Operand.tmp 70), type := 0, pos := _, after := #[{ on := 0, ground := Ground.data }, { on := 0, ground := Ground.phase }, { on := 1, ground := Ground.phase }, { on := 2, ground := Ground.phase }, { on := 3, ground := Ground.phase }, { on := 4, ground := Ground.phase }, { on := 5, ground := Ground.phase }, { on := 6, ground := Ground.phase }, { on := 7, ground := Ground.phase }, { on := 8, ground := Ground.phase }], guard := none }) (v := ?_) rfl (by kernel_rfl) (by kernel_rfl) (by kernel_rfl) (fun _ _ _ h => h) (Or.inl ⟨by rfl, ?_⟩) (by assumption) ?_
                  rotate_left
                  · intro w hSw; (try dsimp only at hSw); go_simp; (try with_reducible rfl)
                  try simp only [Act.put, List.setIfInBounds_toArray, List.set_cons_zero, List.set_cons_succ]
                  refine wpAnyH_take (i := 10) (oi := { dst := some 80, op := Op.fieldAddr 69 (Operand.tmp 79) 6, type := 0, pos := _, after := #[{ on := 9, ground := Ground.data }, { on := 0, ground := Ground.phase }, { on := 1, ground := Ground.phase }, { on := 2, ground := Ground.phase }, { on := 3, ground := Ground.phase }, { on := 4, ground := Ground.phase }, { on := 5, ground := Ground.phase }, { on := 6, ground := Ground.phase }, { on := 7, ground := Ground.phase }, { on := 8, ground := Ground.phase }], guard := none }) (v := ?_) rfl (by kernel_rfl) (by kernel_rfl) (by kernel_rfl) (fun _ _ _ h => h) (Or.inl ⟨by rfl, ?_⟩) (by assumption) ?_
                  rotate_left
                  · intro w hSw; (try dsimp only at hSw); go_simp; (try with_reducible rfl)
                  try simp only [Act.put, List.setIfInBounds_toArray, List.set_cons_zero, List.set_cons_succ]
                  refine wpAnyH_ready (rs := [11]) (by kernel_rfl) (by simp) ?_
                  refine AllReadyH.cons (o := { dst := none, op := Op.store 66 (Operand.tmp 80) (Operand.tmp 78), type := 0, pos := _, after := #[{ on := 10, ground := Ground.data }, { on := 8, ground := Ground.data }, { on := 8, ground := Ground.chain }, { on := 0, ground := Ground.phase }, { on := 1, ground := Ground.phase }, { on := 2, ground := Ground.phase }, { on := 3, ground := Ground.phase }, { on := 4, ground := Ground.phase }, { on := 5, ground := Ground.phase }, { on := 6, ground := Ground.phase }, { on := 7, ground := Ground.phase }, { on := 8, ground := Ground.phase }], guard := none }) rfl (fun K hK => ?_) AllReadyH.nil
                  go_simp
                  refine hK.out _ _ ?_ (fun hHeld => ?_)
                  · trivial
                  clear hK K
                  try simp only [Act.put, List.setIfInBounds_toArray, List.set_cons_zero, List.set_cons_succ]
                  refine wpAnyH_done (by kernel_rfl) ?_ _
                  go_wp2_with fail
                  go_roundw
                  case rel =>
                    have hmem : member en p1 s1 = ({ p1 with ms := p1.ms ++ [⟨mr, mn, mst, mb, mps, mls, mbd, mln, mcl⟩] }, s4) := by
                      unfold member
                      simp only [HQ1.out, HQ2.out, HQ3.out, if_true, if_false, Bool.false_eq_true, reduceIte, HN4.out, HS3.out, HX.out, HS4.out]
                    have hm := HM.out
                    rw [hmem] at hm
                    have hl := HLT4.out
                    have hl3 := HL3.out
                    have hn0 := HN.out
                    refine ⟨{ p1 with ms := p1.ms ++ [⟨mr, mn, mst, mb, mps, mls, mbd, mln, mcl⟩] }, s4, Lib.hid ⟨HP5.out.turn (F := [sb]) ((Turn.refl [sb] w5).setCell (.inl (by simp)) _) (by simp; exact hbs), HAP.out, ?_⟩, Lib.hid (by rw [hl.1, HD3.out]), Lib.hid (by simp only [List.length_append, List.length_singleton]; omega), m, by omega, hm⟩
                    exact (H3.out.tt.trans HT5.out).trans (Tq.set w5)
                  case measure =>
                    have h1 := HP5.out.turn (F := [sb]) ((Turn.refl [sb] w5).setCell (p := ⟨sb, 6, none⟩) (.inl (by simp)) (.slice P5 (n4 + 1) q5)) (by simp; exact hbs)
                    rw [h1.lenAt, HS.out.pr.lenAt]
                    have hl := HLT4.out
                    have hl3 := HL3.out
                    omega
                · go_simp
                  refine hK.out _ _ ?_ (fun hHeld => ?_)
                  · trivial
                  clear hK K
                  try simp only [Act.put, List.setIfInBounds_toArray, List.set_cons_zero, List.set_cons_succ]
                  refine wpAnyH_ready (rs := [4]) (by kernel_rfl) (by simp) ?_
                  refine AllReadyH.cons (o := { dst := some 74, op := Op.load 66 (Operand.tmp 73), type := 66, pos := _, after := #[{ on := 3, ground := Ground.data }], guard := none }) rfl (fun K hK => ?_) AllReadyH.nil
                  go_simp
                  refine hK.out _ _ ?_ (fun hHeld => ?_)
                  · trivial
                  clear hK K
                  try simp only [Act.put, List.setIfInBounds_toArray, List.set_cons_zero, List.set_cons_succ]
                  refine wpAnyH_ready (rs := [8]) (by kernel_rfl) (by simp) ?_
                  refine AllReadyH.cons (o := { dst := some 78, op := Op.call { callee := Callee.builtin Builtin.append, args := #[Operand.tmp 74, Operand.tmp 77], argTypes := #[66, 66] }, type := 66, pos := _, after := #[{ on := 4, ground := Ground.data }, { on := 7, ground := Ground.data }, { on := 6, ground := Ground.chain }], guard := none }) rfl (fun K hK => ?_) AllReadyH.nil
                  have tal : Turn [] w4 (w4.alloc (.cells #[.string mr, .string mn, .bool mst, .bool mb, .slice P1 mps.length q1, .slice P2 mls.length q2, .slice P3 mbd.length q3, .int .i64 mln, .int .i64 mcl] 29)) := (Turn.refl [] w4).alloc _
                  have hown : OwnL 29 9 RdM (fun g => A3 g ∨ w3.heap.size ≤ g) (w4.alloc (.cells #[.string mr, .string mn, .bool mst, .bool mb, .slice P1 mps.length q1, .slice P2 mls.length q2, .slice P3 mbd.length q3, .int .i64 mln, .int .i64 mcl] 29)) (.slice Pf n4 qf) p1.ms :=
                    ((HC3.out.ms.turn goodM HT4.out (by simp; intro h; have := (HC3.out.a3 _ h).1; omega)).turn goodM tal (by simp)).mono goodM (fun g hg _ => .inl hg)
                  have hvb : ∀ g, (Value.slice Pf n4 qf).ownBlock = some g → A3 g ∧ g < w3.heap.size := fun g hg => ⟨(HC3.out.ms.lt hg).2, (HC3.out.ms.lt hg).1⟩
                  have hrr : RdM (fun g => (A3 g ∨ w3.heap.size ≤ g) ∧ (Value.slice Pf n4 qf).ownBlock ≠ some g) (w4.alloc (.cells #[.string mr, .string mn, .bool mst, .bool mb, .slice P1 mps.length q1, .slice P2 mls.length q2, .slice P3 mbd.length q3, .int .i64 mln, .int .i64 mcl] 29)) [.string mr, .string mn, .bool mst, .bool mb, .slice P1 mps.length q1, .slice P2 mls.length q2, .slice P3 mbd.length q3, .int .i64 mln, .int .i64 mcl] ⟨mr, mn, mst, mb, mps, mls, mbd, mln, mcl⟩ :=
                    goodM.mono (goodM.turn HR4.out tal (by simp)) (fun g hg _ => ⟨.inr hg, fun h => by have h1 := (hvb g h).2; have h2 : w3.heap.size ≤ g := hg; omega⟩)
                  refine step_appL rfl (.tmp 74) (.tmp 77) 66 rfl (w4.alloc (.cells #[.string mr, .string mn, .bool mst, .bool mb, .slice P1 mps.length q1, .slice P2 mls.length q2, .slice P3 mbd.length q3, .int .i64 mln, .int .i64 mcl] 29)) 29 9 128 _ RdM goodM (fun g => A3 g ∨ w3.heap.size ≤ g) Tryz.underlying66 method_info rfl (by omega) (by omega) (.slice Pf n4 qf) p1.ms (by simp [Act.eval, Act.put]) hown w4.heap.size 1 [.string mr, .string mn, .bool mst, .bool mb, .slice P1 mps.length q1, .slice P2 mls.length q2, .slice P3 mbd.length q3, .int .i64 mln, .int .i64 mcl] ⟨mr, mn, mst, mb, mps, mls, mbd, mln, mcl⟩ (by exact heap_alloc_new w4 _) hrr (by simp [Act.eval, Act.put]) (by rw [HN4.out]; omega) (.inr (by simp; omega)) ?_
                  intro v5 w5 ho5 t5
                  obtain ⟨P5, q5, ev5, _⟩ := ho5.form
                  rw [List.length_append, HN4.out] at ev5
                  subst ev5
                  have tb5 : Turn [b] w3 (w4.alloc (.cells #[.string mr, .string mn, .bool mst, .bool mb, .slice P1 mps.length q1, .slice P2 mls.length q2, .slice P3 mbd.length q3, .int .i64 mln, .int .i64 mcl] 29)) := HT4.out.trans' tal
                  have hC5 := (HC3.out.turn tb5 (by simp; exact hbs))
                  have hrow5 := t5.heap hC5.blk (fun hg => by have h1 := (HC3.out.a3 _ (hvb _ (by simpa using hg)).1).1; omega)
                  have x4 : w5.cell? ⟨sb, 6, none⟩ = some (.slice Pf n4 qf) := cell_of_row w5 sb 6 _ _ _ hrow5
                  have xf4 : w5.frozen? ⟨sb, 6, none⟩ = false := frozen_of_row w5 sb 6 _ _ hrow5
                  have HAP := Lib.hid (HC3.out.app_ms tb5 t5 ho5)
                  have HP5 := Lib.hid ((HP4.out.up tal).turn t5 (fun g hg => by have h1 := (HC3.out.a3 _ (hvb _ (by simpa using hg)).1).1; omega))
                  have HT5 : Hid (Tq b sb w3 w5) := Lib.hid ((Tq.of tb5 (by simp)).trans (Tq.of t5 (fun g hg => .inr (by have h1 := (HC3.out.a3 _ (hvb _ (by simpa using hg)).1).1; omega))))
                  clear ho5 t5 hC5 hrow5 tb5 hrr hown tal
                  refine hK.out _ _ ?_ (fun hHeld => ?_)
                  · trivial
                  clear hK K
                  try simp only [Act.put, List.setIfInBounds_toArray, List.set_cons_zero, List.set_cons_succ]
                  refine wpAnyH_take (i := 9) (oi := { dst := some 79, op := Op.nilCheck (Operand.tmp 70), type := 0, pos := _, after := #[{ on := 0, ground := Ground.data }, { on := 0, ground := Ground.phase }, { on := 1, ground := Ground.phase }, { on := 2, ground := Ground.phase }, { on := 3, ground := Ground.phase }, { on := 4, ground := Ground.phase }, { on := 5, ground := Ground.phase }, { on := 6, ground := Ground.phase }, { on := 7, ground := Ground.phase }, { on := 8, ground := Ground.phase }], guard := none }) (v := ?_) rfl (by kernel_rfl) (by kernel_rfl) (by kernel_rfl) (fun _ _ _ h => h) (Or.inl ⟨by rfl, ?_⟩) (by assumption) ?_
                  rotate_left
                  · intro w hSw; (try dsimp only at hSw); go_simp; (try with_reducible rfl)
                  try simp only [Act.put, List.setIfInBounds_toArray, List.set_cons_zero, List.set_cons_succ]
                  refine wpAnyH_take (i := 10) (oi := { dst := some 80, op := Op.fieldAddr 69 (Operand.tmp 79) 6, type := 0, pos := _, after := #[{ on := 9, ground := Ground.data }, { on := 0, ground := Ground.phase }, { on := 1, ground := Ground.phase }, { on := 2, ground := Ground.phase }, { on := 3, ground := Ground.phase }, { on := 4, ground := Ground.phase }, { on := 5, ground := Ground.phase }, { on := 6, ground := Ground.phase }, { on := 7, ground := Ground.phase }, { on := 8, ground := Ground.phase }], guard := none }) (v := ?_) rfl (by kernel_rfl) (by kernel_rfl) (by kernel_rfl) (fun _ _ _ h => h) (Or.inl ⟨by rfl, ?_⟩) (by assumption) ?_
                  rotate_left
                  · intro w hSw; (try dsimp only at hSw); go_simp; (try with_reducible rfl)
                  try simp only [Act.put, List.setIfInBounds_toArray, List.set_cons_zero, List.set_cons_succ]
                  refine wpAnyH_ready (rs := [11]) (by kernel_rfl) (by simp) ?_
                  refine AllReadyH.cons (o := { dst := none, op := Op.store 66 (Operand.tmp 80) (Operand.tmp 78), type := 0, pos := _, after := #[{ on := 10, ground := Ground.data }, { on := 8, ground := Ground.data }, { on := 8, ground := Ground.chain }, { on := 0, ground := Ground.phase }, { on := 1, ground := Ground.phase }, { on := 2, ground := Ground.phase }, { on := 3, ground := Ground.phase }, { on := 4, ground := Ground.phase }, { on := 5, ground := Ground.phase }, { on := 6, ground := Ground.phase }, { on := 7, ground := Ground.phase }, { on := 8, ground := Ground.phase }], guard := none }) rfl (fun K hK => ?_) AllReadyH.nil
                  go_simp
                  refine hK.out _ _ ?_ (fun hHeld => ?_)
                  · trivial
                  clear hK K
                  try simp only [Act.put, List.setIfInBounds_toArray, List.set_cons_zero, List.set_cons_succ]
                  refine wpAnyH_done (by kernel_rfl) ?_ _
                  go_wp2_with fail
                  go_roundw
                  case rel =>
                    have hmem : member en p1 s1 = ({ p1 with ms := p1.ms ++ [⟨mr, mn, mst, mb, mps, mls, mbd, mln, mcl⟩] }, s4) := by
                      unfold member
                      simp only [HQ1.out, HQ2.out, HQ3.out, if_true, if_false, Bool.false_eq_true, reduceIte, HN4.out, HS3.out, HX.out, HS4.out]
                    have hm := HM.out
                    rw [hmem] at hm
                    have hl := HLT4.out
                    have hl3 := HL3.out
                    have hn0 := HN.out
                    refine ⟨{ p1 with ms := p1.ms ++ [⟨mr, mn, mst, mb, mps, mls, mbd, mln, mcl⟩] }, s4, Lib.hid ⟨HP5.out.turn (F := [sb]) ((Turn.refl [sb] w5).setCell (.inl (by simp)) _) (by simp; exact hbs), HAP.out, ?_⟩, Lib.hid (by rw [hl.1, HD3.out]), Lib.hid (by simp only [List.length_append, List.length_singleton]; omega), m, by omega, hm⟩
                    exact (H3.out.tt.trans HT5.out).trans (Tq.set w5)
                  case measure =>
                    have h1 := HP5.out.turn (F := [sb]) ((Turn.refl [sb] w5).setCell (p := ⟨sb, 6, none⟩) (.inl (by simp)) (.slice P5 (n4 + 1) q5)) (by simp; exact hbs)
                    rw [h1.lenAt, HS.out.pr.lenAt]
                    have hl := HLT4.out
                    have hl3 := HL3.out
                    omega
            | false =>
              have HQ3 : Hid ((row2 kStatic kMethod s1 || sees kMethod s1) = false) := Lib.hid (by rw [hq5, HQ4.out]; rfl)
              clear hq5
              obtain ⟨V1, V2, V3, V4, V5, A1, A2, A3, hC⟩ := id H7.out.ss
              obtain ⟨Pf, qf, ev, _⟩ := hC.sc.form
              subst ev
              have hlen : p1.sc.length ≤ 900000 := by have := HN.out; omega
              obtain ⟨n4, hn4⟩ : ∃ n, p1.sc.length = n := ⟨_, rfl⟩
              rw [hn4] at hC hlen
              have c4 : w7.cell? ⟨sb, 5, none⟩ = some (.slice Pf n4 qf) := cell_of_row w7 sb 5 _ _ _ hC.blk
              have HCC := Lib.hid hC
              have HN4 := Lib.hid hn4
              clear hC hn4
              go_wp2_with fail
              refine (room_any en b n4 40 s1 w7 H7.out.pr).mono ?_
              rintro e3 w3 ⟨rfl, h3, t3⟩
              have H3 := Lib.hid (H7.out.call h3 t3)
              obtain ⟨s3, hs3⟩ : ∃ q, room (decide (40 ≤ n4)) s1 = q := ⟨_, rfl⟩
              rw [hs3] at H3
              have hd3 : s3.deep = 0 := by rw [← hs3]; exact HD.out
              have hl3 : s3.l = s1.l := by rw [← hs3]; rfl
              have hne3 : s3.l ≠ [] := by rw [hl3]; exact HNE.out
              have hC3 := HCC.out.turn t3 (by simp; exact hbs)
              have d4 : w3.cell? ⟨sb, 5, none⟩ = some (.slice Pf n4 qf) := cell_of_row w3 sb 5 _ _ _ hC3.blk
              have H3d := Lib.hid (H3.out.up (Turn.refl [] w3).drew)
              have HD3 := Lib.hid hd3
              have HL3 := Lib.hid (congrArg List.length hl3)
              have HC3 := Lib.hid hC3
              have HS3 := Lib.hid hs3
              have HLT3 : Hid (Lt s3 (declared en kStatic s3).2) := Lib.hid (declared_lt _ hne3)
              clear h3 t3 hs3 hd3 hl3 hne3 hC3 c4 HCC
              go_upto_region 2 with (fail)
              refine wp_region_held_drew (S := fun w' => True) (by kernel_rfl) ?_ (fun hHeld => ?_)
              · trivial
              refine wpAnyH_take (i := 0) (oi := { dst := some 14, op := Op.move (Operand.tmp 1), type := 158, pos := _, after := #[], guard := none }) (v := ?_) rfl (by kernel_rfl) (by kernel_rfl) (by kernel_rfl) (fun _ _ _ h => h) (Or.inl ⟨by rfl, ?_⟩) (by assumption) ?_
              rotate_left
              · intro w hSw; (try dsimp only at hSw); go_simp; (try with_reducible rfl)
              try simp only [Act.put, List.setIfInBounds_toArray, List.set_cons_zero, List.set_cons_succ]
              refine wpAnyH_take (i := 1) (oi := { dst := some 15, op := Op.move (Operand.tmp 1), type := 158, pos := _, after := #[], guard := none }) (v := ?_) rfl (by kernel_rfl) (by kernel_rfl) (by kernel_rfl) (fun _ _ _ h => h) (Or.inl ⟨by rfl, ?_⟩) (by assumption) ?_
              rotate_left
              · intro w hSw; (try dsimp only at hSw); go_simp; (try with_reducible rfl)
              try simp only [Act.put, List.setIfInBounds_toArray, List.set_cons_zero, List.set_cons_succ]
              refine wpAnyH_take (i := 2) (oi := { dst := some 16, op := Op.nilCheck (Operand.tmp 15), type := 0, pos := _, after := #[{ on := 1, ground := Ground.data }], guard := none }) (v := ?_) rfl (by kernel_rfl) (by kernel_rfl) (by kernel_rfl) (fun _ _ _ h => h) (Or.inl ⟨by rfl, ?_⟩) (by assumption) ?_
              rotate_left
              · intro w hSw; (try dsimp only at hSw); go_simp; (try with_reducible rfl)
              try simp only [Act.put, List.setIfInBounds_toArray, List.set_cons_zero, List.set_cons_succ]
              refine wpAnyH_take (i := 3) (oi := { dst := some 17, op := Op.fieldAddr 69 (Operand.tmp 16) 5, type := 0, pos := _, after := #[{ on := 2, ground := Ground.data }], guard := none }) (v := ?_) rfl (by kernel_rfl) (by kernel_rfl) (by kernel_rfl) (fun _ _ _ h => h) (Or.inl ⟨by rfl, ?_⟩) (by assumption) ?_
              rotate_left
              · intro w hSw; (try dsimp only at hSw); go_simp; (try with_reducible rfl)
              try simp only [Act.put, List.setIfInBounds_toArray, List.set_cons_zero, List.set_cons_succ]
              refine wpAnyH_take (i := 5) (oi := { dst := some 19, op := Op.move (Operand.tmp 0), type := 57, pos := _, after := #[], guard := none }) (v := ?_) rfl (by kernel_rfl) (by kernel_rfl) (by kernel_rfl) (fun _ _ _ h => h) (Or.inl ⟨by rfl, ?_⟩) (by assumption) ?_
              rotate_left
              · intro w hSw; (try dsimp only at hSw); go_simp; (try with_reducible rfl)
              try simp only [Act.put, List.setIfInBounds_toArray, List.set_cons_zero, List.set_cons_succ]
              refine wpAnyH_ready (rs := [4, 6]) (by kernel_rfl) (by simp) ?_
              refine AllReadyH.cons (o := { dst := some 18, op := Op.load 24 (Operand.tmp 17), type := 24, pos := _, after := #[{ on := 3, ground := Ground.data }], guard := none }) rfl (fun K hK => ?_) (AllReadyH.cons (o := { dst := some 20, op := Op.call { callee := Callee.value (Operand.func 136), args := #[Operand.tmp 19, Operand.const (Value.string { data := #[115, 116, 97, 116, 105, 99] })], argTypes := #[57, 9] }, type := 107, pos := _, after := #[{ on := 5, ground := Ground.data }], guard := none }) rfl (fun K hK => ?_) AllReadyH.nil)
              · go_simp
                refine hK.out _ _ ?_ (fun hHeld => ?_)
                · trivial
                clear hK K
                try simp only [Act.put, List.setIfInBounds_toArray, List.set_cons_zero, List.set_cons_succ]
                refine wpAnyH_ready (rs := [6]) (by kernel_rfl) (by simp) ?_
                refine AllReadyH.cons (o := { dst := some 20, op := Op.call { callee := Callee.value (Operand.func 136), args := #[Operand.tmp 19, Operand.const (Value.string { data := #[115, 116, 97, 116, 105, 99] })], argTypes := #[57, 9] }, type := 107, pos := _, after := #[{ on := 5, ground := Ground.data }], guard := none }) rfl (fun K hK => ?_) AllReadyH.nil
                go_simp
                go_at_call 136
                (with_reducible refine (declared_any en b s3 kStatic ⟨#[115, 116, 97, 116, 105, 99]⟩ rfl w3.drew H3d.out.pr).mono ?_)
                rintro e4 w4 ⟨cs, rfl, hr4, h4, t4⟩
                obtain ⟨x, hx⟩ : ∃ q, (declared en kStatic s3).1 = q := ⟨_, rfl⟩
                obtain ⟨s4, hs4⟩ : ∃ q, (declared en kStatic s3).2 = q := ⟨_, rfl⟩
                rw [hx] at hr4
                rw [hs4] at h4
                have HX := Lib.hid hx
                have HS4 := Lib.hid hs4
                have HLT4 : Hid (s4.deep = s3.deep ∧ s4.l.length < s3.l.length) := Lib.hid (by rw [← hs4]; exact HLT3.out)
                have tb4 : Turn [b] w3 w4 := ((Turn.refl [b] w3).drew).trans t4 (fun g hg => .inl hg)
                clear hx hs4
                obtain ⟨xt, xn, xl, xc⟩ := x
                have e9 : cs = [.string xt, .string xn, .int .i64 xl, .int .i64 xc] := hr4
                subst e9
                have hC4 := HC3.out.turn tb4 (by simp; exact hbs)
                have e4' : w4.cell? ⟨sb, 5, none⟩ = some (.slice Pf n4 qf) := cell_of_row w4 sb 5 _ _ _ hC4.blk
                have e4a : (w4.alloc (.cells #[.string xt, .string xn, .int .i64 xl, .int .i64 xc] 107)).cell? ⟨sb, 5, none⟩ = some (.slice Pf n4 qf) := cell_of_row _ sb 5 _ _ _ (((Turn.refl [] w4).alloc _).heap hC4.blk (by simp))
                have HR4 := Lib.hid hr4
                have HP4 := Lib.hid h4
                have HT4 := Lib.hid tb4
                have hsz4 := tb4.size
                have hszd : w3.drew.heap.size = w3.heap.size := rfl
                clear hC4 h4 t4 tb4 hr4
                try go_wp2_with fail
                refine hK.out _ _ ?_ (fun hHeld => ?_)
                · trivial
                clear hK K
                try simp only [Act.put, List.setIfInBounds_toArray, List.set_cons_zero, List.set_cons_succ]
                refine wpAnyH_ready (rs := [7]) (by kernel_rfl) (by simp) ?_
                refine AllReadyH.cons (o := { dst := some 21, op := Op.buildSlice 24 1 #[(0, Operand.tmp 20)], type := 24, pos := _, after := #[{ on := 6, ground := Ground.data }], guard := none }) rfl (fun K hK => ?_) AllReadyH.nil
                go_simp
                refine hK.out _ _ ?_ (fun hHeld => ?_)
                · trivial
                clear hK K
                try simp only [Act.put, List.setIfInBounds_toArray, List.set_cons_zero, List.set_cons_succ]
                refine wpAnyH_ready (rs := [8]) (by kernel_rfl) (by simp) ?_
                refine AllReadyH.cons (o := { dst := some 22, op := Op.call { callee := Callee.builtin Builtin.append, args := #[Operand.tmp 18, Operand.tmp 21], argTypes := #[24, 24] }, type := 24, pos := _, after := #[{ on := 4, ground := Ground.data }, { on := 7, ground := Ground.data }, { on := 6, ground := Ground.chain }], guard := none }) rfl (fun K hK => ?_) AllReadyH.nil
                have tal : Turn [] w4 (w4.alloc (.cells #[.string xt, .string xn, .int .i64 xl, .int .i64 xc] 107)) := (Turn.refl [] w4).alloc _
                have hown : OwnL 107 4 RdW (fun g => A2 g ∨ w3.heap.size ≤ g) (w4.alloc (.cells #[.string xt, .string xn, .int .i64 xl, .int .i64 xc] 107)) (.slice Pf n4 qf) p1.sc :=
                  ((HC3.out.sc.turn goodW HT4.out (by simp; intro h; have := (HC3.out.a2 _ h).1; omega)).turn goodW tal (by simp)).mono goodW (fun g hg _ => .inl hg)
                have hvb : ∀ g, (Value.slice Pf n4 qf).ownBlock = some g → A2 g ∧ g < w3.heap.size := fun g hg => ⟨(HC3.out.sc.lt hg).2, (HC3.out.sc.lt hg).1⟩
                have hrr : RdW (fun g => (A2 g ∨ w3.heap.size ≤ g) ∧ (Value.slice Pf n4 qf).ownBlock ≠ some g) (w4.alloc (.cells #[.string xt, .string xn, .int .i64 xl, .int .i64 xc] 107)) [.string xt, .string xn, .int .i64 xl, .int .i64 xc] ⟨xt, xn, xl, xc⟩ :=
                  goodW.mono (goodW.turn HR4.out tal (by simp)) (fun g hg _ => ⟨.inr hg, fun h => by have h1 := (hvb g h).2; have h2 : w3.heap.size ≤ g := hg; omega⟩)
                refine step_appL rfl (.tmp 18) (.tmp 21) 24 rfl (w4.alloc (.cells #[.string xt, .string xn, .int .i64 xl, .int .i64 xc] 107)) 107 4 48 _ RdW goodW (fun g => A2 g ∨ w3.heap.size ≤ g) Tryz.underlying24 var_info rfl (by omega) (by omega) (.slice Pf n4 qf) p1.sc (by simp [Act.eval, Act.put]) hown w4.heap.size 1 [.string xt, .string xn, .int .i64 xl, .int .i64 xc] ⟨xt, xn, xl, xc⟩ (by exact heap_alloc_new w4 _) hrr (by simp [Act.eval, Act.put]) (by rw [HN4.out]; omega) (.inr (by simp; omega)) ?_
                intro v5 w5 ho5 t5
                obtain ⟨P5, q5, ev5, _⟩ := ho5.form
                rw [List.length_append, HN4.out] at ev5
                subst ev5
                have tb5 : Turn [b] w3 (w4.alloc (.cells #[.string xt, .string xn, .int .i64 xl, .int .i64 xc] 107)) := HT4.out.trans' tal
                have hC5 := (HC3.out.turn tb5 (by simp; exact hbs))
                have hrow5 := t5.heap hC5.blk (fun hg => by have h1 := (HC3.out.a2 _ (hvb _ (by simpa using hg)).1).1; omega)
                have x4 : w5.cell? ⟨sb, 5, none⟩ = some (.slice Pf n4 qf) := cell_of_row w5 sb 5 _ _ _ hrow5
                have xf4 : w5.frozen? ⟨sb, 5, none⟩ = false := frozen_of_row w5 sb 5 _ _ hrow5
                have HAP := Lib.hid (HC3.out.app_sc tb5 t5 ho5)
                have HP5 := Lib.hid ((HP4.out.up tal).turn t5 (fun g hg => by have h1 := (HC3.out.a2 _ (hvb _ (by simpa using hg)).1).1; omega))
                have HT5 : Hid (Tq b sb w3 w5) := Lib.hid ((Tq.of tb5 (by simp)).trans (Tq.of t5 (fun g hg => .inr (by have h1 := (HC3.out.a2 _ (hvb _ (by simpa using hg)).1).1; omega))))
                clear ho5 t5 hC5 hrow5 tb5 hrr hown tal
                refine hK.out _ _ ?_ (fun hHeld => ?_)
                · trivial
                clear hK K
                try simp only [Act.put, List.setIfInBounds_toArray, List.set_cons_zero, List.set_cons_succ]
                refine wpAnyH_take (i := 9) (oi := { dst := some 23, op := Op.nilCheck (Operand.tmp 14), type := 0, pos := _, after := #[{ on := 0, ground := Ground.data }, { on := 0, ground := Ground.phase }, { on := 1, ground := Ground.phase }, { on := 2, ground := Ground.phase }, { on := 3, ground := Ground.phase }, { on := 4, ground := Ground.phase }, { on := 5, ground := Ground.phase }, { on := 6, ground := Ground.phase }, { on := 7, ground := Ground.phase }, { on := 8, ground := Ground.phase }], guard := none }) (v := ?_) rfl (by kernel_rfl) (by kernel_rfl) (by kernel_rfl) (fun _ _ _ h => h) (Or.inl ⟨by rfl, ?_⟩) (by assumption) ?_
                rotate_left
                · intro w hSw; (try dsimp only at hSw); go_simp; (try with_reducible rfl)
                try simp only [Act.put, List.setIfInBounds_toArray, List.set_cons_zero, List.set_cons_succ]
                refine wpAnyH_take (i := 10) (oi := { dst := some 24, op := Op.fieldAddr 69 (Operand.tmp 23) 5, type := 0, pos := _, after := #[{ on := 9, ground := Ground.data }, { on := 0, ground := Ground.phase }, { on := 1, ground := Ground.phase }, { on := 2, ground := Ground.phase }, { on := 3, ground := Ground.phase }, { on := 4, ground := Ground.phase }, { on := 5, ground := Ground.phase }, { on := 6, ground := Ground.phase }, { on := 7, ground := Ground.phase }, { on := 8, ground := Ground.phase }], guard := none }) (v := ?_) rfl (by kernel_rfl) (by kernel_rfl) (by kernel_rfl) (fun _ _ _ h => h) (Or.inl ⟨by rfl, ?_⟩) (by assumption) ?_
                rotate_left
                · intro w hSw; (try dsimp only at hSw); go_simp; (try with_reducible rfl)
                try simp only [Act.put, List.setIfInBounds_toArray, List.set_cons_zero, List.set_cons_succ]
                refine wpAnyH_ready (rs := [11]) (by kernel_rfl) (by simp) ?_
                refine AllReadyH.cons (o := { dst := none, op := Op.store 24 (Operand.tmp 24) (Operand.tmp 22), type := 0, pos := _, after := #[{ on := 10, ground := Ground.data }, { on := 8, ground := Ground.data }, { on := 8, ground := Ground.chain }, { on := 0, ground := Ground.phase }, { on := 1, ground := Ground.phase }, { on := 2, ground := Ground.phase }, { on := 3, ground := Ground.phase }, { on := 4, ground := Ground.phase }, { on := 5, ground := Ground.phase }, { on := 6, ground := Ground.phase }, { on := 7, ground := Ground.phase }, { on := 8, ground := Ground.phase }], guard := none }) rfl (fun K hK => ?_) AllReadyH.nil
                go_simp
                refine hK.out _ _ ?_ (fun hHeld => ?_)
                · trivial
                clear hK K
                try simp only [Act.put, List.setIfInBounds_toArray, List.set_cons_zero, List.set_cons_succ]
                refine wpAnyH_done (by kernel_rfl) ?_ _
                go_wp2_with fail
                go_roundw
                case rel =>
                  have hmem : member en p1 s1 = ({ p1 with sc := p1.sc ++ [⟨xt, xn, xl, xc⟩] }, s4) := by
                    unfold member
                    simp only [HQ1.out, HQ2.out, HQ3.out, if_true, if_false, Bool.false_eq_true, reduceIte, HN4.out, HS3.out, HX.out, HS4.out]
                  have hm := HM.out
                  rw [hmem] at hm
                  have hl := HLT4.out
                  have hl3 := HL3.out
                  have hn0 := HN.out
                  refine ⟨{ p1 with sc := p1.sc ++ [⟨xt, xn, xl, xc⟩] }, s4, Lib.hid ⟨HP5.out.turn (F := [sb]) ((Turn.refl [sb] w5).setCell (.inl (by simp)) _) (by simp; exact hbs), HAP.out, ?_⟩, Lib.hid (by rw [hl.1, HD3.out]), Lib.hid (by simp only [List.length_append, List.length_singleton]; omega), m, by omega, hm⟩
                  exact (H3.out.tt.trans HT5.out).trans (Tq.set w5)
                case measure =>
                  have h1 := HP5.out.turn (F := [sb]) ((Turn.refl [sb] w5).setCell (p := ⟨sb, 5, none⟩) (.inl (by simp)) (.slice P5 (n4 + 1) q5)) (by simp; exact hbs)
                  rw [h1.lenAt, HS.out.pr.lenAt]
                  have hl := HLT4.out
                  have hl3 := HL3.out
                  omega
              · go_simp
                go_at_call 136
                (with_reducible refine (declared_any en b s3 kStatic ⟨#[115, 116, 97, 116, 105, 99]⟩ rfl w3.drew H3d.out.pr).mono ?_)
                rintro e4 w4 ⟨cs, rfl, hr4, h4, t4⟩
                obtain ⟨x, hx⟩ : ∃ q, (declared en kStatic s3).1 = q := ⟨_, rfl⟩
                obtain ⟨s4, hs4⟩ : ∃ q, (declared en kStatic s3).2 = q := ⟨_, rfl⟩
                rw [hx] at hr4
                rw [hs4] at h4
                have HX := Lib.hid hx
                have HS4 := Lib.hid hs4
                have HLT4 : Hid (s4.deep = s3.deep ∧ s4.l.length < s3.l.length) := Lib.hid (by rw [← hs4]; exact HLT3.out)
                have tb4 : Turn [b] w3 w4 := ((Turn.refl [b] w3).drew).trans t4 (fun g hg => .inl hg)
                clear hx hs4
                obtain ⟨xt, xn, xl, xc⟩ := x
                have e9 : cs = [.string xt, .string xn, .int .i64 xl, .int .i64 xc] := hr4
                subst e9
                have hC4 := HC3.out.turn tb4 (by simp; exact hbs)
                have e4' : w4.cell? ⟨sb, 5, none⟩ = some (.slice Pf n4 qf) := cell_of_row w4 sb 5 _ _ _ hC4.blk
                have e4a : (w4.alloc (.cells #[.string xt, .string xn, .int .i64 xl, .int .i64 xc] 107)).cell? ⟨sb, 5, none⟩ = some (.slice Pf n4 qf) := cell_of_row _ sb 5 _ _ _ (((Turn.refl [] w4).alloc _).heap hC4.blk (by simp))
                have HR4 := Lib.hid hr4
                have HP4 := Lib.hid h4
                have HT4 := Lib.hid tb4
                have hsz4 := tb4.size
                have hszd : w3.drew.heap.size = w3.heap.size := rfl
                clear hC4 h4 t4 tb4 hr4
                try go_wp2_with fail
                refine hK.out _ _ ?_ (fun hHeld => ?_)
                · trivial
                clear hK K
                try simp only [Act.put, List.setIfInBounds_toArray, List.set_cons_zero, List.set_cons_succ]
                refine wpAnyH_ready (rs := [4, 7]) (by kernel_rfl) (by simp) ?_
                refine AllReadyH.cons (o := { dst := some 18, op := Op.load 24 (Operand.tmp 17), type := 24, pos := _, after := #[{ on := 3, ground := Ground.data }], guard := none }) rfl (fun K hK => ?_) (AllReadyH.cons (o := { dst := some 21, op := Op.buildSlice 24 1 #[(0, Operand.tmp 20)], type := 24, pos := _, after := #[{ on := 6, ground := Ground.data }], guard := none }) rfl (fun K hK => ?_) AllReadyH.nil)
                · go_simp
                  refine hK.out _ _ ?_ (fun hHeld => ?_)
                  · trivial
                  clear hK K
                  try simp only [Act.put, List.setIfInBounds_toArray, List.set_cons_zero, List.set_cons_succ]
                  refine wpAnyH_ready (rs := [7]) (by kernel_rfl) (by simp) ?_
                  refine AllReadyH.cons (o := { dst := some 21, op := Op.buildSlice 24 1 #[(0, Operand.tmp 20)], type := 24, pos := _, after := #[{ on := 6, ground := Ground.data }], guard := none }) rfl (fun K hK => ?_) AllReadyH.nil
                  go_simp
                  refine hK.out _ _ ?_ (fun hHeld => ?_)
                  · trivial
                  clear hK K
                  try simp only [Act.put, List.setIfInBounds_toArray, List.set_cons_zero, List.set_cons_succ]
                  refine wpAnyH_ready (rs := [8]) (by kernel_rfl) (by simp) ?_
                  refine AllReadyH.cons (o := { dst := some 22, op := Op.call { callee := Callee.builtin Builtin.append, args := #[Operand.tmp 18, Operand.tmp 21], argTypes := #[24, 24] }, type := 24, pos := _, after := #[{ on := 4, ground := Ground.data }, { on := 7, ground := Ground.data }, { on := 6, ground := Ground.chain }], guard := none }) rfl (fun K hK => ?_) AllReadyH.nil
                  have tal : Turn [] w4 (w4.alloc (.cells #[.string xt, .string xn, .int .i64 xl, .int .i64 xc] 107)) := (Turn.refl [] w4).alloc _
                  have hown : OwnL 107 4 RdW (fun g => A2 g ∨ w3.heap.size ≤ g) (w4.alloc (.cells #[.string xt, .string xn, .int .i64 xl, .int .i64 xc] 107)) (.slice Pf n4 qf) p1.sc :=
                    ((HC3.out.sc.turn goodW HT4.out (by simp; intro h; have := (HC3.out.a2 _ h).1; omega)).turn goodW tal (by simp)).mono goodW (fun g hg _ => .inl hg)
                  have hvb : ∀ g, (Value.slice Pf n4 qf).ownBlock = some g → A2 g ∧ g < w3.heap.size := fun g hg => ⟨(HC3.out.sc.lt hg).2, (HC3.out.sc.lt hg).1⟩
                  have hrr : RdW (fun g => (A2 g ∨ w3.heap.size ≤ g) ∧ (Value.slice Pf n4 qf).ownBlock ≠ some g) (w4.alloc (.cells #[.string xt, .string xn, .int .i64 xl, .int .i64 xc] 107)) [.string xt, .string xn, .int .i64 xl, .int .i64 xc] ⟨xt, xn, xl, xc⟩ :=
                    goodW.mono (goodW.turn HR4.out tal (by simp)) (fun g hg _ => ⟨.inr hg, fun h => by have h1 := (hvb g h).2; have h2 : w3.heap.size ≤ g := hg; omega⟩)
                  refine step_appL rfl (.tmp 18) (.tmp 21) 24 rfl (w4.alloc (.cells #[.string xt, .string xn, .int .i64 xl, .int .i64 xc] 107)) 107 4 48 _ RdW goodW (fun g => A2 g ∨ w3.heap.size ≤ g) Tryz.underlying24 var_info rfl (by omega) (by omega) (.slice Pf n4 qf) p1.sc (by simp [Act.eval, Act.put]) hown w4.heap.size 1 [.string xt, .string xn, .int .i64 xl, .int .i64 xc] ⟨xt, xn, xl, xc⟩ (by exact heap_alloc_new w4 _) hrr (by simp [Act.eval, Act.put]) (by rw [HN4.out]; omega) (.inr (by simp; omega)) ?_
                  intro v5 w5 ho5 t5
                  obtain ⟨P5, q5, ev5, _⟩ := ho5.form
                  rw [List.length_append, HN4.out] at ev5
                  subst ev5
                  have tb5 : Turn [b] w3 (w4.alloc (.cells #[.string xt, .string xn, .int .i64 xl, .int .i64 xc] 107)) := HT4.out.trans' tal
                  have hC5 := (HC3.out.turn tb5 (by simp; exact hbs))
                  have hrow5 := t5.heap hC5.blk (fun hg => by have h1 := (HC3.out.a2 _ (hvb _ (by simpa using hg)).1).1; omega)
                  have x4 : w5.cell? ⟨sb, 5, none⟩ = some (.slice Pf n4 qf) := cell_of_row w5 sb 5 _ _ _ hrow5
                  have xf4 : w5.frozen? ⟨sb, 5, none⟩ = false := frozen_of_row w5 sb 5 _ _ hrow5
                  have HAP := Lib.hid (HC3.out.app_sc tb5 t5 ho5)
                  have HP5 := Lib.hid ((HP4.out.up tal).turn t5 (fun g hg => by have h1 := (HC3.out.a2 _ (hvb _ (by simpa using hg)).1).1; omega))
                  have HT5 : Hid (Tq b sb w3 w5) := Lib.hid ((Tq.of tb5 (by simp)).trans (Tq.of t5 (fun g hg => .inr (by have h1 := (HC3.out.a2 _ (hvb _ (by simpa using hg)).1).1; omega))))
                  clear ho5 t5 hC5 hrow5 tb5 hrr hown tal
                  refine hK.out _ _ ?_ (fun hHeld => ?_)
                  · trivial
                  clear hK K
                  try simp only [Act.put, List.setIfInBounds_toArray, List.set_cons_zero, List.set_cons_succ]
                  refine wpAnyH_take (i := 9) (oi := { dst := some 23, op := Op.nilCheck (Operand.tmp 14), type := 0, pos := _, after := #[{ on := 0, ground := Ground.data }, { on := 0, ground := Ground.phase }, { on := 1, ground := Ground.phase }, { on := 2, ground := Ground.phase }, { on := 3, ground := Ground.phase }, { on := 4, ground := Ground.phase }, { on := 5, ground := Ground.phase }, { on := 6, ground := Ground.phase }, { on := 7, ground := Ground.phase }, { on := 8, ground := Ground.phase }], guard := none }) (v := ?_) rfl (by kernel_rfl) (by kernel_rfl) (by kernel_rfl) (fun _ _ _ h => h) (Or.inl ⟨by rfl, ?_⟩) (by assumption) ?_
                  rotate_left
                  · intro w hSw; (try dsimp only at hSw); go_simp; (try with_reducible rfl)
                  try simp only [Act.put, List.setIfInBounds_toArray, List.set_cons_zero, List.set_cons_succ]
                  refine wpAnyH_take (i := 10) (oi := { dst := some 24, op := Op.fieldAddr 69 (Operand.tmp 23) 5, type := 0, pos := _, after := #[{ on := 9, ground := Ground.data }, { on := 0, ground := Ground.phase }, { on := 1, ground := Ground.phase }, { on := 2, ground := Ground.phase }, { on := 3, ground := Ground.phase }, { on := 4, ground := Ground.phase }, { on := 5, ground := Ground.phase }, { on := 6, ground := Ground.phase }, { on := 7, ground := Ground.phase }, { on := 8, ground := Ground.phase }], guard := none }) (v := ?_) rfl (by kernel_rfl) (by kernel_rfl) (by kernel_rfl) (fun _ _ _ h => h) (Or.inl ⟨by rfl, ?_⟩) (by assumption) ?_
                  rotate_left
                  · intro w hSw; (try dsimp only at hSw); go_simp; (try with_reducible rfl)
                  try simp only [Act.put, List.setIfInBounds_toArray, List.set_cons_zero, List.set_cons_succ]
                  refine wpAnyH_ready (rs := [11]) (by kernel_rfl) (by simp) ?_
                  refine AllReadyH.cons (o := { dst := none, op := Op.store 24 (Operand.tmp 24) (Operand.tmp 22), type := 0, pos := _, after := #[{ on := 10, ground := Ground.data }, { on := 8, ground := Ground.data }, { on := 8, ground := Ground.chain }, { on := 0, ground := Ground.phase }, { on := 1, ground := Ground.phase }, { on := 2, ground := Ground.phase }, { on := 3, ground := Ground.phase }, { on := 4, ground := Ground.phase }, { on := 5, ground := Ground.phase }, { on := 6, ground := Ground.phase }, { on := 7, ground := Ground.phase }, { on := 8, ground := Ground.phase }], guard := none }) rfl (fun K hK => ?_) AllReadyH.nil
                  go_simp
                  refine hK.out _ _ ?_ (fun hHeld => ?_)
                  · trivial
                  clear hK K
                  try simp only [Act.put, List.setIfInBounds_toArray, List.set_cons_zero, List.set_cons_succ]
                  refine wpAnyH_done (by kernel_rfl) ?_ _
                  go_wp2_with fail
                  go_roundw
                  case rel =>
                    have hmem : member en p1 s1 = ({ p1 with sc := p1.sc ++ [⟨xt, xn, xl, xc⟩] }, s4) := by
                      unfold member
                      simp only [HQ1.out, HQ2.out, HQ3.out, if_true, if_false, Bool.false_eq_true, reduceIte, HN4.out, HS3.out, HX.out, HS4.out]
                    have hm := HM.out
                    rw [hmem] at hm
                    have hl := HLT4.out
                    have hl3 := HL3.out
                    have hn0 := HN.out
                    refine ⟨{ p1 with sc := p1.sc ++ [⟨xt, xn, xl, xc⟩] }, s4, Lib.hid ⟨HP5.out.turn (F := [sb]) ((Turn.refl [sb] w5).setCell (.inl (by simp)) _) (by simp; exact hbs), HAP.out, ?_⟩, Lib.hid (by rw [hl.1, HD3.out]), Lib.hid (by simp only [List.length_append, List.length_singleton]; omega), m, by omega, hm⟩
                    exact (H3.out.tt.trans HT5.out).trans (Tq.set w5)
                  case measure =>
                    have h1 := HP5.out.turn (F := [sb]) ((Turn.refl [sb] w5).setCell (p := ⟨sb, 5, none⟩) (.inl (by simp)) (.slice P5 (n4 + 1) q5)) (by simp; exact hbs)
                    rw [h1.lenAt, HS.out.pr.lenAt]
                    have hl := HLT4.out
                    have hl3 := HL3.out
                    omega
                · go_simp
                  refine hK.out _ _ ?_ (fun hHeld => ?_)
                  · trivial
                  clear hK K
                  try simp only [Act.put, List.setIfInBounds_toArray, List.set_cons_zero, List.set_cons_succ]
                  refine wpAnyH_ready (rs := [4]) (by kernel_rfl) (by simp) ?_
                  refine AllReadyH.cons (o := { dst := some 18, op := Op.load 24 (Operand.tmp 17), type := 24, pos := _, after := #[{ on := 3, ground := Ground.data }], guard := none }) rfl (fun K hK => ?_) AllReadyH.nil
                  go_simp
                  refine hK.out _ _ ?_ (fun hHeld => ?_)
                  · trivial
                  clear hK K
                  try simp only [Act.put, List.setIfInBounds_toArray, List.set_cons_zero, List.set_cons_succ]
                  refine wpAnyH_ready (rs := [8]) (by kernel_rfl) (by simp) ?_
                  refine AllReadyH.cons (o := { dst := some 22, op := Op.call { callee := Callee.builtin Builtin.append, args := #[Operand.tmp 18, Operand.tmp 21], argTypes := #[24, 24] }, type := 24, pos := _, after := #[{ on := 4, ground := Ground.data }, { on := 7, ground := Ground.data }, { on := 6, ground := Ground.chain }], guard := none }) rfl (fun K hK => ?_) AllReadyH.nil
                  have tal : Turn [] w4 (w4.alloc (.cells #[.string xt, .string xn, .int .i64 xl, .int .i64 xc] 107)) := (Turn.refl [] w4).alloc _
                  have hown : OwnL 107 4 RdW (fun g => A2 g ∨ w3.heap.size ≤ g) (w4.alloc (.cells #[.string xt, .string xn, .int .i64 xl, .int .i64 xc] 107)) (.slice Pf n4 qf) p1.sc :=
                    ((HC3.out.sc.turn goodW HT4.out (by simp; intro h; have := (HC3.out.a2 _ h).1; omega)).turn goodW tal (by simp)).mono goodW (fun g hg _ => .inl hg)
                  have hvb : ∀ g, (Value.slice Pf n4 qf).ownBlock = some g → A2 g ∧ g < w3.heap.size := fun g hg => ⟨(HC3.out.sc.lt hg).2, (HC3.out.sc.lt hg).1⟩
                  have hrr : RdW (fun g => (A2 g ∨ w3.heap.size ≤ g) ∧ (Value.slice Pf n4 qf).ownBlock ≠ some g) (w4.alloc (.cells #[.string xt, .string xn, .int .i64 xl, .int .i64 xc] 107)) [.string xt, .string xn, .int .i64 xl, .int .i64 xc] ⟨xt, xn, xl, xc⟩ :=
                    goodW.mono (goodW.turn HR4.out tal (by simp)) (fun g hg _ => ⟨.inr hg, fun h => by have h1 := (hvb g h).2; have h2 : w3.heap.size ≤ g := hg; omega⟩)
                  refine step_appL rfl (.tmp 18) (.tmp 21) 24 rfl (w4.alloc (.cells #[.string xt, .string xn, .int .i64 xl, .int .i64 xc] 107)) 107 4 48 _ RdW goodW (fun g => A2 g ∨ w3.heap.size ≤ g) Tryz.underlying24 var_info rfl (by omega) (by omega) (.slice Pf n4 qf) p1.sc (by simp [Act.eval, Act.put]) hown w4.heap.size 1 [.string xt, .string xn, .int .i64 xl, .int .i64 xc] ⟨xt, xn, xl, xc⟩ (by exact heap_alloc_new w4 _) hrr (by simp [Act.eval, Act.put]) (by rw [HN4.out]; omega) (.inr (by simp; omega)) ?_
                  intro v5 w5 ho5 t5
                  obtain ⟨P5, q5, ev5, _⟩ := ho5.form
                  rw [List.length_append, HN4.out] at ev5
                  subst ev5
                  have tb5 : Turn [b] w3 (w4.alloc (.cells #[.string xt, .string xn, .int .i64 xl, .int .i64 xc] 107)) := HT4.out.trans' tal
                  have hC5 := (HC3.out.turn tb5 (by simp; exact hbs))
                  have hrow5 := t5.heap hC5.blk (fun hg => by have h1 := (HC3.out.a2 _ (hvb _ (by simpa using hg)).1).1; omega)
                  have x4 : w5.cell? ⟨sb, 5, none⟩ = some (.slice Pf n4 qf) := cell_of_row w5 sb 5 _ _ _ hrow5
                  have xf4 : w5.frozen? ⟨sb, 5, none⟩ = false := frozen_of_row w5 sb 5 _ _ hrow5
                  have HAP := Lib.hid (HC3.out.app_sc tb5 t5 ho5)
                  have HP5 := Lib.hid ((HP4.out.up tal).turn t5 (fun g hg => by have h1 := (HC3.out.a2 _ (hvb _ (by simpa using hg)).1).1; omega))
                  have HT5 : Hid (Tq b sb w3 w5) := Lib.hid ((Tq.of tb5 (by simp)).trans (Tq.of t5 (fun g hg => .inr (by have h1 := (HC3.out.a2 _ (hvb _ (by simpa using hg)).1).1; omega))))
                  clear ho5 t5 hC5 hrow5 tb5 hrr hown tal
                  refine hK.out _ _ ?_ (fun hHeld => ?_)
                  · trivial
                  clear hK K
                  try simp only [Act.put, List.setIfInBounds_toArray, List.set_cons_zero, List.set_cons_succ]
                  refine wpAnyH_take (i := 9) (oi := { dst := some 23, op := Op.nilCheck (Operand.tmp 14), type := 0, pos := _, after := #[{ on := 0, ground := Ground.data }, { on := 0, ground := Ground.phase }, { on := 1, ground := Ground.phase }, { on := 2, ground := Ground.phase }, { on := 3, ground := Ground.phase }, { on := 4, ground := Ground.phase }, { on := 5, ground := Ground.phase }, { on := 6, ground := Ground.phase }, { on := 7, ground := Ground.phase }, { on := 8, ground := Ground.phase }], guard := none }) (v := ?_) rfl (by kernel_rfl) (by kernel_rfl) (by kernel_rfl) (fun _ _ _ h => h) (Or.inl ⟨by rfl, ?_⟩) (by assumption) ?_
                  rotate_left
                  · intro w hSw; (try dsimp only at hSw); go_simp; (try with_reducible rfl)
                  try simp only [Act.put, List.setIfInBounds_toArray, List.set_cons_zero, List.set_cons_succ]
                  refine wpAnyH_take (i := 10) (oi := { dst := some 24, op := Op.fieldAddr 69 (Operand.tmp 23) 5, type := 0, pos := _, after := #[{ on := 9, ground := Ground.data }, { on := 0, ground := Ground.phase }, { on := 1, ground := Ground.phase }, { on := 2, ground := Ground.phase }, { on := 3, ground := Ground.phase }, { on := 4, ground := Ground.phase }, { on := 5, ground := Ground.phase }, { on := 6, ground := Ground.phase }, { on := 7, ground := Ground.phase }, { on := 8, ground := Ground.phase }], guard := none }) (v := ?_) rfl (by kernel_rfl) (by kernel_rfl) (by kernel_rfl) (fun _ _ _ h => h) (Or.inl ⟨by rfl, ?_⟩) (by assumption) ?_
                  rotate_left
                  · intro w hSw; (try dsimp only at hSw); go_simp; (try with_reducible rfl)
                  try simp only [Act.put, List.setIfInBounds_toArray, List.set_cons_zero, List.set_cons_succ]
                  refine wpAnyH_ready (rs := [11]) (by kernel_rfl) (by simp) ?_
                  refine AllReadyH.cons (o := { dst := none, op := Op.store 24 (Operand.tmp 24) (Operand.tmp 22), type := 0, pos := _, after := #[{ on := 10, ground := Ground.data }, { on := 8, ground := Ground.data }, { on := 8, ground := Ground.chain }, { on := 0, ground := Ground.phase }, { on := 1, ground := Ground.phase }, { on := 2, ground := Ground.phase }, { on := 3, ground := Ground.phase }, { on := 4, ground := Ground.phase }, { on := 5, ground := Ground.phase }, { on := 6, ground := Ground.phase }, { on := 7, ground := Ground.phase }, { on := 8, ground := Ground.phase }], guard := none }) rfl (fun K hK => ?_) AllReadyH.nil
                  go_simp
                  refine hK.out _ _ ?_ (fun hHeld => ?_)
                  · trivial
                  clear hK K
                  try simp only [Act.put, List.setIfInBounds_toArray, List.set_cons_zero, List.set_cons_succ]
                  refine wpAnyH_done (by kernel_rfl) ?_ _
                  go_wp2_with fail
                  go_roundw
                  case rel =>
                    have hmem : member en p1 s1 = ({ p1 with sc := p1.sc ++ [⟨xt, xn, xl, xc⟩] }, s4) := by
                      unfold member
                      simp only [HQ1.out, HQ2.out, HQ3.out, if_true, if_false, Bool.false_eq_true, reduceIte, HN4.out, HS3.out, HX.out, HS4.out]
                    have hm := HM.out
                    rw [hmem] at hm
                    have hl := HLT4.out
                    have hl3 := HL3.out
                    have hn0 := HN.out
                    refine ⟨{ p1 with sc := p1.sc ++ [⟨xt, xn, xl, xc⟩] }, s4, Lib.hid ⟨HP5.out.turn (F := [sb]) ((Turn.refl [sb] w5).setCell (.inl (by simp)) _) (by simp; exact hbs), HAP.out, ?_⟩, Lib.hid (by rw [hl.1, HD3.out]), Lib.hid (by simp only [List.length_append, List.length_singleton]; omega), m, by omega, hm⟩
                    exact (H3.out.tt.trans HT5.out).trans (Tq.set w5)
                  case measure =>
                    have h1 := HP5.out.turn (F := [sb]) ((Turn.refl [sb] w5).setCell (p := ⟨sb, 5, none⟩) (.inl (by simp)) (.slice P5 (n4 + 1) q5)) (by simp; exact hbs)
                    rw [h1.lenAt, HS.out.pr.lenAt]
                    have hl := HLT4.out
                    have hl3 := HL3.out
                    omega
end Go.Proofs.YtnmhcgkccchacaaGreatDoor

/- class. Printed by mkcls.py. -/
set_option linter.unusedSimpArgs false
set_option linter.unusedVariables false
set_option maxRecDepth 100000
namespace Go.Proofs.YtnmhcgkccchacaaGreatDoor
open Go.RowKit
set_option maxHeartbeats 1600000 in
theorem class1_any (en : Nat × Nat) (b sb g1 : Nat) (s : RS) (p : Cf) (w : World) (hP : Pr en w b s) (hS : Cb w b sb p) (hd : s.deep = 0) (hz : p.fd.length + p.sc.length + p.ms.length + s.l.length ≤ 900000) (c1 : w.cell? ⟨g1, 0, none⟩ = some (.pointer (some ⟨b, 0, none⟩))) :
    Calls Tryz.prog 110 #[.pointer (some ⟨g1, 0, none⟩), .pointer (some ⟨sb, 0, none⟩)] w fun e w' => e = .returned (.tuple #[]) ∧ StC en w w' b sb (members en (s.l.length + 1) p s).2 (members en (s.l.length + 1) p s).1 := by
  have HM := Lib.hid (members_any en b sb s p w hP hS hd hz)
  clear hP hS hd hz
  go_enter Tryz.func110, Tryz.ntmps110
  go_wp2_with fail
  refine HM.out.mono ?_
  rintro e1 w1 ⟨rfl, h1⟩
  have H1 := Lib.hid h1
  clear h1 HM
  go_wp2_with fail
  go_end0
  exact ⟨rfl, H1.out⟩

set_option maxHeartbeats 12800000 in
theorem class_any (en : Nat × Nat) (b : Nat) (s : RS) (w : World) (hP : Pr en w b s) (hd : s.deep = 0) :
    Calls Tryz.prog 84 #[.pointer (some ⟨b, 0, none⟩)] w fun e w' => ∃ cs : List Value, e = .returned (.agg cs.toArray) ∧ RdC (fun g => w.heap.size ≤ g) w' cs (class' en s).1 ∧ Pr en w' b (class' en s).2 ∧ Turn [b] w w' := by
  have HDD := Lib.hid hd
  clear hd
  have hmf := mf
  have hbl := hP.lt
  have hlen0 := hP.len
  obtain ⟨W1, hW1⟩ : ∃ W1, (w.alloc (.cells #[.pointer (some ⟨b, 0, none⟩)] 57)).alloc (.cells #[.string ⟨#[]⟩, .string ⟨#[]⟩, .bool false, .slice none 0 0, .slice none 0 0, .slice none 0 0, .slice none 0 0, .pointer none, .int .i64 0, .int .i64 0] 69) = W1 := ⟨_, rfl⟩
  obtain ⟨g1, hg1⟩ : ∃ g, w.heap.size = g := ⟨_, rfl⟩
  obtain ⟨r, hr⟩ : ∃ r, g1 + 1 = r := ⟨_, rfl⟩
  have tW1 : Turn [] w W1 := by rw [← hW1]; exact ((Turn.refl [] w).alloc _).alloc _
  have gW1 : W1.heap[g1]? = some (.cells #[.pointer (some ⟨b, 0, none⟩)] 57 (0, 0)) := by rw [← hW1, ← hg1]; exact ((Turn.refl [] _).alloc _).heap (heap_alloc_new w _) (by simp)
  have rW1 : W1.heap[r]? = some (.cells #[.string ⟨#[]⟩, .string ⟨#[]⟩, .bool false, .slice none 0 0, .slice none 0 0, .slice none 0 0, .slice none 0 0, .pointer none, .int .i64 0, .int .i64 0] 69 (0, 0)) := by
    rw [← hW1, ← hr, ← hg1]
    have := heap_alloc_new (w.alloc (.cells #[.pointer (some ⟨b, 0, none⟩)] 57)) (.cells #[.string ⟨#[]⟩, .string ⟨#[]⟩, .bool false, .slice none 0 0, .slice none 0 0, .slice none 0 0, .slice none 0 0, .pointer none, .int .i64 0, .int .i64 0] 69)
    rwa [World.size_alloc] at this
  have sW1 : W1.heap.size = r + 1 := by rw [← hW1, ← hr, ← hg1]; simp
  have c1 : W1.cell? ⟨g1, 0, none⟩ = some (.pointer (some ⟨b, 0, none⟩)) := cell_of_row W1 g1 0 _ _ _ gW1
  have HW1 := Lib.hid hW1
  have HG := Lib.hid hg1
  have HR := Lib.hid hr
  have hPl := place_any en b s W1 (hP.up tW1)
  obtain ⟨pl, hpl⟩ : ∃ p, (atP en s).1 = p := ⟨_, rfl⟩
  obtain ⟨pc, hpc⟩ : ∃ p, (atP en s).2 = p := ⟨_, rfl⟩
  rw [hpl, hpc] at hPl
  have HPL := Lib.hid hPl
  have HAT : Hid (atP en s = (pl, pc)) := Lib.hid (by rw [← hpl, ← hpc])
  have HP1 := Lib.hid (hP.up tW1)
  have HTW1 := Lib.hid tW1
  have HRW1 := Lib.hid rW1
  have HGW1 := Lib.hid gW1
  have HSW1 := Lib.hid sW1
  clear hW1 tW1 rW1 gW1 sW1 hPl hpl hpc hP
  go_enter Tryz.func84, Tryz.ntmps84
  go_upto_region 1 with (fail)
  rw [HW1.out]
  go_wp2_with fail
  refine HPL.out.mono ?_
  rintro e0 w2 ⟨rfl, t2⟩
  obtain ⟨W2, hW2⟩ : ∃ W2, w2.alloc (.cells #[.string ⟨#[]⟩, .string ⟨#[]⟩, .bool false, .slice none 0 0, .slice none 0 0, .slice none 0 0, .slice none 0 0, .pointer none, .int .i64 (pl : Int), .int .i64 (pc : Int)] 69) = W2 := ⟨_, rfl⟩
  obtain ⟨sb, hsb⟩ : ∃ sb, w2.heap.size = sb := ⟨_, rfl⟩
  have tW2 : Turn [] W1 W2 := by rw [← hW2]; exact t2.alloc _
  have hsbk : W2.heap[sb]? = some (.cells #[.string ⟨#[]⟩, .string ⟨#[]⟩, .bool false, .slice none 0 0, .slice none 0 0, .slice none 0 0, .slice none 0 0, .pointer none, .int .i64 (pl : Int), .int .i64 (pc : Int)] 69 (0, 0)) := by rw [← hW2, ← hsb]; exact heap_alloc_new w2 _
  have hrsb : r < sb := by have := t2.size; have := HSW1.out; omega
  have hgr : g1 < r := by have := HR.out; omega
  have hbg : b < g1 := by have := HG.out; omega
  have hSb : Cb W2 b sb ⟨e0, e0, false, [], [], [], [], none, pl, pc⟩ :=
    ⟨_, _, _, _, _, fun _ => False, fun _ => False, fun _ => False, by omega, hsbk, fun _ h => h.elim, fun _ h => h.elim, fun _ h => h.elim, fun _ h => h.elim, fun _ h => h.elim, fun _ h => h.elim, RdV.nil _ _ _, OwnL.nil _ _ _, OwnL.nil _ _ _, OwnL.nil _ _ _, rfl⟩
  have H0 := Lib.hid (StC.mk0 (HP1.out.up tW2) hSb)
  have HB : Hid (∀ W, Tq b sb W2 W → W.cell? ⟨g1, 0, none⟩ = some (.pointer (some ⟨b, 0, none⟩)) ∧ W.heap[r]? = some (.cells #[.string ⟨#[]⟩, .string ⟨#[]⟩, .bool false, .slice none 0 0, .slice none 0 0, .slice none 0 0, .slice none 0 0, .pointer none, .int .i64 0, .int .i64 0] 69 (0, 0))) := Lib.hid fun W ⟨F, t, hF⟩ =>
    ⟨cell_of_row W g1 0 _ _ _ (t.heap (tW2.heap HGW1.out (by simp)) (fun hg => by have := hF _ hg; omega)), t.heap (tW2.heap HRW1.out (by simp)) (fun hg => by have := hF _ hg; omega)⟩
  have HT2 : Hid (Turn [] w W2) := Lib.hid (HTW1.out.trans' tW2)
  have HW2 := Lib.hid hW2
  have HSB := Lib.hid hsb
  have c2 := (HB.out W2 (Tq.refl _ _ _)).1
  clear hW2 hsb tW2 hsbk t2 hSb c1
  go_upto_region 2 with (fail)
  rw [HW2.out, HSB.out]
  go_wp2_with fail
  refine (takeN_any en b s kClass _ W2.heap.size rfl _ rfl H0.out.pr).mono ?_
  rintro e1 w3 ⟨rfl, h3, t3⟩
  have H3 := Lib.hid (H0.out.call h3 t3)
  obtain ⟨s1, es1⟩ : ∃ q, take en kClass s = q := ⟨_, rfl⟩
  rw [es1] at H3
  have HE1 := Lib.hid es1
  have c3 := (HB.out w3 H3.out.tt).1
  clear h3 t3 es1 c2
  go_wp2_with fail
  refine (pName_any en b s1 _ H3.out.pr).mono ?_
  rintro e2 w4 ⟨rfl, h4, t4⟩
  have H4 := Lib.hid (H3.out.call h4 t4)
  obtain ⟨v1, ev1⟩ : ∃ q, (name en s1).1 = q := ⟨_, rfl⟩
  obtain ⟨s2, es2⟩ : ∃ q, (name en s1).2 = q := ⟨_, rfl⟩
  rw [es2] at H4
  rw [ev1]
  have HE2 := Lib.hid (And.intro ev1 es2)
  have c4 := (HB.out w4 H4.out.tt).1
  clear h4 t4 es2 ev1 c3
  obtain ⟨U1_4, U2_4, U3_4, U4_4, U5_4, hcc, hff⟩ := H4.out.ss.cells
  have k4 : w4.cell? ⟨sb, 0, none⟩ = some (.string e0) := hcc 0
  have kf4 : w4.frozen? ⟨sb, 0, none⟩ = false := hff 0
  clear hcc hff
  have H4s : Hid (StC en W2 (w4.setCell ⟨sb, 0, none⟩ (.string v1)) b sb s2 ⟨v1, e0, false, [], [], [], [], none, pl, pc⟩) := Lib.hid (H4.out.set_nm v1)
  have c4s := (HB.out _ H4s.out.tt).1
  obtain ⟨W4, hW4⟩ : ∃ W4, w4.setCell ⟨sb, 0, none⟩ (.string v1) = W4 := ⟨_, rfl⟩
  rw [hW4] at H4s c4s
  have HW4 := Lib.hid hW4
  clear hW4
  go_upto_region 4 with (fail)
  rw [HW4.out]
  clear c4 k4 kf4
  go_wp2_with fail
  refine (pSkip_any en b s2 kExt ⟨#[101, 120, 116, 101, 110, 100, 115]⟩ rfl W4 H4s.out.pr).mono ?_
  rintro e5 w5 ⟨rfl, h5, t5⟩
  have H5 := Lib.hid (H4s.out.call h5 t5)
  obtain ⟨s3, es3⟩ : ∃ q, (skip en kExt s2).2 = q := ⟨_, rfl⟩
  rw [es3] at H5
  have HE3 := Lib.hid es3
  have c5 := (HB.out w5 H5.out.tt).1
  have hle3 : Le s s3 := by
    have e1 := HE1.out
    have e2 := HE2.out.2
    rw [← es3, ← e2, ← e1]
    exact skip_le _ (name_le (take_le _ (Le.refl s)))
  have HLE := Lib.hid hle3
  clear h5 t5 es3 c4s hle3
  cases hq : (skip en kExt s2).1 with
  | false =>
    have HQ := Lib.hid hq
    clear hq
    obtain ⟨W6, hW6⟩ : ∃ W, w5 = W := ⟨_, rfl⟩
    subst hW6
    obtain ⟨s4, es4⟩ : ∃ q, s3 = q := ⟨_, rfl⟩
    subst es4
    have H6 : Hid (StC en W2 w5 b sb s3 ⟨v1, e0, false, [], [], [], [], none, pl, pc⟩) := H5
    have HLE4 := HLE
    have c6 := c5
    obtain ⟨s5, es5⟩ : ∃ q, (faces en kImpl s3).2 = q := ⟨_, rfl⟩
    obtain ⟨v3, ev3⟩ : ∃ q, (faces en kImpl s3).1 = q := ⟨_, rfl⟩
    go_wp2_with fail
    refine (faces_any en b s3 kImpl ⟨#[105, 109, 112, 108, 101, 109, 101, 110, 116, 115]⟩ rfl w5 H6.out.pr).mono ?_
    rintro e7 w7 ⟨V, rfl, hv, h7, t7⟩
    rw [ev3] at hv
    rw [es5] at h7
    obtain ⟨Pv, qv, rfl, _, _⟩ := id hv
    have H7 := Lib.hid (H6.out.call_fs h7 t7 hv)
    have hc7 := H6.out.call h7 t7
    obtain ⟨X1, X2, X3, X4, X5, hcc, hff⟩ := hc7.ss.cells
    have k7 : w7.cell? ⟨sb, 3, none⟩ = some X1 := hcc 3
    have kf7 : w7.frozen? ⟨sb, 3, none⟩ = false := hff 3
    have c7 := (HB.out _ H7.out.tt).1
    obtain ⟨W7, hW7⟩ : ∃ W7, w7.setCell ⟨sb, 3, none⟩ (.slice Pv v3.length qv) = W7 := ⟨_, rfl⟩
    rw [hW7] at H7 c7
    have HW7 := Lib.hid hW7
    clear hW7 hcc hff hc7 hv h7 t7 c6
    go_upto_region 7 with (fail)
    rw [HW7.out]
    obtain ⟨s6, es6⟩ : ∃ q, take en [123] s5 = q := ⟨_, rfl⟩
    have hle6 : Le s s6 := by
      rw [← es6, ← es5]
      exact take_le _ (faces_le _ HLE4.out)
    obtain ⟨pF, epF⟩ : ∃ q, (members en (s6.l.length + 1) ⟨v1, e0, false, v3, [], [], [], none, pl, pc⟩ s6).1 = q := ⟨_, rfl⟩
    obtain ⟨s7, es7⟩ : ∃ q, (members en (s6.l.length + 1) ⟨v1, e0, false, v3, [], [], [], none, pl, pc⟩ s6).2 = q := ⟨_, rfl⟩
    have hEF : class' en s = (pF, take en [125] s7) := by
      unfold class'
      simp only [HAT.out, cf0_mk, HE1.out, HE2.out.1, HE2.out.2, HE3.out, HQ.out,  if_true, if_false, Bool.false_eq_true, reduceIte, ev3, es5, es6, epF, es7]
    have HEF := Lib.hid hEF
    have HBR := Lib.hid (braced2_any en b s5 s7 110 [.pointer (some ⟨g1, 0, none⟩), .pointer (some ⟨sb, 0, none⟩)] (fun w' => Rc w' sb pF ∧ Tq b sb W7 w') W7 H7.out.pr (enters_of Tryz.func110 (by kernel_rfl) rfl) (fun w1 h1 t1 => by
      rw [es6] at h1
      have hc := (H7.out.call (s' := s6) h1 t1)
      refine (class1_any en b sb g1 s6 _ w1 h1 hc.ss (by rw [hle6.1]; exact HDD.out) (by have := hle6.len; simp; omega) (HB.out _ hc.tt).1).mono ?_
      rintro e3 w3 ⟨rfl, h3⟩
      rw [epF, es7] at h3
      exact ⟨rfl, ⟨h3.ss.rc, (Tq.of t1 (by simp)).trans h3.tt⟩, h3.pr⟩))
    clear es6 epF es7 hEF es5 ev3 hle6
    go_wp2_with fail
    refine HBR.out.mono ?_
    rintro e9 w9 ⟨rfl, w8, ⟨hrc, htq⟩, t9, h9⟩
    have HRC := Lib.hid (hrc.turn t9 (by simp; omega))
    have HP9 := Lib.hid h9
    have HTQ : Hid (Tq b sb W2 w9) := Lib.hid ((H7.out.tt.trans htq).trans (Tq.of t9 (by simp)))
    clear hrc htq t9 h9 HBR c7 k7 kf7
    obtain ⟨xnm, xsup, xface, xfs, xfd, xsc, xms, xini, xln, xcl⟩ := pF
    obtain ⟨V1, V2, V3, V4, V5, hrow, k1, k2, k3, k4, k5⟩ := HRC.out
    obtain ⟨P1, q1, rfl, _, _⟩ := id k1
    obtain ⟨P2, q2, rfl, _, _⟩ := id k2
    obtain ⟨P3, q3, rfl, _, _⟩ := id k3
    obtain ⟨P4, q4, rfl, _, _⟩ := id k4
    have hV5 : ∃ A, V5 = .pointer A := by
      cases hxi : xini with
      | none => simp only [hxi] at k5; exact ⟨_, k5⟩
      | some m => simp only [hxi] at k5; obtain ⟨g, cs, e, _⟩ := k5; exact ⟨_, e⟩
    obtain ⟨A5, rfl⟩ := hV5
    have hrw := (HB.out w9 HTQ.out).2
    have m0 : w9.cell? ⟨sb, 0, none⟩ = some (.string xnm) := cell_of_row w9 sb 0 _ _ _ hrow
    have m1 : w9.cell? ⟨sb, 1, none⟩ = some (.string xsup) := cell_of_row w9 sb 1 _ _ _ hrow
    have m2 : w9.cell? ⟨sb, 2, none⟩ = some (.bool xface) := cell_of_row w9 sb 2 _ _ _ hrow
    have m3 : w9.cell? ⟨sb, 3, none⟩ = some (.slice P1 xfs.length q1) := cell_of_row w9 sb 3 _ _ _ hrow
    have m4 : w9.cell? ⟨sb, 4, none⟩ = some (.slice P2 xfd.length q2) := cell_of_row w9 sb 4 _ _ _ hrow
    have m5 : w9.cell? ⟨sb, 5, none⟩ = some (.slice P3 xsc.length q3) := cell_of_row w9 sb 5 _ _ _ hrow
    have m6 : w9.cell? ⟨sb, 6, none⟩ = some (.slice P4 xms.length q4) := cell_of_row w9 sb 6 _ _ _ hrow
    have m7 : w9.cell? ⟨sb, 7, none⟩ = some (.pointer A5) := cell_of_row w9 sb 7 _ _ _ hrow
    have m8 : w9.cell? ⟨sb, 8, none⟩ = some (.int .i64 xln) := cell_of_row w9 sb 8 _ _ _ hrow
    have m9 : w9.cell? ⟨sb, 9, none⟩ = some (.int .i64 xcl) := cell_of_row w9 sb 9 _ _ _ hrow
    have zz0 : w9.cell? ⟨r, 0, none⟩ = some (.string ⟨#[]⟩) := cell_of_row w9 r 0 _ _ _ hrw
    have zf0 : w9.frozen? ⟨r, 0, none⟩ = false := frozen_of_row w9 r 0 _ _ hrw
    have zz1 : w9.cell? ⟨r, 1, none⟩ = some (.string ⟨#[]⟩) := cell_of_row w9 r 1 _ _ _ hrw
    have zf1 : w9.frozen? ⟨r, 1, none⟩ = false := frozen_of_row w9 r 1 _ _ hrw
    have zz2 : w9.cell? ⟨r, 2, none⟩ = some (.bool false) := cell_of_row w9 r 2 _ _ _ hrw
    have zf2 : w9.frozen? ⟨r, 2, none⟩ = false := frozen_of_row w9 r 2 _ _ hrw
    have zz3 : w9.cell? ⟨r, 3, none⟩ = some (.slice none 0 0) := cell_of_row w9 r 3 _ _ _ hrw
    have zf3 : w9.frozen? ⟨r, 3, none⟩ = false := frozen_of_row w9 r 3 _ _ hrw
    have zz4 : w9.cell? ⟨r, 4, none⟩ = some (.slice none 0 0) := cell_of_row w9 r 4 _ _ _ hrw
    have zf4 : w9.frozen? ⟨r, 4, none⟩ = false := frozen_of_row w9 r 4 _ _ hrw
    have zz5 : w9.cell? ⟨r, 5, none⟩ = some (.slice none 0 0) := cell_of_row w9 r 5 _ _ _ hrw
    have zf5 : w9.frozen? ⟨r, 5, none⟩ = false := frozen_of_row w9 r 5 _ _ hrw
    have zz6 : w9.cell? ⟨r, 6, none⟩ = some (.slice none 0 0) := cell_of_row w9 r 6 _ _ _ hrw
    have zf6 : w9.frozen? ⟨r, 6, none⟩ = false := frozen_of_row w9 r 6 _ _ hrw
    have zz7 : w9.cell? ⟨r, 7, none⟩ = some (.pointer none) := cell_of_row w9 r 7 _ _ _ hrw
    have zf7 : w9.frozen? ⟨r, 7, none⟩ = false := frozen_of_row w9 r 7 _ _ hrw
    have zz8 : w9.cell? ⟨r, 8, none⟩ = some (.int .i64 0) := cell_of_row w9 r 8 _ _ _ hrw
    have zf8 : w9.frozen? ⟨r, 8, none⟩ = false := frozen_of_row w9 r 8 _ _ hrw
    have zz9 : w9.cell? ⟨r, 9, none⟩ = some (.int .i64 0) := cell_of_row w9 r 9 _ _ _ hrw
    have zf9 : w9.frozen? ⟨r, 9, none⟩ = false := frozen_of_row w9 r 9 _ _ hrw
    have HK := Lib.hid (And.intro k1 (And.intro k2 (And.intro k3 (And.intro k4 k5))))
    clear hrow hrw k1 k2 k3 k4 k5
    go_wp2_with fail
    refine bodyPost_ret (v := .agg #[.string xnm, .string xsup, .bool xface, .slice P1 xfs.length q1, .slice P2 xfd.length q2, .slice P3 xsc.length q3, .slice P4 xms.length q4, .pointer A5, .int .i64 xln, .int .i64 xcl]) (by simp [results, Tryz.results84, go_sem, zz0, zz1, zz2, zz3, zz4, zz5, zz6, zz7, zz8, zz9]) rfl ?_
    rw [HEF.out]
    have key : ∀ W', Turn [r] w9 W' → ∃ cs : List Value, Ending.returned (.agg #[.string xnm, .string xsup, .bool xface, .slice P1 xfs.length q1, .slice P2 xfd.length q2, .slice P3 xsc.length q3, .slice P4 xms.length q4, .pointer A5, .int .i64 xln, .int .i64 xcl]) = Ending.returned (.agg cs.toArray) ∧ RdC (fun g => w.heap.size ≤ g) W' cs ⟨xnm, xsup, xface, xfs, xfd, xsc, xms, xini, xln, xcl⟩ ∧ Pr en W' b (take en [125] s7) ∧ Turn [b] w W' := fun W' tE => by
      obtain ⟨F, tF, hF⟩ := HTQ.out
      have hwsb : w.heap.size ≤ sb := by have := HG.out; omega
      refine ⟨[.string xnm, .string xsup, .bool xface, .slice P1 xfs.length q1, .slice P2 xfd.length q2, .slice P3 xsc.length q3, .slice P4 xms.length q4, .pointer A5, .int .i64 xln, .int .i64 xcl], rfl, goodC.mono (goodC.turn (show RdC (fun g => sb < g) w9 [.string xnm, .string xsup, .bool xface, .slice P1 xfs.length q1, .slice P2 xfd.length q2, .slice P3 xsc.length q3, .slice P4 xms.length q4, .pointer A5, .int .i64 xln, .int .i64 xcl] ⟨xnm, xsup, xface, xfs, xfd, xsc, xms, xini, xln, xcl⟩ from ⟨_, _, _, _, _, rfl, HK.out.1, HK.out.2.1, HK.out.2.2.1, HK.out.2.2.2.1, HK.out.2.2.2.2⟩) tE (fun g hg h => by simp at hg; omega)) (fun g hg _ => by omega), HP9.out.turn tE (by simp; omega), ?_⟩
      refine (((HT2.out.more (by simp)).trans tF (fun g hg => ?_)).trans tE (fun g hg => by have := HG.out; simp at hg; omega))
      rcases hF g hg with h | h
      · exact .inl (by simp [h])
      · exact .inr (by have := HG.out; omega)
    exact key _ (((((((((((Turn.refl [r] w9).setCell (.inl (by simp)) _).setCell (.inl (by simp)) _).setCell (.inl (by simp)) _).setCell (.inl (by simp)) _).setCell (.inl (by simp)) _).setCell (.inl (by simp)) _).setCell (.inl (by simp)) _).setCell (.inl (by simp)) _).setCell (.inl (by simp)) _).setCell (.inl (by simp)) _)
  | true =>
    have HQ := Lib.hid hq
    clear hq
    go_wp2_with fail
    refine (pName_any en b s3 _ H5.out.pr).mono ?_
    rintro e6 w6 ⟨rfl, h6, t6⟩
    have H6a := Lib.hid (H5.out.call h6 t6)
    obtain ⟨v2, ev2⟩ : ∃ q, (name en s3).1 = q := ⟨_, rfl⟩
    obtain ⟨s4, es4⟩ : ∃ q, (name en s3).2 = q := ⟨_, rfl⟩
    rw [es4] at H6a
    rw [ev2]
    have HLE4 : Hid (Le s s4) := Lib.hid (by rw [← es4]; exact name_le HLE.out)
    have HE4 := Lib.hid (And.intro ev2 es4)
    obtain ⟨Y1, Y2, Y3, Y4, Y5, hcc, hff⟩ := H6a.out.ss.cells
    have k6 : w6.cell? ⟨sb, 1, none⟩ = some (.string e0) := hcc 1
    have kf6 : w6.frozen? ⟨sb, 1, none⟩ = false := hff 1
    have H6 : Hid (StC en W2 (w6.setCell ⟨sb, 1, none⟩ (.string v2)) b sb s4 ⟨v1, v2, false, [], [], [], [], none, pl, pc⟩) := Lib.hid (H6a.out.set_sup v2)
    have c6 := (HB.out _ H6.out.tt).1
    obtain ⟨W6, hW6⟩ : ∃ W, w6.setCell ⟨sb, 1, none⟩ (.string v2) = W := ⟨_, rfl⟩
    rw [hW6] at H6 c6
    have HW6 := Lib.hid hW6
    clear hW6 hcc hff h6 t6 ev2 es4 c5
    go_upto_region 6 with (fail)
    rw [HW6.out]
    clear k6 kf6
    obtain ⟨s5, es5⟩ : ∃ q, (faces en kImpl s4).2 = q := ⟨_, rfl⟩
    obtain ⟨v3, ev3⟩ : ∃ q, (faces en kImpl s4).1 = q := ⟨_, rfl⟩
    go_wp2_with fail
    refine (faces_any en b s4 kImpl ⟨#[105, 109, 112, 108, 101, 109, 101, 110, 116, 115]⟩ rfl W6 H6.out.pr).mono ?_
    rintro e7 w7 ⟨V, rfl, hv, h7, t7⟩
    rw [ev3] at hv
    rw [es5] at h7
    obtain ⟨Pv, qv, rfl, _, _⟩ := id hv
    have H7 := Lib.hid (H6.out.call_fs h7 t7 hv)
    have hc7 := H6.out.call h7 t7
    obtain ⟨X1, X2, X3, X4, X5, hcc, hff⟩ := hc7.ss.cells
    have k7 : w7.cell? ⟨sb, 3, none⟩ = some X1 := hcc 3
    have kf7 : w7.frozen? ⟨sb, 3, none⟩ = false := hff 3
    have c7 := (HB.out _ H7.out.tt).1
    obtain ⟨W7, hW7⟩ : ∃ W7, w7.setCell ⟨sb, 3, none⟩ (.slice Pv v3.length qv) = W7 := ⟨_, rfl⟩
    rw [hW7] at H7 c7
    have HW7 := Lib.hid hW7
    clear hW7 hcc hff hc7 hv h7 t7 c6
    go_upto_region 7 with (fail)
    rw [HW7.out]
    obtain ⟨s6, es6⟩ : ∃ q, take en [123] s5 = q := ⟨_, rfl⟩
    have hle6 : Le s s6 := by
      rw [← es6, ← es5]
      exact take_le _ (faces_le _ HLE4.out)
    obtain ⟨pF, epF⟩ : ∃ q, (members en (s6.l.length + 1) ⟨v1, v2, false, v3, [], [], [], none, pl, pc⟩ s6).1 = q := ⟨_, rfl⟩
    obtain ⟨s7, es7⟩ : ∃ q, (members en (s6.l.length + 1) ⟨v1, v2, false, v3, [], [], [], none, pl, pc⟩ s6).2 = q := ⟨_, rfl⟩
    have hEF : class' en s = (pF, take en [125] s7) := by
      unfold class'
      simp only [HAT.out, cf0_mk, HE1.out, HE2.out.1, HE2.out.2, HE3.out, HQ.out, HE4.out.1, HE4.out.2,  if_true, if_false, Bool.false_eq_true, reduceIte, ev3, es5, es6, epF, es7]
    have HEF := Lib.hid hEF
    have HBR := Lib.hid (braced2_any en b s5 s7 110 [.pointer (some ⟨g1, 0, none⟩), .pointer (some ⟨sb, 0, none⟩)] (fun w' => Rc w' sb pF ∧ Tq b sb W7 w') W7 H7.out.pr (enters_of Tryz.func110 (by kernel_rfl) rfl) (fun w1 h1 t1 => by
      rw [es6] at h1
      have hc := (H7.out.call (s' := s6) h1 t1)
      refine (class1_any en b sb g1 s6 _ w1 h1 hc.ss (by rw [hle6.1]; exact HDD.out) (by have := hle6.len; simp; omega) (HB.out _ hc.tt).1).mono ?_
      rintro e3 w3 ⟨rfl, h3⟩
      rw [epF, es7] at h3
      exact ⟨rfl, ⟨h3.ss.rc, (Tq.of t1 (by simp)).trans h3.tt⟩, h3.pr⟩))
    clear es6 epF es7 hEF es5 ev3 hle6
    go_wp2_with fail
    refine HBR.out.mono ?_
    rintro e9 w9 ⟨rfl, w8, ⟨hrc, htq⟩, t9, h9⟩
    have HRC := Lib.hid (hrc.turn t9 (by simp; omega))
    have HP9 := Lib.hid h9
    have HTQ : Hid (Tq b sb W2 w9) := Lib.hid ((H7.out.tt.trans htq).trans (Tq.of t9 (by simp)))
    clear hrc htq t9 h9 HBR c7 k7 kf7
    obtain ⟨xnm, xsup, xface, xfs, xfd, xsc, xms, xini, xln, xcl⟩ := pF
    obtain ⟨V1, V2, V3, V4, V5, hrow, k1, k2, k3, k4, k5⟩ := HRC.out
    obtain ⟨P1, q1, rfl, _, _⟩ := id k1
    obtain ⟨P2, q2, rfl, _, _⟩ := id k2
    obtain ⟨P3, q3, rfl, _, _⟩ := id k3
    obtain ⟨P4, q4, rfl, _, _⟩ := id k4
    have hV5 : ∃ A, V5 = .pointer A := by
      cases hxi : xini with
      | none => simp only [hxi] at k5; exact ⟨_, k5⟩
      | some m => simp only [hxi] at k5; obtain ⟨g, cs, e, _⟩ := k5; exact ⟨_, e⟩
    obtain ⟨A5, rfl⟩ := hV5
    have hrw := (HB.out w9 HTQ.out).2
    have m0 : w9.cell? ⟨sb, 0, none⟩ = some (.string xnm) := cell_of_row w9 sb 0 _ _ _ hrow
    have m1 : w9.cell? ⟨sb, 1, none⟩ = some (.string xsup) := cell_of_row w9 sb 1 _ _ _ hrow
    have m2 : w9.cell? ⟨sb, 2, none⟩ = some (.bool xface) := cell_of_row w9 sb 2 _ _ _ hrow
    have m3 : w9.cell? ⟨sb, 3, none⟩ = some (.slice P1 xfs.length q1) := cell_of_row w9 sb 3 _ _ _ hrow
    have m4 : w9.cell? ⟨sb, 4, none⟩ = some (.slice P2 xfd.length q2) := cell_of_row w9 sb 4 _ _ _ hrow
    have m5 : w9.cell? ⟨sb, 5, none⟩ = some (.slice P3 xsc.length q3) := cell_of_row w9 sb 5 _ _ _ hrow
    have m6 : w9.cell? ⟨sb, 6, none⟩ = some (.slice P4 xms.length q4) := cell_of_row w9 sb 6 _ _ _ hrow
    have m7 : w9.cell? ⟨sb, 7, none⟩ = some (.pointer A5) := cell_of_row w9 sb 7 _ _ _ hrow
    have m8 : w9.cell? ⟨sb, 8, none⟩ = some (.int .i64 xln) := cell_of_row w9 sb 8 _ _ _ hrow
    have m9 : w9.cell? ⟨sb, 9, none⟩ = some (.int .i64 xcl) := cell_of_row w9 sb 9 _ _ _ hrow
    have zz0 : w9.cell? ⟨r, 0, none⟩ = some (.string ⟨#[]⟩) := cell_of_row w9 r 0 _ _ _ hrw
    have zf0 : w9.frozen? ⟨r, 0, none⟩ = false := frozen_of_row w9 r 0 _ _ hrw
    have zz1 : w9.cell? ⟨r, 1, none⟩ = some (.string ⟨#[]⟩) := cell_of_row w9 r 1 _ _ _ hrw
    have zf1 : w9.frozen? ⟨r, 1, none⟩ = false := frozen_of_row w9 r 1 _ _ hrw
    have zz2 : w9.cell? ⟨r, 2, none⟩ = some (.bool false) := cell_of_row w9 r 2 _ _ _ hrw
    have zf2 : w9.frozen? ⟨r, 2, none⟩ = false := frozen_of_row w9 r 2 _ _ hrw
    have zz3 : w9.cell? ⟨r, 3, none⟩ = some (.slice none 0 0) := cell_of_row w9 r 3 _ _ _ hrw
    have zf3 : w9.frozen? ⟨r, 3, none⟩ = false := frozen_of_row w9 r 3 _ _ hrw
    have zz4 : w9.cell? ⟨r, 4, none⟩ = some (.slice none 0 0) := cell_of_row w9 r 4 _ _ _ hrw
    have zf4 : w9.frozen? ⟨r, 4, none⟩ = false := frozen_of_row w9 r 4 _ _ hrw
    have zz5 : w9.cell? ⟨r, 5, none⟩ = some (.slice none 0 0) := cell_of_row w9 r 5 _ _ _ hrw
    have zf5 : w9.frozen? ⟨r, 5, none⟩ = false := frozen_of_row w9 r 5 _ _ hrw
    have zz6 : w9.cell? ⟨r, 6, none⟩ = some (.slice none 0 0) := cell_of_row w9 r 6 _ _ _ hrw
    have zf6 : w9.frozen? ⟨r, 6, none⟩ = false := frozen_of_row w9 r 6 _ _ hrw
    have zz7 : w9.cell? ⟨r, 7, none⟩ = some (.pointer none) := cell_of_row w9 r 7 _ _ _ hrw
    have zf7 : w9.frozen? ⟨r, 7, none⟩ = false := frozen_of_row w9 r 7 _ _ hrw
    have zz8 : w9.cell? ⟨r, 8, none⟩ = some (.int .i64 0) := cell_of_row w9 r 8 _ _ _ hrw
    have zf8 : w9.frozen? ⟨r, 8, none⟩ = false := frozen_of_row w9 r 8 _ _ hrw
    have zz9 : w9.cell? ⟨r, 9, none⟩ = some (.int .i64 0) := cell_of_row w9 r 9 _ _ _ hrw
    have zf9 : w9.frozen? ⟨r, 9, none⟩ = false := frozen_of_row w9 r 9 _ _ hrw
    have HK := Lib.hid (And.intro k1 (And.intro k2 (And.intro k3 (And.intro k4 k5))))
    clear hrow hrw k1 k2 k3 k4 k5
    go_wp2_with fail
    refine bodyPost_ret (v := .agg #[.string xnm, .string xsup, .bool xface, .slice P1 xfs.length q1, .slice P2 xfd.length q2, .slice P3 xsc.length q3, .slice P4 xms.length q4, .pointer A5, .int .i64 xln, .int .i64 xcl]) (by simp [results, Tryz.results84, go_sem, zz0, zz1, zz2, zz3, zz4, zz5, zz6, zz7, zz8, zz9]) rfl ?_
    rw [HEF.out]
    have key : ∀ W', Turn [r] w9 W' → ∃ cs : List Value, Ending.returned (.agg #[.string xnm, .string xsup, .bool xface, .slice P1 xfs.length q1, .slice P2 xfd.length q2, .slice P3 xsc.length q3, .slice P4 xms.length q4, .pointer A5, .int .i64 xln, .int .i64 xcl]) = Ending.returned (.agg cs.toArray) ∧ RdC (fun g => w.heap.size ≤ g) W' cs ⟨xnm, xsup, xface, xfs, xfd, xsc, xms, xini, xln, xcl⟩ ∧ Pr en W' b (take en [125] s7) ∧ Turn [b] w W' := fun W' tE => by
      obtain ⟨F, tF, hF⟩ := HTQ.out
      have hwsb : w.heap.size ≤ sb := by have := HG.out; omega
      refine ⟨[.string xnm, .string xsup, .bool xface, .slice P1 xfs.length q1, .slice P2 xfd.length q2, .slice P3 xsc.length q3, .slice P4 xms.length q4, .pointer A5, .int .i64 xln, .int .i64 xcl], rfl, goodC.mono (goodC.turn (show RdC (fun g => sb < g) w9 [.string xnm, .string xsup, .bool xface, .slice P1 xfs.length q1, .slice P2 xfd.length q2, .slice P3 xsc.length q3, .slice P4 xms.length q4, .pointer A5, .int .i64 xln, .int .i64 xcl] ⟨xnm, xsup, xface, xfs, xfd, xsc, xms, xini, xln, xcl⟩ from ⟨_, _, _, _, _, rfl, HK.out.1, HK.out.2.1, HK.out.2.2.1, HK.out.2.2.2.1, HK.out.2.2.2.2⟩) tE (fun g hg h => by simp at hg; omega)) (fun g hg _ => by omega), HP9.out.turn tE (by simp; omega), ?_⟩
      refine (((HT2.out.more (by simp)).trans tF (fun g hg => ?_)).trans tE (fun g hg => by have := HG.out; simp at hg; omega))
      rcases hF g hg with h | h
      · exact .inl (by simp [h])
      · exact .inr (by have := HG.out; omega)
    exact key _ (((((((((((Turn.refl [r] w9).setCell (.inl (by simp)) _).setCell (.inl (by simp)) _).setCell (.inl (by simp)) _).setCell (.inl (by simp)) _).setCell (.inl (by simp)) _).setCell (.inl (by simp)) _).setCell (.inl (by simp)) _).setCell (.inl (by simp)) _).setCell (.inl (by simp)) _).setCell (.inl (by simp)) _)
end Go.Proofs.YtnmhcgkccchacaaGreatDoor
