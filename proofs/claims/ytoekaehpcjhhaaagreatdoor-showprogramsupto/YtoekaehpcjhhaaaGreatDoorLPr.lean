/- ShowPrograms, walked. -/
import Derived.Test.YtoekaehpcjhhaaaGreatDoorPfa
import Derived.Test.YtoekaehpcjhhaaaGreatDoorPsm
import Derived.Test.YtoekaehpcjhhaaaGreatDoorAwk
import Derived.Test.YtoekaehpcjhhaaaGreatDoorAns
set_option linter.unusedSimpArgs false
set_option linter.unusedVariables false
namespace Go.Proofs.YtoekaehpcjhhaaaGreatDoor
open Go.RowKit

/-- What Same asks of a program's rows. -/
theorem good_rows {p : Pr} (g : Good p) : (∀ r ∈ prgR p, r.2.size ≤ 40000000 ∧ r.1 ≤ 10000000) ∧ (lns (prgR p)).length ≤ 4000000000000 ∧ (∀ r ∈ prgR p, r.1 ≤ 10000000) ∧ (txL (prgR p)).length ≤ 100000000000000 := by
  have h := prgR_facts g.ft g.tg
  have h2 := lns_le (prgR p)
  have h3 := h.2
  exact ⟨fun r hr => ⟨(h.1 r hr).1, by have := (h.1 r hr).2; omega⟩, by omega, fun r hr => by have := (h.1 r hr).2; omega, by omega⟩

set_option maxHeartbeats 32000000 in
set_option maxRecDepth 100000 in
theorem programs_law (ca cb : List Value) (p q : Pr) (m : Int) (w : World) (hp : RdP w.heap.size w ca p) (hq : RdP w.heap.size w cb q) (bp : BkP p) (bq : BkP q) (hE : Env w.heap.size w) (hm : w.cell? ⟨0, 0, none⟩ = some (.int .i64 m)) :
    Calls Tryz.prog 3 #[.agg ca.toArray, .agg cb.toArray] w fun e w' => e = .returned (.bool true) ∧ Turn [] w w' := by
  have hp0 := hp
  have hq0 := hq
  obtain ⟨A0, c0, mc, rfl, _, hmn⟩ := hp
  obtain ⟨A1, A1c, A2, A2c, A3, A3c, px, py, rfl, _, _, _⟩ := hmn
  obtain ⟨B0, d0, mc2, rfl, _, hmn2⟩ := hq
  obtain ⟨B1, B1c, B2, B2c, B3, B3c, qx, qy, rfl, _, _, _⟩ := hmn2
  have tA : Turn [] w ((w.alloc (.cells #[.slice A0 p.cs.length c0, .string p.main.ret, .string p.main.name, .bool p.main.stat, .bool p.main.bare, .slice A1 p.main.ps.length A1c, .slice A2 p.main.ls.length A2c, .slice A3 p.main.bd.length A3c, .int .i64 px, .int .i64 py] 30)).alloc (.cells #[.slice B0 q.cs.length d0, .string q.main.ret, .string q.main.name, .bool q.main.stat, .bool q.main.bare, .slice B1 q.main.ps.length B1c, .slice B2 q.main.ls.length B2c, .slice B3 q.main.bd.length B3c, .int .i64 qx, .int .i64 qy] 30)) := ((Turn.refl [] w).alloc _).alloc _
  obtain ⟨W, hW⟩ : ∃ W, (w.alloc (.cells #[.slice A0 p.cs.length c0, .string p.main.ret, .string p.main.name, .bool p.main.stat, .bool p.main.bare, .slice A1 p.main.ps.length A1c, .slice A2 p.main.ls.length A2c, .slice A3 p.main.bd.length A3c, .int .i64 px, .int .i64 py] 30)).alloc (.cells #[.slice B0 q.cs.length d0, .string q.main.ret, .string q.main.name, .bool q.main.stat, .bool q.main.bare, .slice B1 q.main.ps.length B1c, .slice B2 q.main.ls.length B2c, .slice B3 q.main.bd.length B3c, .int .i64 qx, .int .i64 qy] 30) = W := ⟨_, rfl⟩
  have hg1 : W.heap[w.heap.size]? = some (.cells #[.slice A0 p.cs.length c0, .string p.main.ret, .string p.main.name, .bool p.main.stat, .bool p.main.bare, .slice A1 p.main.ps.length A1c, .slice A2 p.main.ls.length A2c, .slice A3 p.main.bd.length A3c, .int .i64 px, .int .i64 py] 30 (0, 0)) := by
    rw [← hW]
    exact ((Turn.refl [] _).alloc _).heap (heap_alloc_new w _) (by simp)
  have hg2 : W.heap[w.heap.size + 1]? = some (.cells #[.slice B0 q.cs.length d0, .string q.main.ret, .string q.main.name, .bool q.main.stat, .bool q.main.bare, .slice B1 q.main.ps.length B1c, .slice B2 q.main.ls.length B2c, .slice B3 q.main.bd.length B3c, .int .i64 qx, .int .i64 qy] 30 (0, 0)) := by
    rw [← hW]
    have := heap_alloc_new (w.alloc (.cells #[.slice A0 p.cs.length c0, .string p.main.ret, .string p.main.name, .bool p.main.stat, .bool p.main.bare, .slice A1 p.main.ps.length A1c, .slice A2 p.main.ls.length A2c, .slice A3 p.main.bd.length A3c, .int .i64 px, .int .i64 py] 30)) (.cells #[.slice B0 q.cs.length d0, .string q.main.ret, .string q.main.name, .bool q.main.stat, .bool q.main.bare, .slice B1 q.main.ps.length B1c, .slice B2 q.main.ls.length B2c, .slice B3 q.main.bd.length B3c, .int .i64 qx, .int .i64 qy] 30)
    rwa [World.size_alloc] at this
  rw [hW] at tA
  have HAw := Lib.hid (fun w1 (t1 : Turn [] W w1) => awake_any w.heap.size w1 (hE.turn (tA.trans' t1) (by simp)))
  have HSp := Lib.hid (fun w1 (t1 : Turn [] W w1) => lsmall_any w.heap.size _ p w1 (hp0.turn (tA.trans' t1) (by simp)) bp.ok)
  have HSq := Lib.hid (fun w1 (t1 : Turn [] W w1) => lsmall_any w.heap.size _ q w1 (hq0.turn (tA.trans' t1) (by simp)) bq.ok)
  have HRp := Lib.hid (fun w1 (t1 : Turn [] W w1) (g : Good p) => rprogram_any w.heap.size _ p w1 (hp0.turn (tA.trans' t1) (by simp)) (tA.trans' t1).size g.ft g.tg g.cs g.main)
  have HRq := Lib.hid (fun w1 (t1 : Turn [] W w1) (g : Good q) => rprogram_any w.heap.size _ q w1 (hq0.turn (tA.trans' t1) (by simp)) (tA.trans' t1).size g.ft g.tg g.cs g.main)
  have HPp := Lib.hid (fun w1 (t1 : Turn [] W w1) (g : Good p) => program_any w.heap.size _ p w1 (hp0.turn (tA.trans' t1) (by simp)) (hE.turn (tA.trans' t1) (by simp)) g.ft (good_rows g).2.2.1 (good_rows g).2.2.2)
  have HM := Lib.hid (fun w1 (t1 : Turn [] W w1) => (((tA.trans' t1).cell (p := ⟨0, 0, none⟩) (cell_lt hm) (by simp)).trans hm))
  have HPQ := Lib.hid (fun w1 (t1 : Turn [] W w1) (g : Good p) (g2 : Good q) => same_any w.heap.size _ _ p q m w1 (hp0.turn (tA.trans' t1) (by simp)) (hq0.turn (tA.trans' t1) (by simp)) (hE.turn (tA.trans' t1) (by simp)) g.ft g2.ft (HM.out w1 t1) (good_rows g).1 (good_rows g2).1 (good_rows g).2.1 (good_rows g2).2.1)
  have HQQ := Lib.hid (fun w1 (t1 : Turn [] W w1) (g2 : Good q) => same_any w.heap.size _ _ q q m w1 (hq0.turn (tA.trans' t1) (by simp)) (hq0.turn (tA.trans' t1) (by simp)) (hE.turn (tA.trans' t1) (by simp)) g2.ft g2.ft (HM.out w1 t1) (good_rows g2).1 (good_rows g2).1 (good_rows g2).2.1 (good_rows g2).2.1)
  have HGp := Lib.hid (fun (h : smP p = true) => good_of h bp)
  have HGq := Lib.hid (fun (h : smP q = true) => good_of h bq)
  obtain ⟨pnc, hpnc⟩ : ∃ z, p.cs.length = z := ⟨_, rfl⟩
  obtain ⟨pr, hpr⟩ : ∃ z, p.main.ret = z := ⟨_, rfl⟩
  obtain ⟨pn, hpn⟩ : ∃ z, p.main.name = z := ⟨_, rfl⟩
  obtain ⟨ps, hps⟩ : ∃ z, p.main.stat = z := ⟨_, rfl⟩
  obtain ⟨pb, hpb⟩ : ∃ z, p.main.bare = z := ⟨_, rfl⟩
  obtain ⟨pnp, hpnp⟩ : ∃ z, p.main.ps.length = z := ⟨_, rfl⟩
  obtain ⟨pnl, hpnl⟩ : ∃ z, p.main.ls.length = z := ⟨_, rfl⟩
  obtain ⟨pnb, hpnb⟩ : ∃ z, p.main.bd.length = z := ⟨_, rfl⟩
  obtain ⟨qnc, hqnc⟩ : ∃ z, q.cs.length = z := ⟨_, rfl⟩
  obtain ⟨qr, hqr⟩ : ∃ z, q.main.ret = z := ⟨_, rfl⟩
  obtain ⟨qn, hqn⟩ : ∃ z, q.main.name = z := ⟨_, rfl⟩
  obtain ⟨qs, hqs⟩ : ∃ z, q.main.stat = z := ⟨_, rfl⟩
  obtain ⟨qb, hqb⟩ : ∃ z, q.main.bare = z := ⟨_, rfl⟩
  obtain ⟨qnp, hqnp⟩ : ∃ z, q.main.ps.length = z := ⟨_, rfl⟩
  obtain ⟨qnl, hqnl⟩ : ∃ z, q.main.ls.length = z := ⟨_, rfl⟩
  obtain ⟨qnb, hqnb⟩ : ∃ z, q.main.bd.length = z := ⟨_, rfl⟩
  rw [hpnc, hpr, hpn, hps, hpb, hpnp, hpnl, hpnb] at HSp HRp HPp hg1
  rw [hqnc, hqr, hqn, hqs, hqb, hqnp, hqnl, hqnb] at HSq HRq HQQ hg2
  rw [hpnc, hpr, hpn, hps, hpb, hpnp, hpnl, hpnb, hqnc, hqr, hqn, hqs, hqb, hqnp, hqnl, hqnb] at HPQ
  rw [hpnc, hpr, hpn, hps, hpb, hpnp, hpnl, hpnb, hqnc, hqr, hqn, hqs, hqb, hqnp, hqnl, hqnb] at hW ⊢
  have hce : ∀ w', Turn [] W w' → w'.cell? ⟨w.heap.size, 0, none⟩ = some (.slice A0 pnc c0) ∧ w'.cell? ⟨w.heap.size, 1, none⟩ = some (.string pr) ∧ w'.cell? ⟨w.heap.size, 2, none⟩ = some (.string pn) ∧ w'.cell? ⟨w.heap.size, 3, none⟩ = some (.bool ps) ∧ w'.cell? ⟨w.heap.size, 4, none⟩ = some (.bool pb) ∧ w'.cell? ⟨w.heap.size, 5, none⟩ = some (.slice A1 pnp A1c) ∧ w'.cell? ⟨w.heap.size, 6, none⟩ = some (.slice A2 pnl A2c) ∧ w'.cell? ⟨w.heap.size, 7, none⟩ = some (.slice A3 pnb A3c) ∧ w'.cell? ⟨w.heap.size, 8, none⟩ = some (.int .i64 px) ∧ w'.cell? ⟨w.heap.size, 9, none⟩ = some (.int .i64 py) ∧ w'.cell? ⟨w.heap.size + 1, 0, none⟩ = some (.slice B0 qnc d0) ∧ w'.cell? ⟨w.heap.size + 1, 1, none⟩ = some (.string qr) ∧ w'.cell? ⟨w.heap.size + 1, 2, none⟩ = some (.string qn) ∧ w'.cell? ⟨w.heap.size + 1, 3, none⟩ = some (.bool qs) ∧ w'.cell? ⟨w.heap.size + 1, 4, none⟩ = some (.bool qb) ∧ w'.cell? ⟨w.heap.size + 1, 5, none⟩ = some (.slice B1 qnp B1c) ∧ w'.cell? ⟨w.heap.size + 1, 6, none⟩ = some (.slice B2 qnl B2c) ∧ w'.cell? ⟨w.heap.size + 1, 7, none⟩ = some (.slice B3 qnb B3c) ∧ w'.cell? ⟨w.heap.size + 1, 8, none⟩ = some (.int .i64 qx) ∧ w'.cell? ⟨w.heap.size + 1, 9, none⟩ = some (.int .i64 qy) := fun w' ht => by
    have h1 : ∀ (i : Nat) (v : Value), (#[.slice A0 pnc c0, .string pr, .string pn, .bool ps, .bool pb, .slice A1 pnp A1c, .slice A2 pnl A2c, .slice A3 pnb A3c, .int .i64 px, .int .i64 py] : Array Value)[i]? = some v → w'.cell? ⟨w.heap.size, i, none⟩ = some v := fun i v hv => (cell_of_row w' _ i _ _ _ (ht.heap hg1 (by simp))).trans hv
    have h2 : ∀ (i : Nat) (v : Value), (#[.slice B0 qnc d0, .string qr, .string qn, .bool qs, .bool qb, .slice B1 qnp B1c, .slice B2 qnl B2c, .slice B3 qnb B3c, .int .i64 qx, .int .i64 qy] : Array Value)[i]? = some v → w'.cell? ⟨w.heap.size + 1, i, none⟩ = some v := fun i v hv => (cell_of_row w' _ i _ _ _ (ht.heap hg2 (by simp))).trans hv
    exact ⟨h1 0 _ rfl, h1 1 _ rfl, h1 2 _ rfl, h1 3 _ rfl, h1 4 _ rfl, h1 5 _ rfl, h1 6 _ rfl, h1 7 _ rfl, h1 8 _ rfl, h1 9 _ rfl, h2 0 _ rfl, h2 1 _ rfl, h2 2 _ rfl, h2 3 _ rfl, h2 4 _ rfl, h2 5 _ rfl, h2 6 _ rfl, h2 7 _ rfl, h2 8 _ rfl, h2 9 _ rfl⟩
  have HCe := Lib.hid hce
  have HT := Lib.hid tA
  have HW := Lib.hid hW
  have HIff := Lib.hid (tx_iff (prgR p) (prgR q))
  obtain ⟨R1, hR1⟩ : ∃ R, prgR p = R := ⟨_, rfl⟩
  obtain ⟨R2, hR2⟩ : ∃ R, prgR q = R := ⟨_, rfl⟩
  rw [hR1] at HRp HPp HPQ
  rw [hR2] at HRq HPQ HQQ
  rw [hR1, hR2] at HIff
  obtain ⟨ZP, hZP⟩ : ∃ z, mk (txL R1) = z := ⟨_, rfl⟩
  obtain ⟨ZQ, hZQ⟩ : ∃ z, mk (txL R2) = z := ⟨_, rfl⟩
  rw [hZP] at HRp HPp
  rw [hZQ] at HRq
  rw [hZP, hZQ] at HIff
  have hQ1 : decide (lns R2 = lns R2) = true := by simp
  rw [hQ1] at HQQ
  obtain ⟨V, hV⟩ : ∃ V, decide (lns R1 = lns R2) = V := ⟨_, rfl⟩
  rw [hV] at HPQ
  have HV : Hid ((V = true ∧ ZP = ZQ) ∨ (V = false ∧ ¬ ZP = ZQ)) := Lib.hid (by
    by_cases h : lns R1 = lns R2
    · exact .inl ⟨by rw [← hV]; simp [h], HIff.out.1 h⟩
    · exact .inr ⟨by rw [← hV]; simp [h], fun e => h (HIff.out.2 e)⟩)
  obtain ⟨vp, hvp⟩ : ∃ v, smP p = v := ⟨_, rfl⟩
  obtain ⟨vq, hvq⟩ : ∃ v, smP q = v := ⟨_, rfl⟩
  rw [hvp] at HSp HGp
  rw [hvq] at HSq HGq
  clear hp0 hq0 hE bp bq hm tA hW hg1 hg2 hce hR1 hR2 hV hvp hvq hZP hZQ hQ1 HIff hpnc hpr hpn hps hpb hpnp hpnl hpnb hqnc hqr hqn hqs hqb hqnp hqnl hqnb
  go_enter Tryz.func3, Tryz.ntmps3
  go_wp2_with fail
  rw [HW.out]
  refine (HAw.out W (Turn.refl _ _)).mono ?_
  rintro e w1 ⟨rfl, t1⟩
  have HT1 := Lib.hid t1
  obtain ⟨a0, a1, a2, a3, a4, a5, a6, a7, a8, a9, aq0, aq1, aq2, aq3, aq4, aq5, aq6, aq7, aq8, aq9⟩ := HCe.out w1 t1
  clear t1
  go_wp2_with fail
  refine (HSp.out w1 HT1.out).mono ?_
  rintro e w2 ⟨rfl, t2⟩
  have HT2 := Lib.hid (HT1.out.trans' t2)
  clear t2 a0 a1 a2 a3 a4 a5 a6 a7 a8 a9 aq0 aq1 aq2 aq3 aq4 aq5 aq6 aq7 aq8 aq9
  cases vp with
  | false =>
    go_wp2_with fail
    refine (HAw.out w2 HT2.out).mono ?_
    rintro e w3 ⟨rfl, t3⟩
    have HT3 := Lib.hid (HT2.out.trans' t3)
    clear t3
    go_wp2_with fail
    go_ret
    exact ⟨rfl, HT.out.trans' HT3.out⟩
  | true =>
    have HG1 := Lib.hid (HGp.out rfl)
    obtain ⟨a0, a1, a2, a3, a4, a5, a6, a7, a8, a9, aq0, aq1, aq2, aq3, aq4, aq5, aq6, aq7, aq8, aq9⟩ := HCe.out w2 HT2.out
    go_wp2_with fail
    refine (HSq.out w2 HT2.out).mono ?_
    rintro e w3 ⟨rfl, t3⟩
    have HT3 := Lib.hid (HT2.out.trans' t3)
    clear t3 a0 a1 a2 a3 a4 a5 a6 a7 a8 a9 aq0 aq1 aq2 aq3 aq4 aq5 aq6 aq7 aq8 aq9
    cases vq with
    | false =>
      go_wp2_with fail
      refine (HAw.out w3 HT3.out).mono ?_
      rintro e w4 ⟨rfl, t4⟩
      have HT4 := Lib.hid (HT3.out.trans' t4)
      clear t4
      go_wp2_with fail
      go_ret
      exact ⟨rfl, HT.out.trans' HT4.out⟩
    | true =>
      have HG2 := Lib.hid (HGq.out rfl)
      go_upto_region 3 with fail
      obtain ⟨m0, m1, m2, m3, m4, m5, m6, m7, m8, m9, mq0, mq1, mq2, mq3, mq4, mq5, mq6, mq7, mq8, mq9⟩ := HCe.out w3 HT3.out
      go_region_held3 (fun w' => w'.cell? ⟨w.heap.size, 0, none⟩ = some (.slice A0 pnc c0) ∧ w'.cell? ⟨w.heap.size, 1, none⟩ = some (.string pr) ∧ w'.cell? ⟨w.heap.size, 2, none⟩ = some (.string pn) ∧ w'.cell? ⟨w.heap.size, 3, none⟩ = some (.bool ps) ∧ w'.cell? ⟨w.heap.size, 4, none⟩ = some (.bool pb) ∧ w'.cell? ⟨w.heap.size, 5, none⟩ = some (.slice A1 pnp A1c) ∧ w'.cell? ⟨w.heap.size, 6, none⟩ = some (.slice A2 pnl A2c) ∧ w'.cell? ⟨w.heap.size, 7, none⟩ = some (.slice A3 pnb A3c) ∧ w'.cell? ⟨w.heap.size, 8, none⟩ = some (.int .i64 px) ∧ w'.cell? ⟨w.heap.size, 9, none⟩ = some (.int .i64 py) ∧ w'.cell? ⟨w.heap.size + 1, 0, none⟩ = some (.slice B0 qnc d0) ∧ w'.cell? ⟨w.heap.size + 1, 1, none⟩ = some (.string qr) ∧ w'.cell? ⟨w.heap.size + 1, 2, none⟩ = some (.string qn) ∧ w'.cell? ⟨w.heap.size + 1, 3, none⟩ = some (.bool qs) ∧ w'.cell? ⟨w.heap.size + 1, 4, none⟩ = some (.bool qb) ∧ w'.cell? ⟨w.heap.size + 1, 5, none⟩ = some (.slice B1 qnp B1c) ∧ w'.cell? ⟨w.heap.size + 1, 6, none⟩ = some (.slice B2 qnl B2c) ∧ w'.cell? ⟨w.heap.size + 1, 7, none⟩ = some (.slice B3 qnb B3c) ∧ w'.cell? ⟨w.heap.size + 1, 8, none⟩ = some (.int .i64 qx) ∧ w'.cell? ⟨w.heap.size + 1, 9, none⟩ = some (.int .i64 qy))
        (first | exact ⟨m0, m1, m2, m3, m4, m5, m6, m7, m8, m9, mq0, mq1, mq2, mq3, mq4, mq5, mq6, mq7, mq8, mq9⟩ | exact ⟨a0, a1, a2, a3, a4, a5, a6, a7, a8, a9, aq0, aq1, aq2, aq3, aq4, aq5, aq6, aq7, aq8, aq9⟩ | exact ⟨b0, b1, b2, b3, b4, b5, b6, b7, b8, b9, bq0, bq1, bq2, bq3, bq4, bq5, bq6, bq7, bq8, bq9⟩ | go_keep)
        (first
          | (go_at_call 6; (with_reducible refine (HRp.out w3.drew (by exact HT3.out.drew) HG1.out).mono ?_); rintro e w4 ⟨rfl, t4⟩
             have HT4 := Lib.hid (HT3.out.drew.trans' t4)
             obtain ⟨a0, a1, a2, a3, a4, a5, a6, a7, a8, a9, aq0, aq1, aq2, aq3, aq4, aq5, aq6, aq7, aq8, aq9⟩ := HCe.out w4 HT4.out
             clear t4)
          | (go_at_call 6; (with_reducible refine (HRq.out w4 (by exact HT4.out) HG2.out).mono ?_); rintro e w5 ⟨rfl, t5⟩
             have HT5 := Lib.hid (HT4.out.trans' t5)
             obtain ⟨b0, b1, b2, b3, b4, b5, b6, b7, b8, b9, bq0, bq1, bq2, bq3, bq4, bq5, bq6, bq7, bq8, bq9⟩ := HCe.out w5 HT5.out
             clear t5)
          | fail)
      all_goals
        clear m0 m1 m2 m3 m4 m5 m6 m7 m8 m9 mq0 mq1 mq2 mq3 mq4 mq5 mq6 mq7 mq8 mq9 a0 a1 a2 a3 a4 a5 a6 a7 a8 a9 aq0 aq1 aq2 aq3 aq4 aq5 aq6 aq7 aq8 aq9
        go_wp2_with fail
        refine (HPp.out w5 HT5.out HG1.out).mono ?_
        rintro e w6 ⟨rfl, t6⟩
        have HT6 := Lib.hid (HT5.out.trans' t6)
        clear t6 b0 b1 b2 b3 b4 b5 b6 b7 b8 b9 bq0 bq1 bq2 bq3 bq4 bq5 bq6 bq7 bq8 bq9
        obtain ⟨a0, a1, a2, a3, a4, a5, a6, a7, a8, a9, aq0, aq1, aq2, aq3, aq4, aq5, aq6, aq7, aq8, aq9⟩ := HCe.out w6 HT6.out
        go_wp2_with fail
        refine (HPQ.out w6 HT6.out HG1.out HG2.out).mono ?_
        rintro e w7 ⟨rfl, t7⟩
        have HT7 := Lib.hid (HT6.out.trans' t7)
        clear t7 a0 a1 a2 a3 a4 a5 a6 a7 a8 a9 aq0 aq1 aq2 aq3 aq4 aq5 aq6 aq7 aq8 aq9
        obtain ⟨b0, b1, b2, b3, b4, b5, b6, b7, b8, b9, bq0, bq1, bq2, bq3, bq4, bq5, bq6, bq7, bq8, bq9⟩ := HCe.out w7 HT7.out
        rcases HV.out with ⟨rfl, rfl⟩ | ⟨rfl, hne⟩
        · go_wp2_with fail
          refine (HQQ.out w7 HT7.out HG2.out).mono ?_
          rintro e w8 ⟨rfl, t8⟩
          have HT8 := Lib.hid (HT7.out.trans' t8)
          clear t8
          go_wp2_with fail
          go_ret
          exact ⟨rfl, HT.out.trans' HT8.out⟩
        · have hZ2 := bytes_f hne
          have HNE := Lib.hid hne
          clear hne
          go_wp2_with fail
          refine (HQQ.out w7 HT7.out HG2.out).mono ?_
          rintro e w8 ⟨rfl, t8⟩
          have HT8 := Lib.hid (HT7.out.trans' t8)
          clear t8
          go_wp2_with fail
          go_ret
          exact ⟨rfl, HT.out.trans' HT8.out⟩
end Go.Proofs.YtoekaehpcjhhaaaGreatDoor
