import Derived.Test.YtoekaehpcjhhaaaGreatDoorLns
import Derived.Test.YtoekaehpcjhhaaaGreatDoorPtx

/- slices.Equal of lines. -/
set_option linter.unusedSimpArgs false
set_option linter.unusedVariables false
namespace Go.Proofs.YtoekaehpcjhhaaaGreatDoor
open Go.RowKit

set_option maxHeartbeats 4000000 in
set_option maxRecDepth 100000 in
theorem equal_any (A1 A2 : Option Addr) (c1 c2 : Nat) (L M : List Row) (w : World) (h1 : OwnN w (.slice A1 L.length c1) L) (h2 : OwnN w (.slice A2 M.length c2) M) (hL : L.length ≤ 5000000000000) :
    Calls Tryz.prog 16 #[.slice A1 L.length c1, .slice A2 M.length c2] w fun e w' => e = .returned (.bool (decide (L = M))) ∧ Turn [] w w' := by
  have H1 := Lib.hid h1
  have H2 := Lib.hid h2
  obtain ⟨n, hn⟩ : ∃ n, L.length = n := ⟨_, rfl⟩
  obtain ⟨m, hm⟩ : ∃ m, M.length = m := ⟨_, rfl⟩
  have HN := Lib.hid (And.intro hn hm)
  unfold OwnN at H1 H2
  rw [hn] at hL ⊢
  rw [hm]
  obtain ⟨V, hV⟩ : ∃ V, decide (L = M) = V := ⟨_, rfl⟩
  rw [hV]
  have HV := Lib.hid hV
  clear h1 h2 hn hm hV
  by_cases hnm : n = m
  · subst hnm
    go_enter Tryz.func16, Tryz.ntmps16
    go_wp2_with fail
    go_loopw [13] (fun i wr => ∃ k : Nat, k ≤ n ∧ i = .int .i64 (k : Int) ∧ Hid (L.take k = M.take k ∧ Turn [] w wr)) (fun i _ => n - (intOf i).toNat)
    case atStart => exact ⟨0, Nat.zero_le _, rfl, Lib.hid ⟨rfl, Turn.refl _ _⟩⟩
    case round =>
      obtain ⟨k, hk, rfl, HW⟩ := hrel
      by_cases hlt : k < n
      · obtain ⟨r, hr⟩ := at_lt (l := L) (k := k) (by rw [HN.out.1]; exact hlt)
        obtain ⟨q, hq⟩ := at_lt (l := M) (k := k) (by rw [HN.out.2]; exact hlt)
        obtain ⟨g1, rfl, hg1, a0, a1⟩ := row_at (Turn.owns HW.out.2 H1.out (by simp)) hr
        obtain ⟨g2, rfl, hg2, b0, b1⟩ := row_at (Turn.owns HW.out.2 H2.out (by simp)) hq
        have HRQ := Lib.hid (And.intro hr hq)
        obtain ⟨x, s⟩ := r
        obtain ⟨y, t⟩ := q
        simp only at a0 a1 b0 b1
        clear hr hq
        by_cases hxy : x = y
        · by_cases hst : s = t
          · subst hxy hst
            go_wp2_with fail
            go_quiet (fail)
            go_wp2_with fail
            go_roundw
            case rel => exact ⟨k + 1, by omega, by go_num, Lib.hid ⟨by rw [take_snoc HRQ.out.1, take_snoc HRQ.out.2, HW.out.1], HW.out.2.drewN _⟩⟩
            case measure => simp [intOf]; omega
          · subst hxy
            have HG : Hid (V = false) := Lib.hid (by
              rw [← HV.out, decide_eq_false_iff_not]
              intro e
              have h3 := HRQ.out
              rw [e] at h3
              have := h3.1.symm.trans h3.2
              simp at this
              exact hst this)
            have hbf := bytes_f hst
            go_wp2_with fail
            go_quiet (fail)
            go_wp2_with fail
            go_ret
            exact ⟨ret_bool HG.out.symm, HW.out.2.drewN _⟩
        · have hI : ¬ (x : Int) = (y : Int) := by omega
          have HG : Hid (V = false) := Lib.hid (by
            rw [← HV.out, decide_eq_false_iff_not]
            intro e
            have h3 := HRQ.out
            rw [e] at h3
            have := h3.1.symm.trans h3.2
            simp at this
            exact hxy this.1)
          go_wp2_with fail
          go_quiet (fail)
          go_wp2_with fail
          go_ret
          exact ⟨ret_bool HG.out.symm, HW.out.2.drewN _⟩
      · have hkn : k = n := by omega
        subst hkn
        have HG : Hid (V = true) := Lib.hid (by
          have := HW.out.1
          rw [List.take_of_length_le (by rw [HN.out.1]; exact Nat.le_refl _), List.take_of_length_le (by rw [HN.out.2]; exact Nat.le_refl _)] at this
          rw [← HV.out]
          simpa using this)
        go_wp2_with fail
        go_ret
        exact ⟨ret_bool HG.out.symm, HW.out.2⟩
  · have hI : ¬ (n : Int) = (m : Int) := by omega
    have HG : Hid (V = false) := Lib.hid (by
      rw [← HV.out, decide_eq_false_iff_not]
      intro e
      have h3 := HN.out
      rw [e] at h3
      omega)
    go_enter Tryz.func16, Tryz.ntmps16
    go_wp2_with fail
    go_ret
    exact ⟨ret_bool HG.out.symm, Turn.refl _ _⟩

end Go.Proofs.YtoekaehpcjhhaaaGreatDoor

/- Program. -/
set_option linter.unusedSimpArgs false
set_option linter.unusedVariables false
namespace Go.Proofs.YtoekaehpcjhhaaaGreatDoor
open Go.RowKit

theorem prgR_ne (p : Pr) : prgR p ≠ [] := by unfold prgR blkR; simp
set_option maxHeartbeats 8000000 in
set_option maxRecDepth 100000 in
theorem program_any (B : Nat) (cs : List Value) (p : Pr) (w : World) (hr : RdP B w cs p) (hE : Env B w) (hf : FtP p) (hd : ∀ r ∈ prgR p, r.1 ≤ 10000000) (hz : (txL (prgR p)).length ≤ 100000000000000) :
    Calls Tryz.prog 7 #[.agg cs.toArray] w fun e w' => e = .returned (.string (mk (txL (prgR p)))) ∧ Turn [] w w' := by
  have hr0 := hr
  obtain ⟨A0, c0, mc, rfl, hcs, hmn⟩ := hr
  obtain ⟨A1, c1, A2, c2, A3, c3, x, y, rfl, _, _, _⟩ := hmn
  have tA := bx w #[.slice A0 p.cs.length c0, .string p.main.ret, .string p.main.name, .bool p.main.stat, .bool p.main.bare, .slice A1 p.main.ps.length c1, .slice A2 p.main.ls.length c2, .slice A3 p.main.bd.length c3, .int .i64 x, .int .i64 y] 30
  obtain ⟨W, hW⟩ : ∃ W, w.alloc (.cells #[.slice A0 p.cs.length c0, .string p.main.ret, .string p.main.name, .bool p.main.stat, .bool p.main.bare, .slice A1 p.main.ps.length c1, .slice A2 p.main.ls.length c2, .slice A3 p.main.bd.length c3, .int .i64 x, .int .i64 y] 30) = W := ⟨_, rfl⟩
  rw [hW] at tA
  have HC := Lib.hid (psheet_any B _ p W (hr0.turn tA (by simp)) (hE.turn tA (by simp)) hf)
  have HT := Lib.hid tA
  have HW := Lib.hid hW
  have HZ := Lib.hid (And.intro (prgR_len hf) (And.intro hd hz))
  have HNE := Lib.hid (prgR_ne p)
  clear hr0 hcs tA hW hE hf hd hz
  go_enter Tryz.func7, Tryz.ntmps7
  go_wp2_with fail
  rw [HW.out]
  refine HC.out.mono ?_
  rintro e w1 ⟨b, F, rfl, hS, t1⟩
  have HTx := Lib.hid (text_any 69 b F (prgR p) 0 w1 hS (by have := HZ.out.1; omega) HNE.out HZ.out.2.1 HZ.out.2.2)
  have HT1 := Lib.hid t1
  clear hS t1
  go_wp2_with fail
  refine HTx.out.mono ?_
  rintro e w2 ⟨rfl, t2⟩
  have HT2 := Lib.hid t2
  clear t2
  go_wp2_with fail
  go_ret
  exact ⟨rfl, (HT.out.trans' HT1.out).trans' HT2.out⟩
end Go.Proofs.YtoekaehpcjhhaaaGreatDoor

/- Same. -/
set_option linter.unusedSimpArgs false
set_option linter.unusedVariables false
namespace Go.Proofs.YtoekaehpcjhhaaaGreatDoor
open Go.RowKit

set_option maxHeartbeats 16000000 in
set_option maxRecDepth 100000 in
theorem same_any (B : Nat) (ca cb : List Value) (p q : Pr) (m : Int) (w : World) (hp : RdP B w ca p) (hq : RdP B w cb q) (hE : Env B w) (fp : FtP p) (fq : FtP q) (hm : w.cell? ⟨0, 0, none⟩ = some (.int .i64 m))
    (yp : ∀ r ∈ prgR p, r.2.size ≤ 40000000 ∧ r.1 ≤ 10000000) (yq : ∀ r ∈ prgR q, r.2.size ≤ 40000000 ∧ r.1 ≤ 10000000) (zp : (lns (prgR p)).length ≤ 4000000000000) (zq : (lns (prgR q)).length ≤ 4000000000000) :
    Calls Tryz.prog 8 #[.agg ca.toArray, .agg cb.toArray] w fun e w' => e = .returned (.bool (decide (lns (prgR p) = lns (prgR q)))) ∧ Turn [] w w' := by
  have hp0 := hp
  have hq0 := hq
  obtain ⟨A0, c0, mc, rfl, _, hmn⟩ := hp
  obtain ⟨A1, A1c, A2, A2c, A3, A3c, px, py, rfl, _, _, _⟩ := hmn
  obtain ⟨B0, d0, mc2, rfl, _, hmn2⟩ := hq
  obtain ⟨B1, B1c, B2, B2c, B3, B3c, qx, qy, rfl, _, _, _⟩ := hmn2
  have tA : Turn [] w ((w.alloc (.cells #[.slice A0 p.cs.length c0, .string p.main.ret, .string p.main.name, .bool p.main.stat, .bool p.main.bare, .slice A1 p.main.ps.length A1c, .slice A2 p.main.ls.length A2c, .slice A3 p.main.bd.length A3c, .int .i64 px, .int .i64 py] 30)).alloc (.cells #[.slice B0 q.cs.length d0, .string q.main.ret, .string q.main.name, .bool q.main.stat, .bool q.main.bare, .slice B1 q.main.ps.length B1c, .slice B2 q.main.ls.length B2c, .slice B3 q.main.bd.length B3c, .int .i64 qx, .int .i64 qy] 30)) := ((Turn.refl [] w).alloc _).alloc _
  obtain ⟨W, hW⟩ : ∃ W, (w.alloc (.cells #[.slice A0 p.cs.length c0, .string p.main.ret, .string p.main.name, .bool p.main.stat, .bool p.main.bare, .slice A1 p.main.ps.length A1c, .slice A2 p.main.ls.length A2c, .slice A3 p.main.bd.length A3c, .int .i64 px, .int .i64 py] 30)).alloc (.cells #[.slice B0 q.cs.length d0, .string q.main.ret, .string q.main.name, .bool q.main.stat, .bool q.main.bare, .slice B1 q.main.ps.length B1c, .slice B2 q.main.ls.length B2c, .slice B3 q.main.bd.length B3c, .int .i64 qx, .int .i64 qy] 30) = W := ⟨_, rfl⟩
  have hg1 : W.heap[w.heap.size]? = some (.cells #[.slice A0 p.cs.length c0, .string p.main.ret, .string p.main.name, .bool p.main.stat, .bool p.main.bare, .slice A1 p.main.ps.length A1c, .slice A2 p.main.ls.length A2c, .slice A3 p.main.bd.length A3c, .int .i64 px, .int .i64 py] 30 (0, 0)) := by
    rw [← hW]
    exact ((Turn.refl [] _).alloc _).heap (heap_alloc_new w _) (by simp)
  have hg2 : W.heap[w.heap.size + 1]? = some (.cells #[.slice B0 q.cs.length d0, .string q.main.ret, .string q.main.name, .bool q.main.stat, .bool q.main.bare, .slice B1 q.main.ps.length B1c, .slice B2 q.main.ls.length B2c, .slice B3 q.main.bd.length B3c, .int .i64 qx, .int .i64 qy] 30 (0, 0)) := by
    rw [← hW]
    have := heap_alloc_new (w.alloc (.cells #[.slice A0 p.cs.length c0, .string p.main.ret, .string p.main.name, .bool p.main.stat, .bool p.main.bare, .slice A1 p.main.ps.length A1c, .slice A2 p.main.ls.length A2c, .slice A3 p.main.bd.length A3c, .int .i64 px, .int .i64 py] 30)) (.cells #[.slice B0 q.cs.length d0, .string q.main.ret, .string q.main.name, .bool q.main.stat, .bool q.main.bare, .slice B1 q.main.ps.length B1c, .slice B2 q.main.ls.length B2c, .slice B3 q.main.bd.length B3c, .int .i64 qx, .int .i64 qy] 30)
    rwa [World.size_alloc] at this
  have hsz : W.heap.size = w.heap.size + 2 := by rw [← hW]; simp
  rw [hW] at tA
  have HP1 := Lib.hid (fun w1 (t1 : Turn [] W w1) => psheet_any B _ p w1 (hp0.turn (tA.trans' t1) (by simp)) (hE.turn (tA.trans' t1) (by simp)) fp)
  have HQ1 := Lib.hid (fun w1 (t1 : Turn [] W w1) => psheet_any B _ q w1 (hq0.turn (tA.trans' t1) (by simp)) (hE.turn (tA.trans' t1) (by simp)) fq)
  have HM := Lib.hid (fun w1 (t1 : Turn [] W w1) => (((tA.trans' t1).cell (p := ⟨0, 0, none⟩) (cell_lt hm) (by simp)).trans hm))
  have HZ := Lib.hid (And.intro (prgR_len fp) (And.intro (prgR_len fq) (And.intro yp (And.intro yq (And.intro zp zq)))))
  obtain ⟨pnc, hpnc⟩ : ∃ z, p.cs.length = z := ⟨_, rfl⟩
  obtain ⟨pr, hpr⟩ : ∃ z, p.main.ret = z := ⟨_, rfl⟩
  obtain ⟨pn, hpn⟩ : ∃ z, p.main.name = z := ⟨_, rfl⟩
  obtain ⟨ps, hps⟩ : ∃ z, p.main.stat = z := ⟨_, rfl⟩
  obtain ⟨pb, hpb⟩ : ∃ z, p.main.bare = z := ⟨_, rfl⟩
  obtain ⟨pnp, hpnp⟩ : ∃ z, p.main.ps.length = z := ⟨_, rfl⟩
  obtain ⟨pnl, hpnl⟩ : ∃ z, p.main.ls.length = z := ⟨_, rfl⟩
  obtain ⟨pnb, hpnb⟩ : ∃ z, p.main.bd.length = z := ⟨_, rfl⟩
  obtain ⟨qnc, hqnc⟩ : ∃ z, q.cs.length = z := ⟨_, rfl⟩
  obtain ⟨qr, hqr⟩ : ∃ z, q.main.ret = z := ⟨_, rfl⟩
  obtain ⟨qn, hqn⟩ : ∃ z, q.main.name = z := ⟨_, rfl⟩
  obtain ⟨qs, hqs⟩ : ∃ z, q.main.stat = z := ⟨_, rfl⟩
  obtain ⟨qb, hqb⟩ : ∃ z, q.main.bare = z := ⟨_, rfl⟩
  obtain ⟨qnp, hqnp⟩ : ∃ z, q.main.ps.length = z := ⟨_, rfl⟩
  obtain ⟨qnl, hqnl⟩ : ∃ z, q.main.ls.length = z := ⟨_, rfl⟩
  obtain ⟨qnb, hqnb⟩ : ∃ z, q.main.bd.length = z := ⟨_, rfl⟩
  rw [hpnc, hpr, hpn, hps, hpb, hpnp, hpnl, hpnb] at HP1 hg1
  rw [hqnc, hqr, hqn, hqs, hqb, hqnp, hqnl, hqnb] at HQ1 hg2
  rw [hpnc, hpr, hpn, hps, hpb, hpnp, hpnl, hpnb, hqnc, hqr, hqn, hqs, hqb, hqnp, hqnl, hqnb] at hW ⊢
  have hce : ∀ w', Turn [] W w' → w'.cell? ⟨w.heap.size, 0, none⟩ = some (.slice A0 pnc c0) ∧ w'.cell? ⟨w.heap.size, 1, none⟩ = some (.string pr) ∧ w'.cell? ⟨w.heap.size, 2, none⟩ = some (.string pn) ∧ w'.cell? ⟨w.heap.size, 3, none⟩ = some (.bool ps) ∧ w'.cell? ⟨w.heap.size, 4, none⟩ = some (.bool pb) ∧ w'.cell? ⟨w.heap.size, 5, none⟩ = some (.slice A1 pnp A1c) ∧ w'.cell? ⟨w.heap.size, 6, none⟩ = some (.slice A2 pnl A2c) ∧ w'.cell? ⟨w.heap.size, 7, none⟩ = some (.slice A3 pnb A3c) ∧ w'.cell? ⟨w.heap.size, 8, none⟩ = some (.int .i64 px) ∧ w'.cell? ⟨w.heap.size, 9, none⟩ = some (.int .i64 py) ∧ w'.cell? ⟨w.heap.size + 1, 0, none⟩ = some (.slice B0 qnc d0) ∧ w'.cell? ⟨w.heap.size + 1, 1, none⟩ = some (.string qr) ∧ w'.cell? ⟨w.heap.size + 1, 2, none⟩ = some (.string qn) ∧ w'.cell? ⟨w.heap.size + 1, 3, none⟩ = some (.bool qs) ∧ w'.cell? ⟨w.heap.size + 1, 4, none⟩ = some (.bool qb) ∧ w'.cell? ⟨w.heap.size + 1, 5, none⟩ = some (.slice B1 qnp B1c) ∧ w'.cell? ⟨w.heap.size + 1, 6, none⟩ = some (.slice B2 qnl B2c) ∧ w'.cell? ⟨w.heap.size + 1, 7, none⟩ = some (.slice B3 qnb B3c) ∧ w'.cell? ⟨w.heap.size + 1, 8, none⟩ = some (.int .i64 qx) ∧ w'.cell? ⟨w.heap.size + 1, 9, none⟩ = some (.int .i64 qy) := fun w' ht => by
    have h1 : ∀ (i : Nat) (v : Value), (#[.slice A0 pnc c0, .string pr, .string pn, .bool ps, .bool pb, .slice A1 pnp A1c, .slice A2 pnl A2c, .slice A3 pnb A3c, .int .i64 px, .int .i64 py] : Array Value)[i]? = some v → w'.cell? ⟨w.heap.size, i, none⟩ = some v := fun i v hv => (cell_of_row w' _ i _ _ _ (ht.heap hg1 (by simp))).trans hv
    have h2 : ∀ (i : Nat) (v : Value), (#[.slice B0 qnc d0, .string qr, .string qn, .bool qs, .bool qb, .slice B1 qnp B1c, .slice B2 qnl B2c, .slice B3 qnb B3c, .int .i64 qx, .int .i64 qy] : Array Value)[i]? = some v → w'.cell? ⟨w.heap.size + 1, i, none⟩ = some v := fun i v hv => (cell_of_row w' _ i _ _ _ (ht.heap hg2 (by simp))).trans hv
    exact ⟨h1 0 _ rfl, h1 1 _ rfl, h1 2 _ rfl, h1 3 _ rfl, h1 4 _ rfl, h1 5 _ rfl, h1 6 _ rfl, h1 7 _ rfl, h1 8 _ rfl, h1 9 _ rfl, h2 0 _ rfl, h2 1 _ rfl, h2 2 _ rfl, h2 3 _ rfl, h2 4 _ rfl, h2 5 _ rfl, h2 6 _ rfl, h2 7 _ rfl, h2 8 _ rfl, h2 9 _ rfl⟩
  have HCe := Lib.hid hce
  have HT := Lib.hid tA
  have HW := Lib.hid hW
  obtain ⟨R1, hR1⟩ : ∃ R, prgR p = R := ⟨_, rfl⟩
  obtain ⟨R2, hR2⟩ : ∃ R, prgR q = R := ⟨_, rfl⟩
  rw [hR1] at HP1 HZ ⊢
  rw [hR2] at HQ1 HZ ⊢
  obtain ⟨V, hV⟩ : ∃ V, decide (lns R1 = lns R2) = V := ⟨_, rfl⟩
  rw [hV]
  have HV := Lib.hid hV
  obtain ⟨m0, m1, m2, m3, m4, m5, m6, m7, m8, m9, mq0, mq1, mq2, mq3, mq4, mq5, mq6, mq7, mq8, mq9⟩ := hce W (Turn.refl _ _)
  clear hp0 hq0 hE fp fq hm yp yq zp zq tA hW hg1 hg2 hsz hce hR1 hR2 hV hpnc hpr hpn hps hpb hpnp hpnl hpnb hqnc hqr hqn hqs hqb hqnp hqnl hqnb
  go_enter Tryz.func8, Tryz.ntmps8
  go_upto_region 1 with fail
  rw [HW.out]
  go_region_held3 (fun w' => w'.cell? ⟨w.heap.size, 0, none⟩ = some (.slice A0 pnc c0) ∧ w'.cell? ⟨w.heap.size, 1, none⟩ = some (.string pr) ∧ w'.cell? ⟨w.heap.size, 2, none⟩ = some (.string pn) ∧ w'.cell? ⟨w.heap.size, 3, none⟩ = some (.bool ps) ∧ w'.cell? ⟨w.heap.size, 4, none⟩ = some (.bool pb) ∧ w'.cell? ⟨w.heap.size, 5, none⟩ = some (.slice A1 pnp A1c) ∧ w'.cell? ⟨w.heap.size, 6, none⟩ = some (.slice A2 pnl A2c) ∧ w'.cell? ⟨w.heap.size, 7, none⟩ = some (.slice A3 pnb A3c) ∧ w'.cell? ⟨w.heap.size, 8, none⟩ = some (.int .i64 px) ∧ w'.cell? ⟨w.heap.size, 9, none⟩ = some (.int .i64 py) ∧ w'.cell? ⟨w.heap.size + 1, 0, none⟩ = some (.slice B0 qnc d0) ∧ w'.cell? ⟨w.heap.size + 1, 1, none⟩ = some (.string qr) ∧ w'.cell? ⟨w.heap.size + 1, 2, none⟩ = some (.string qn) ∧ w'.cell? ⟨w.heap.size + 1, 3, none⟩ = some (.bool qs) ∧ w'.cell? ⟨w.heap.size + 1, 4, none⟩ = some (.bool qb) ∧ w'.cell? ⟨w.heap.size + 1, 5, none⟩ = some (.slice B1 qnp B1c) ∧ w'.cell? ⟨w.heap.size + 1, 6, none⟩ = some (.slice B2 qnl B2c) ∧ w'.cell? ⟨w.heap.size + 1, 7, none⟩ = some (.slice B3 qnb B3c) ∧ w'.cell? ⟨w.heap.size + 1, 8, none⟩ = some (.int .i64 qx) ∧ w'.cell? ⟨w.heap.size + 1, 9, none⟩ = some (.int .i64 qy))
    (first | exact ⟨m0, m1, m2, m3, m4, m5, m6, m7, m8, m9, mq0, mq1, mq2, mq3, mq4, mq5, mq6, mq7, mq8, mq9⟩ | exact ⟨a0, a1, a2, a3, a4, a5, a6, a7, a8, a9, aq0, aq1, aq2, aq3, aq4, aq5, aq6, aq7, aq8, aq9⟩ | exact ⟨b0, b1, b2, b3, b4, b5, b6, b7, b8, b9, bq0, bq1, bq2, bq3, bq4, bq5, bq6, bq7, bq8, bq9⟩ | exact ⟨c0, c1, c2, c3, c4, c5, c6, c7, c8, c9, cq0, cq1, cq2, cq3, cq4, cq5, cq6, cq7, cq8, cq9⟩ | exact ⟨d0, d1, d2, d3, d4, d5, d6, d7, d8, d9, dq0, dq1, dq2, dq3, dq4, dq5, dq6, dq7, dq8, dq9⟩ | exact ⟨e0, e1, e2, e3, e4, e5, e6, e7, e8, e9, eq0, eq1, eq2, eq3, eq4, eq5, eq6, eq7, eq8, eq9⟩ | go_keep)
    (first
      | (go_at_call 14; (with_reducible refine (HP1.out W.drew (by exact (Turn.refl [] W).drew)).mono ?_); rintro e w1 ⟨b1, F1, rfl, hs1, t1⟩
         have HT1 := Lib.hid ((Turn.refl [] W).drew.trans' t1)
         have HL1 := Lib.hid (lines_any 69 b1 F1 R1 0 m w1 hs1 (HM.out w1 HT1.out) (by have := HZ.out.1; omega) HZ.out.2.2.1 HZ.out.2.2.2.2.1)
         obtain ⟨a0, a1, a2, a3, a4, a5, a6, a7, a8, a9, aq0, aq1, aq2, aq3, aq4, aq5, aq6, aq7, aq8, aq9⟩ := HCe.out w1 HT1.out
         clear hs1 t1)
      | (go_at_call 17; (with_reducible refine HL1.out.mono ?_); rintro e w2 ⟨G1, g1, rfl, hb1⟩
         have HB1 := Lib.hid hb1
         have HT2 := Lib.hid (HT1.out.trans' hb1.2.2)
         obtain ⟨b0, b1, b2, b3, b4, b5, b6, b7, b8, b9, bq0, bq1, bq2, bq3, bq4, bq5, bq6, bq7, bq8, bq9⟩ := HCe.out w2 HT2.out
         clear hb1)
      | (go_at_call 14; (with_reducible refine (HQ1.out w2 (by exact HT2.out)).mono ?_); rintro e w3 ⟨b2, F2, rfl, hs2, t3⟩
         have HT3 := Lib.hid (HT2.out.trans' t3)
         have HL2 := Lib.hid (lines_any 69 b2 F2 R2 0 m w3 hs2 (HM.out w3 HT3.out) (by have := HZ.out.2.1; omega) HZ.out.2.2.2.1 HZ.out.2.2.2.2.2)
         have HB2 := Lib.hid (HB1.out.turn' t3)
         obtain ⟨c0, c1, c2, c3, c4, c5, c6, c7, c8, c9, cq0, cq1, cq2, cq3, cq4, cq5, cq6, cq7, cq8, cq9⟩ := HCe.out w3 HT3.out
         clear hs2 t3)
      | (go_at_call 17; (with_reducible refine HL2.out.mono ?_); rintro e w4 ⟨G2, g2, rfl, hb2⟩
         have HEq := Lib.hid (equal_any G1 G2 g1 g2 (lns R1) (lns R2) w4 (HB2.out.turn' hb2.2.2).1 hb2.1 (by have := HZ.out.2.2.2.2.1; omega))
         have HT4 := Lib.hid (HT3.out.trans' hb2.2.2)
         rw [HV.out] at HEq
         obtain ⟨d0, d1, d2, d3, d4, d5, d6, d7, d8, d9, dq0, dq1, dq2, dq3, dq4, dq5, dq6, dq7, dq8, dq9⟩ := HCe.out w4 HT4.out
         clear hb2)
      | (go_at_call 16; (with_reducible refine HEq.out.mono ?_); rintro e w5 ⟨rfl, t5⟩
         have HT5 := Lib.hid (HT4.out.trans' t5)
         obtain ⟨e0, e1, e2, e3, e4, e5, e6, e7, e8, e9, eq0, eq1, eq2, eq3, eq4, eq5, eq6, eq7, eq8, eq9⟩ := HCe.out w5 HT5.out
         clear t5)
      | fail)
  all_goals
    go_wp2_with fail
    go_ret
    exact ⟨rfl, HT.out.trans' HT5.out⟩
end Go.Proofs.YtoekaehpcjhhaaaGreatDoor
