/- The reference's method. -/
import Derived.Test.YtoekaehpcjhhaaaGreatDoorRbk
set_option linter.unusedSimpArgs false
set_option linter.unusedVariables false
namespace Go.Proofs.YtoekaehpcjhhaaaGreatDoor
open Go.RowKit

theorem head_cat (a b c : ByteArray) : cat [a, b, c] = a ++ b ++ c := by
  apply bs_inj
  simp only [bs_cat, List.flatMap_cons, List.flatMap_nil, bs_append, List.append_assoc, List.append_nil]
theorem head_cat2 (a b : ByteArray) : cat [a, b] = a ++ b := by
  apply bs_inj
  simp only [bs_cat, List.flatMap_cons, List.flatMap_nil, bs_append, List.append_assoc, List.append_nil]
theorem metR_deep (D : Nat) (m : Mt) : (metR D m).map (fun r => ((r.1 + 1, r.2) : Row)) = metR (D + 1) m := by
  unfold metR
  split
  · rfl
  · split <;> exact blkR_deep _ _ _

set_option maxHeartbeats 8000000 in
set_option maxRecDepth 100000 in
theorem rmethod_any (B : Nat) (cs : List Value) (m : Mt) (w : World) (hr : RdM B w cs m) (hB : B ≤ w.heap.size) (hm : FtM m) (hS : RSaidL m.bd) :
    Calls Tryz.prog 21 #[.agg cs.toArray] w fun e w' => ∃ A' c', e = .returned (.slice A' (metR 0 m).length c') ∧ Bld w w' (.slice A' (metR 0 m).length c') ((metR 0 m).map ln) := by
  have hr0 := hr
  obtain ⟨A1, c1, A2, c2, A3, c3, p, q, rfl, r1, r2, r3⟩ := hr
  have tA := bx w #[.string m.ret, .string m.name, .bool m.stat, .bool m.bare, .slice A1 m.ps.length c1, .slice A2 m.ls.length c2, .slice A3 m.bd.length c3, .int .i64 p, .int .i64 q] 28
  obtain ⟨W, hW⟩ : ∃ W, w.alloc (.cells #[.string m.ret, .string m.name, .bool m.stat, .bool m.bare, .slice A1 m.ps.length c1, .slice A2 m.ls.length c2, .slice A3 m.bd.length c3, .int .i64 p, .int .i64 q] 28) = W := ⟨_, rfl⟩
  have hg : W.heap[w.heap.size]? = some (.cells #[.string m.ret, .string m.name, .bool m.stat, .bool m.bare, .slice A1 m.ps.length c1, .slice A2 m.ls.length c2, .slice A3 m.bd.length c3, .int .i64 p, .int .i64 q] 28 (0, 0)) := by rw [← hW]; exact heap_alloc_new w _
  rw [hW] at tA
  have HR1 := Lib.hid (fun w' (ht : Turn [] W w') => (r1.turn tA (by simp)).turn ht (by simp))
  have HBk := Lib.hid (fun w' (ht : Turn [] W w') h (hh : ByteArray.size h ≤ 100000000) => rblock_any h B _ m w' (hr0.turn (tA.trans' ht) (by simp)) (Nat.le_trans hB (tA.trans' ht).size) hm hS hh)
  have HVl := Lib.hid hm.2.2.1.2
  have hhd := hdT_size hm
  have hpt := parT_size hm.2.2.1
  have hr1 := hm.1
  have hn1 := hm.2.1
  have HMR : Hid (metR 0 m = if m.bare = true then [(0, cat [hdT m, ⟨#[59]⟩])] else if m.stat = true then blkR 0 (cat [⟨#[115, 116, 97, 116, 105, 99, 32]⟩, hdT m, openT]) m else blkR 0 (cat [hdT m, openT]) m) := Lib.hid rfl
  obtain ⟨PT, hPT⟩ : ∃ q, parT m.ps = q := ⟨_, rfl⟩
  have HPT := Lib.hid hPT
  obtain ⟨H, hH⟩ : ∃ q, hdT m = q := ⟨_, rfl⟩
  have HH : Hid (⟨#[109, 101, 116, 104, 111, 100, 32]⟩ ++ m.ret ++ ⟨#[32]⟩ ++ m.name ++ ⟨#[40]⟩ ++ PT ++ ⟨#[41]⟩ = H) := Lib.hid (by rw [← hH, ← hPT]; rfl)
  rw [hPT] at hpt
  rw [hH] at HMR hhd
  obtain ⟨np, hnp⟩ : ∃ z, m.ps.length = z := ⟨_, rfl⟩
  have HNP := Lib.hid hnp
  have hnp8 : np ≤ 8 := by rw [← hnp]; exact hm.2.2.1.1
  obtain ⟨mr, hmr⟩ : ∃ q, m.ret = q := ⟨_, rfl⟩
  obtain ⟨mn, hmn⟩ : ∃ q, m.name = q := ⟨_, rfl⟩
  obtain ⟨ms, hms⟩ : ∃ q, m.stat = q := ⟨_, rfl⟩
  obtain ⟨mb, hmb⟩ : ∃ q, m.bare = q := ⟨_, rfl⟩
  obtain ⟨nl, hnl⟩ : ∃ q, m.ls.length = q := ⟨_, rfl⟩
  obtain ⟨nb, hnb⟩ : ∃ q, m.bd.length = q := ⟨_, rfl⟩
  rw [hmr, hmn, hms, hmb, hnp, hnl, hnb] at hg HBk hW ⊢
  rw [hmr, hmn] at HH
  rw [hmr] at hr1
  rw [hmn] at hn1
  rw [hms, hmb] at HMR
  have hce : ∀ w', Turn [] W w' → w'.cell? ⟨w.heap.size, 0, none⟩ = some (.string mr) ∧ w'.cell? ⟨w.heap.size, 1, none⟩ = some (.string mn) ∧ w'.cell? ⟨w.heap.size, 2, none⟩ = some (.bool ms) ∧ w'.cell? ⟨w.heap.size, 3, none⟩ = some (.bool mb) ∧ w'.cell? ⟨w.heap.size, 4, none⟩ = some (.slice A1 np c1) ∧ w'.cell? ⟨w.heap.size, 5, none⟩ = some (.slice A2 nl c2) ∧ w'.cell? ⟨w.heap.size, 6, none⟩ = some (.slice A3 nb c3) ∧ w'.cell? ⟨w.heap.size, 7, none⟩ = some (.int .i64 p) ∧ w'.cell? ⟨w.heap.size, 8, none⟩ = some (.int .i64 q) := fun w' ht => by
    have h1 : ∀ (i : Nat) (v : Value), (#[.string mr, .string mn, .bool ms, .bool mb, .slice A1 np c1, .slice A2 nl c2, .slice A3 nb c3, .int .i64 p, .int .i64 q] : Array Value)[i]? = some v → w'.cell? ⟨w.heap.size, i, none⟩ = some v := fun i v hv => (cell_of_row w' _ i _ _ _ (ht.heap hg (by simp))).trans hv
    exact ⟨h1 0 _ rfl, h1 1 _ rfl, h1 2 _ rfl, h1 3 _ rfl, h1 4 _ rfl, h1 5 _ rfl, h1 6 _ rfl, h1 7 _ rfl, h1 8 _ rfl⟩
  have HCe := Lib.hid hce
  have HT := Lib.hid tA
  have HW := Lib.hid hW
  have d1 := add_run ⟨#[109, 101, 116, 104, 111, 100, 32]⟩ mr (by simp only [sz_lit, List.size_toArray, List.length_cons, List.length_nil]; omega)
  have d2 := add_run (⟨#[109, 101, 116, 104, 111, 100, 32]⟩ ++ mr) ⟨#[32]⟩ (by simp only [size_app, sz_lit, List.size_toArray, List.length_cons, List.length_nil]; omega)
  have d3 := add_run (⟨#[109, 101, 116, 104, 111, 100, 32]⟩ ++ mr ++ ⟨#[32]⟩) mn (by simp only [size_app, sz_lit, List.size_toArray, List.length_cons, List.length_nil]; omega)
  have d4 := add_run (⟨#[109, 101, 116, 104, 111, 100, 32]⟩ ++ mr ++ ⟨#[32]⟩ ++ mn) ⟨#[40]⟩ (by simp only [size_app, sz_lit, List.size_toArray, List.length_cons, List.length_nil]; omega)
  have d5 := add_run (⟨#[109, 101, 116, 104, 111, 100, 32]⟩ ++ mr ++ ⟨#[32]⟩ ++ mn ++ ⟨#[40]⟩) PT (by simp only [size_app, sz_lit, List.size_toArray, List.length_cons, List.length_nil]; omega)
  have d6 := add_run (⟨#[109, 101, 116, 104, 111, 100, 32]⟩ ++ mr ++ ⟨#[32]⟩ ++ mn ++ ⟨#[40]⟩ ++ PT) ⟨#[41]⟩ (by simp only [size_app, sz_lit, List.size_toArray, List.length_cons, List.length_nil]; omega)
  rw [HH.out] at d6
  have d7 := add_run H ⟨#[59]⟩ (by simp only [sz_lit, List.size_toArray, List.length_cons, List.length_nil]; omega)
  have d8 := add_run ⟨#[115, 116, 97, 116, 105, 99, 32]⟩ H (by simp only [sz_lit, List.size_toArray, List.length_cons, List.length_nil]; omega)
  obtain ⟨m0, m1, m2, m3, m4, m5, m6, m7, m8⟩ := hce W (Turn.refl _ _)
  clear hr0 r1 r2 r3 tA hW hg hB hm hS hce hnp hPT hH hmr hmn hms hmb hnl hnb hpt hr1 hn1
  go_enter Tryz.func21, Tryz.ntmps21
  go_wp2_with fail
  rw [HW.out]
  go_loopw [3, 4] (fun v i wr => ∃ j : Nat, j ≤ np ∧ i = .int .i64 (j : Int) ∧ Hid (Bld W wr v (parL (m.ps.take j)))) (fun _ i _ => np - (intOf i).toNat)
  case atStart => exact ⟨0, Nat.zero_le _, rfl, Lib.hid (by simpa [parL] using Bld.nil W)⟩
  case round =>
    obtain ⟨j, hj, rfl, HB⟩ := hrel
    obtain ⟨k0, k1, k2, k3, k4, k5, k6, k7, k8⟩ := HCe.out wr HB.out.2.2
    by_cases hlt : j < np
    · obtain ⟨v, hv⟩ := at_lt (l := m.ps) (k := j) (by rw [HNP.out]; exact hlt)
      obtain ⟨g, off, pp, qq, hA2, hgB, hgl, e0, e1, e2, e3⟩ := HR1.out wr HB.out.2.2 j v hv
      subst hA2
      have hvs := HVl.out v (List.mem_of_getElem? hv)
      have HX := Lib.hid (parL_take hv)
      have HE2 : Hid (∀ w', Turn [] W w' → w'.cell? ⟨g, off + j * 4, none⟩ = some (.string v.1) ∧ w'.cell? ⟨g, off + j * 4 + 1, none⟩ = some (.string v.2)) := Lib.hid (fun w' ht => by
        obtain ⟨g', off', _, _, e, _, _, a0, a1, _, _⟩ := HR1.out w' ht j v hv
        injection e with e
        injection e with e1 e2
        subst e1 e2
        exact ⟨a0, a1⟩)
      obtain ⟨t, x⟩ := v
      simp only at e0 e1 hvs
      have hlk : (parL (m.ps.take j)).length = j := by rw [parL_len, List.length_take, HNP.out]; omega
      have HLK := Lib.hid hlk
      have b1 := add_run t ⟨#[32]⟩ (by simp only [sz_lit, List.size_toArray, List.length_cons, List.length_nil]; omega)
      have b2 := add_run (t ++ ⟨#[32]⟩) x (by simp only [size_app, sz_lit, List.size_toArray, List.length_cons, List.length_nil]; omega)
      obtain ⟨X, hX⟩ : ∃ X, t ++ ⟨#[32]⟩ ++ x = X := ⟨_, rfl⟩
      have HXX : Hid (t ++ sp ++ x = X) := Lib.hid hX
      rw [hX] at b2
      clear hv hlk hvs hX e2 e3 d1 d2 d3 d4 d5 d6 d7 d8
      go_upto_region 5 with fail
      go_region_held3 (fun w' => w'.cell? ⟨w.heap.size, 4, none⟩ = some (.slice (some ⟨g, off, none⟩) np c1) ∧ w'.cell? ⟨g, off + j * 4, none⟩ = some (.string t) ∧ w'.cell? ⟨g, off + j * 4 + 1, none⟩ = some (.string x))
        (first | exact ⟨k4, e0, e1⟩ | exact ⟨q4, f0, f1⟩ | go_keep)
        (first
          | (refine step_bld rfl (.tmp 13) (.tmp 28) rfl W _ u3 (parL (m.ps.take j)) [X] (some ⟨wr.heap.size, 0, none⟩) 1 1 (by simp [Act.eval, Act.put]) (by simp [Act.eval, Act.put]) (HB.out.turn' (by first | exact bx wr _ _ | exact (bx wr _ _).drew)) (by first | exact sts_new wr _ _ rfl | exact (sts_new wr _ _ rfl).turn' ((Turn.refl [] _).drew)) rfl (by rw [HLK.out]; simp; omega) ?_
             intro v6 w6 hb6
             have HB6 := Lib.hid hb6
             obtain ⟨q0, q1, q2, q3, q4, q5, q6, q7, q8⟩ := HCe.out w6 hb6.2.2
             obtain ⟨f0, f1⟩ := HE2.out w6 hb6.2.2
             clear hb6)
          | fail)
      go_wp2_with fail
      go_roundw
      case rel => exact ⟨j + 1, by omega, by go_num, Lib.hid (by rw [HX.out, HXX.out]; exact HB6.out)⟩
      case measure => simp [intOf]; omega
    · have hjn : j = np := by omega
      subst hjn
      have hb := HB.out
      rw [List.take_of_length_le (by rw [HNP.out]; exact Nat.le_refl _)] at hb
      obtain ⟨A5, n5, c5, rfl⟩ := hb.form
      have hn5 := (OwnS.sts hb.1).1
      have HJ := Lib.hid (rjoin_any A5 c5 (parL m.ps) ⟨#[44, 32]⟩ wr.drew ((OwnS.sts hb.1).2.2.turn' ((Turn.refl [] wr).drew)) (by rw [parL_len, HNP.out]; omega) (by
        have h1 : jn (parL m.ps) ⟨#[44, 32]⟩ = PT := HPT.out
        have h2 := HH.out
        have h3 : PT.size ≤ H.size := by rw [← h2]; simp only [size_app]; omega
        rw [h1]; omega))
      have hPT2 : jn (parL m.ps) ⟨#[44, 32]⟩ = PT := HPT.out
      rw [← hn5, hPT2] at HJ
      have HT5 := Lib.hid hb.2.2
      clear hb HB hn5 hPT2
      go_upto_region 6 with fail
      go_region_held3 (fun w' => w'.cell? ⟨w.heap.size, 0, none⟩ = some (.string mr) ∧ w'.cell? ⟨w.heap.size, 1, none⟩ = some (.string mn))
        (first | exact ⟨k0, k1⟩ | go_keep)
        (first
          | (go_at_call 13; (with_reducible refine HJ.out.mono ?_); rintro e w7 ⟨rfl, rfl⟩)
          | fail)
      obtain ⟨w8, hw8⟩ : ∃ z, wr.drew = z := ⟨_, rfl⟩
      rw [hw8]
      have HT8 : Hid (Turn [] W w8) := Lib.hid (by rw [← hw8]; exact HT5.out.drew)
      obtain ⟨y0, y1, y2, y3, y4, y5, y6, y7, y8⟩ := HCe.out w8 HT8.out
      clear hw8 k0 k1 k2 k3 k4 k5 k6 k7 k8 d1 d2 d3 d4 d5 d6 HJ
      cases mb with
      | true =>
        go_wp2_with fail
        go_ret
        have e : metR 0 m = [(0, cat [H, ⟨#[59]⟩])] := by rw [HMR.out, if_pos trivial]
        rw [e]
        refine ⟨_, _, rfl, ?_⟩
        have := (Bld.one w8 (H ++ ⟨#[59]⟩)).before (HT.out.trans' HT8.out)
        simpa [ln_zero, head_cat2] using this
      | false =>
        cases ms with
        | true =>
          have HC := Lib.hid (HBk.out w8 HT8.out (⟨#[115, 116, 97, 116, 105, 99, 32]⟩ ++ H) (by simp only [size_app, sz_lit, List.size_toArray, List.length_cons, List.length_nil]; omega))
          go_wp2_with fail
          refine HC.out.mono ?_
          rintro e w9 ⟨A9, c9, rfl, hb9⟩
          have HB9 := Lib.hid hb9
          clear hb9 HC
          go_wp2_with fail
          go_ret
          have e : metR 0 m = blkR 0 (⟨#[115, 116, 97, 116, 105, 99, 32]⟩ ++ H ++ openT) m := by rw [HMR.out, if_neg Bool.false_ne_true, if_pos trivial, head_cat]
          rw [e]
          exact ⟨A9, c9, rfl, HB9.out.before (HT.out.trans' HT8.out)⟩
        | false =>
          have HC := Lib.hid (HBk.out w8 HT8.out (H) (by omega))
          go_wp2_with fail
          refine HC.out.mono ?_
          rintro e w9 ⟨A9, c9, rfl, hb9⟩
          have HB9 := Lib.hid hb9
          clear hb9 HC
          go_wp2_with fail
          go_ret
          have e : metR 0 m = blkR 0 (H ++ openT) m := by rw [HMR.out, if_neg Bool.false_ne_true, if_neg Bool.false_ne_true, head_cat2]
          rw [e]
          exact ⟨A9, c9, rfl, HB9.out.before (HT.out.trans' HT8.out)⟩
end Go.Proofs.YtoekaehpcjhhaaaGreatDoor
