/- The reference's Program. -/
import Derived.Test.YtoekaehpcjhhaaaGreatDoorPgm
import Derived.Test.YtoekaehpcjhhaaaGreatDoorRc000
import Derived.Test.YtoekaehpcjhhaaaGreatDoorRc001
import Derived.Test.YtoekaehpcjhhaaaGreatDoorRc010
import Derived.Test.YtoekaehpcjhhaaaGreatDoorRc011
import Derived.Test.YtoekaehpcjhhaaaGreatDoorRc100
import Derived.Test.YtoekaehpcjhhaaaGreatDoorRc101
set_option linter.unusedSimpArgs false
set_option linter.unusedVariables false
namespace Go.Proofs.YtoekaehpcjhhaaaGreatDoor
open Go.RowKit

theorem rclass_any (B : Nat) (cs : List Value) (c : Cl) (w : World) (hr : RdC B w cs c) (hB : B ≤ w.heap.size) (hc : FtC c) (htg : TgC c) (hS : ∀ m ∈ c.ms, RSaidL m.bd) (hSI : ∀ m, c.init = some m → RSaidL m.bd) :
    Calls Tryz.prog 11 #[.agg cs.toArray] w fun e w' => ∃ A' c', e = .returned (.slice A' (clsR 0 c).length c') ∧ Bld w w' (.slice A' (clsR 0 c).length c') ((clsR 0 c).map ln) := by
  by_cases hf : c.faces.length = 0
  · cases hfa : c.face with
    | true => exact rclass_100 B cs c w hr hB hc htg hS hSI hfa hf
    | false =>
      by_cases hs : c.super.size = 0
      · exact rclass_000 B cs c w hr hB hc htg hS hSI hfa hs hf
      · exact rclass_010 B cs c w hr hB hc htg hS hSI hfa hs hf
  · cases hfa : c.face with
    | true => exact rclass_101 B cs c w hr hB hc htg hS hSI hfa hf
    | false =>
      by_cases hs : c.super.size = 0
      · exact rclass_001 B cs c w hr hB hc htg hS hSI hfa hs hf
      · exact rclass_011 B cs c w hr hB hc htg hS hSI hfa hs hf

theorem tail_ends : ∀ (l : List (List UInt8)) (a : List UInt8), a ++ Lib.joinTail [10] l ++ [10] = (a :: l).flatMap fun x => x ++ [10]
  | [], a => by simp [Lib.joinTail]
  | b :: l, a => by
    have e : Lib.joinTail [10] (b :: l) = 10 :: (b ++ Lib.joinTail [10] l) := by simp [Lib.joinTail]
    rw [e, List.flatMap_cons, ← tail_ends l b]
    simp
theorem txL_jn {R : List Row} (h : R ≠ []) : jn (R.map ln) ⟨#[10]⟩ ++ ⟨#[10]⟩ = mk (txL R) := by
  apply bs_inj
  rw [bs_append, bs_jn, bs_mk]
  cases R with
  | nil => exact absurd rfl h
  | cons r R =>
    rw [List.map_cons, List.map_cons, Lib.join_cons]
    have := tail_ends ((R.map ln).map bs) (bs (ln r))
    rw [show bs ⟨#[10]⟩ = [10] from rfl, this]
    unfold txL
    rw [List.flatMap_cons, List.flatMap_cons]
    congr 1
    rw [List.map_map, List.flatMap_map]
    rfl
theorem clsL_take {l : List Cl} {j : Nat} {c : Cl} (h : l[j]? = some c) : (clssR 0 (l.take (j + 1))).map ln = (clssR 0 (l.take j)).map ln ++ (clsR 0 c).map ln := by rw [clssR_take h, List.map_append]

set_option maxHeartbeats 8000000 in
set_option maxRecDepth 100000 in
theorem rprogram_any (B : Nat) (cs : List Value) (p : Pr) (w : World) (hr : RdP B w cs p) (hB : B ≤ w.heap.size) (hf : FtP p) (htg : TgP p) (hS : ∀ c ∈ p.cs, (∀ m ∈ c.ms, RSaidL m.bd) ∧ ∀ m, c.init = some m → RSaidL m.bd) (hSm : RSaidL p.main.bd) :
    Calls Tryz.prog 6 #[.agg cs.toArray] w fun e w' => e = .returned (.string (mk (txL (prgR p)))) ∧ Turn [] w w' := by
  obtain ⟨A0, c0, mc, rfl, hcs, hmn⟩ := hr
  have hmn0 := hmn
  obtain ⟨A1, c1, A2, c2, A3, c3, x, y, rfl, _, _, _⟩ := hmn
  have tA := bx w #[.slice A0 p.cs.length c0, .string p.main.ret, .string p.main.name, .bool p.main.stat, .bool p.main.bare, .slice A1 p.main.ps.length c1, .slice A2 p.main.ls.length c2, .slice A3 p.main.bd.length c3, .int .i64 x, .int .i64 y] 30
  obtain ⟨W, hW⟩ : ∃ W, w.alloc (.cells #[.slice A0 p.cs.length c0, .string p.main.ret, .string p.main.name, .bool p.main.stat, .bool p.main.bare, .slice A1 p.main.ps.length c1, .slice A2 p.main.ls.length c2, .slice A3 p.main.bd.length c3, .int .i64 x, .int .i64 y] 30) = W := ⟨_, rfl⟩
  have hg : W.heap[w.heap.size]? = some (.cells #[.slice A0 p.cs.length c0, .string p.main.ret, .string p.main.name, .bool p.main.stat, .bool p.main.bare, .slice A1 p.main.ps.length c1, .slice A2 p.main.ls.length c2, .slice A3 p.main.bd.length c3, .int .i64 x, .int .i64 y] 30 (0, 0)) := by rw [← hW]; exact heap_alloc_new w _
  rw [hW] at tA
  have HRC := Lib.hid (fun w' (ht : Turn [] W w') => (hcs.turn tA (by simp)).turn ht (by simp))
  have HCl := Lib.hid (fun w' (ht : Turn [] W w') c (hc : c ∈ p.cs) cs (hrd : RdC B w' cs c) => rclass_any B cs c w' hrd (Nat.le_trans hB (tA.trans' ht).size) (hf.cs.2 c hc) (htg.cs c hc) (hS c hc).1 (hS c hc).2)
  have HBk := Lib.hid (fun w' (ht : Turn [] W w') => rblock_any ⟨#[109, 97, 105, 110]⟩ B _ p.main w' (hmn0.turn (tA.trans' ht) (by simp)) (Nat.le_trans hB (tA.trans' ht).size) hf.main hSm (by decide))
  have HLc := Lib.hid (fun c (hc : c ∈ p.cs) => clsR_len 0 (hf.cs.2 c hc))
  have HLt := Lib.hid (fun j (hj : j < p.cs.length) => clssR_take_le 0 hf.cs (j := j) hj)
  have HLa := Lib.hid (clssR_len 0 hf.cs)
  have HLb := Lib.hid (blkR_len 0 (⟨#[109, 97, 105, 110]⟩ ++ openT) hf.main)
  have HPR : Hid ((clssR 0 p.cs).map ln ++ (blkR 0 (⟨#[109, 97, 105, 110]⟩ ++ openT) p.main).map ln = (prgR p).map ln) := Lib.hid (by
    unfold prgR
    rw [← List.map_append]
    have : mainT = ⟨#[109, 97, 105, 110]⟩ ++ openT := by unfold mainT; apply bs_inj; rw [bs_cat, bs_append]; rfl
    rw [this])
  have htx := (prgR_facts hf htg).2
  have hjt := txL_jn (prgR_ne p)
  have hjs : (jn ((prgR p).map ln) ⟨#[10]⟩).size ≤ 100000000000 := by
    have := congrArg ByteArray.size hjt
    rw [size_app, size_bs (mk _), bs_mk] at this
    omega
  have HPl := Lib.hid (prgR_len hf)
  have dj := add_run (jn ((prgR p).map ln) ⟨#[10]⟩) ⟨#[10]⟩ (by simp only [sz_lit, List.size_toArray, List.length_cons, List.length_nil]; omega)
  rw [hjt] at dj
  have HJ := Lib.hid (fun A c W' (hst : Sts W' A ((prgR p).map ln)) => rjoin_any A c ((prgR p).map ln) ⟨#[10]⟩ W' hst (by rw [List.length_map]; have := HPl.out; omega) (by omega))
  obtain ⟨JJ, hJJ⟩ : ∃ q, jn ((prgR p).map ln) ⟨#[10]⟩ = q := ⟨_, rfl⟩
  rw [hJJ] at dj HJ
  obtain ⟨ZZ, hZZ⟩ : ∃ q, mk (txL (prgR p)) = q := ⟨_, rfl⟩
  rw [hZZ] at dj ⊢
  obtain ⟨nc, hnc⟩ : ∃ q, p.cs.length = q := ⟨_, rfl⟩
  have HNC := Lib.hid hnc
  have hnc6 : nc ≤ 6 := by rw [← hnc]; exact hf.cs.1
  obtain ⟨mr, hmr⟩ : ∃ q, p.main.ret = q := ⟨_, rfl⟩
  obtain ⟨mn, hmn'⟩ : ∃ q, p.main.name = q := ⟨_, rfl⟩
  obtain ⟨ms, hms⟩ : ∃ q, p.main.stat = q := ⟨_, rfl⟩
  obtain ⟨mb, hmb⟩ : ∃ q, p.main.bare = q := ⟨_, rfl⟩
  obtain ⟨np, hnp⟩ : ∃ q, p.main.ps.length = q := ⟨_, rfl⟩
  obtain ⟨nl, hnl⟩ : ∃ q, p.main.ls.length = q := ⟨_, rfl⟩
  obtain ⟨nb, hnb⟩ : ∃ q, p.main.bd.length = q := ⟨_, rfl⟩
  rw [hnc, hmr, hmn', hms, hmb, hnp, hnl, hnb] at hg hW ⊢
  rw [hmr, hmn', hms, hmb, hnp, hnl, hnb] at HBk
  rw [hnc] at HLt
  have hce : ∀ w', Turn [] W w' → w'.cell? ⟨w.heap.size, 0, none⟩ = some (.slice A0 nc c0) ∧ w'.cell? ⟨w.heap.size, 1, none⟩ = some (.string mr) ∧ w'.cell? ⟨w.heap.size, 2, none⟩ = some (.string mn) ∧ w'.cell? ⟨w.heap.size, 3, none⟩ = some (.bool ms) ∧ w'.cell? ⟨w.heap.size, 4, none⟩ = some (.bool mb) ∧ w'.cell? ⟨w.heap.size, 5, none⟩ = some (.slice A1 np c1) ∧ w'.cell? ⟨w.heap.size, 6, none⟩ = some (.slice A2 nl c2) ∧ w'.cell? ⟨w.heap.size, 7, none⟩ = some (.slice A3 nb c3) ∧ w'.cell? ⟨w.heap.size, 8, none⟩ = some (.int .i64 x) ∧ w'.cell? ⟨w.heap.size, 9, none⟩ = some (.int .i64 y) := fun w' ht => by
    have h1 : ∀ (i : Nat) (v : Value), (#[.slice A0 nc c0, .string mr, .string mn, .bool ms, .bool mb, .slice A1 np c1, .slice A2 nl c2, .slice A3 nb c3, .int .i64 x, .int .i64 y] : Array Value)[i]? = some v → w'.cell? ⟨w.heap.size, i, none⟩ = some v := fun i v hv => (cell_of_row w' _ i _ _ _ (ht.heap hg (by simp))).trans hv
    exact ⟨h1 0 _ rfl, h1 1 _ rfl, h1 2 _ rfl, h1 3 _ rfl, h1 4 _ rfl, h1 5 _ rfl, h1 6 _ rfl, h1 7 _ rfl, h1 8 _ rfl, h1 9 _ rfl⟩
  have HCe := Lib.hid hce
  have HT := Lib.hid tA
  have HW := Lib.hid hW
  obtain ⟨m0, m1, m2, m3, m4, m5, m6, m7, m8, m9⟩ := hce W (Turn.refl _ _)
  clear hcs hmn0 tA hW hg hB hf htg hS hSm hce hnc hmr hmn' hms hmb hnp hnl hnb htx hjt hjs hJJ hZZ
  go_enter Tryz.func6, Tryz.ntmps6
  go_wp2_with fail
  rw [HW.out]
  go_loopw [3, 4] (fun v i wr => ∃ j : Nat, j ≤ nc ∧ i = .int .i64 (j : Int) ∧ Hid (Bld W wr v ((clssR 0 (p.cs.take j)).map ln))) (fun _ i _ => nc - (intOf i).toNat)
  case atStart => exact ⟨0, Nat.zero_le _, rfl, Lib.hid (by simpa [clssR] using Bld.nil W)⟩
  case round =>
    obtain ⟨j, hj, rfl, HB⟩ := hrel
    obtain ⟨k0, k1, k2, k3, k4, k5, k6, k7, k8, k9⟩ := HCe.out wr HB.out.2.2
    by_cases hlt : j < nc
    · obtain ⟨c, hc⟩ := at_lt (l := p.cs) (k := j) (by rw [HNC.out]; exact hlt)
      obtain ⟨g, off, cs, hA0, ⟨_, hgB, hgl, hcell⟩, hRd⟩ := HRC.out wr HB.out.2.2 j c hc
      subst hA0
      have HC := Lib.hid (HCl.out wr HB.out.2.2 c (List.mem_of_getElem? hc) cs hRd)
      have HX := Lib.hid (clsL_take hc)
      have hl0 := HLt.out j hlt
      have hl1 := HLc.out c (List.mem_of_getElem? hc)
      obtain ⟨B3, b3, B4, b4, B5, b5, B6, b6, I, p', q', rfl, _, _, _, _, _, _, _⟩ := hRd
      simp only at hcell hgl
      have e0 : wr.cell? ⟨g, off + j * 10, none⟩ = some (.string c.name) := hcell 0 _ rfl
      have e1 := hcell 1 _ rfl
      have e2 := hcell 2 _ rfl
      have e3 := hcell 3 _ rfl
      have e4 := hcell 4 _ rfl
      have e5 := hcell 5 _ rfl
      have e6 := hcell 6 _ rfl
      have e7 := hcell 7 _ rfl
      have e8 := hcell 8 _ rfl
      have e9 := hcell 9 _ rfl
      obtain ⟨nr, hnr⟩ : ∃ z, (clsR 0 c).length = z := ⟨_, rfl⟩
      rw [hnr] at HC hl1
      have HLm : Hid (((clsR 0 c).map ln).length = nr) := Lib.hid (by rw [List.length_map]; exact hnr)
      have HL0 : Hid (((clssR 0 (p.cs.take j)).map ln).length ≤ 70000000) := Lib.hid (by rw [List.length_map]; omega)
      clear hcell hc hnr
      go_wp2_with fail
      refine HC.out.mono ?_
      rintro e w7 ⟨A7, c7, rfl, hb7⟩
      have HB7 := Lib.hid hb7
      clear hb7 e0 e1 e2 e3 e4 e5 e6 e7 e8 e9 HC
      go_wp2_with (first
        | (at_builtin; refine wpList_bld rfl (.tmp 12) (.tmp 18) rfl W w7 u3 ((clssR 0 (p.cs.take j)).map ln) ((clsR 0 c).map ln) A7 nr c7 rfl rfl (HB.out.turn' HB7.out.2.2) (OwnS.sts HB7.out.1).2.2 HLm.out.symm (by rw [HLm.out]; have := HL0.out; omega) ?_
           intro v8 w8 hb8
           have HB8 := Lib.hid hb8
           clear hb8)
        | fail)
      go_roundw
      case rel => exact ⟨j + 1, by omega, by go_num, Lib.hid (by rw [HX.out]; exact HB8.out)⟩
      case measure => simp [intOf]; omega
    · have hjn : j = nc := by omega
      subst hjn
      have hb := HB.out
      rw [List.take_of_length_le (l := p.cs) (by rw [HNC.out]; exact Nat.le_refl _)] at hb
      have HB5 := Lib.hid hb
      have HC := Lib.hid (HBk.out wr hb.2.2)
      obtain ⟨nr, hnr⟩ : ∃ z, (blkR 0 (⟨#[109, 97, 105, 110]⟩ ++ openT) p.main).length = z := ⟨_, rfl⟩
      rw [hnr] at HC HLb
      have HLm : Hid (((blkR 0 (⟨#[109, 97, 105, 110]⟩ ++ openT) p.main).map ln).length = nr) := Lib.hid (by rw [List.length_map]; exact hnr)
      clear hb HB hnr
      go_wp2_with fail
      refine HC.out.mono ?_
      rintro e w7 ⟨A7, c7, rfl, hb7⟩
      have HB7 := Lib.hid hb7
      clear hb7 HC
      go_upto_region 7 with (first
        | (at_builtin; refine wpList_bld rfl (.tmp 20) (.tmp 23) rfl W w7 u3 ((clssR 0 p.cs).map ln) ((blkR 0 (⟨#[109, 97, 105, 110]⟩ ++ openT) p.main).map ln) A7 nr c7 rfl rfl (HB5.out.turn' HB7.out.2.2) (OwnS.sts HB7.out.1).2.2 HLm.out.symm (by rw [HLm.out, List.length_map]; have := HLa.out; have := HLb.out; omega) ?_
           intro v8 w8 hb8
           rw [HPR.out] at hb8
           obtain ⟨A8, n8, c8, rfl⟩ := hb8.form
           have HB8 := Lib.hid hb8
           clear hb8)
        | fail)
      have hn8 := (OwnS.sts HB8.out.1).1
      have HC := Lib.hid (HJ.out A8 c8 w8 (OwnS.sts HB8.out.1).2.2)
      rw [← hn8] at HC
      clear hn8
      go_wp2_with fail
      refine HC.out.mono ?_
      rintro e w9 ⟨rfl, rfl⟩
      go_wp2_with fail
      go_ret
      exact ⟨rfl, HT.out.trans' HB8.out.2.2⟩
end Go.Proofs.YtoekaehpcjhhaaaGreatDoor
