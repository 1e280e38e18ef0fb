import Derived.Test.YtoekaehpcjhhaaaGreatDoorPsa
import Derived.Test.YtoekaehpcjhhaaaGreatDoorRca
import Derived.Test.YtoekaehpcjhhaaaGreatDoorRcb
import Derived.Test.YtoekaehpcjhhaaaGreatDoorLsa
import Derived.Test.YtoekaehpcjhhaaaGreatDoorRsd
import Derived.Test.YtoekaehpcjhhaaaGreatDoorShl
import Derived.Test.YtoekaehpcjhhaaaGreatDoorAns

/- The reference's Program. -/
set_option linter.unusedSimpArgs false
set_option linter.unusedVariables false
namespace Go.Proofs.YtoekaehpcjhhaaaGreatDoor
open Go.RowKit

theorem rclass_any (B : Nat) (cs : List Value) (c : Cl) (w : World) (hr : RdC B w cs c) (hB : B ≤ w.heap.size) (hc : FtC c) (htg : TgC c) (hS : ∀ m ∈ c.ms, RSaidL m.bd) (hSI : ∀ m, c.init = some m → RSaidL m.bd) :
    Calls Tryz.prog 11 #[.agg cs.toArray] w fun e w' => ∃ A' c', e = .returned (.slice A' (clsR 0 c).length c') ∧ Bld w w' (.slice A' (clsR 0 c).length c') ((clsR 0 c).map ln) := by
  by_cases hf : c.faces.length = 0
  · cases hfa : c.face with
    | true => exact rclass_100 B cs c w hr hB hc htg hS hSI hfa hf
    | false =>
      by_cases hs : c.super.size = 0
      · exact rclass_000 B cs c w hr hB hc htg hS hSI hfa hs hf
      · exact rclass_010 B cs c w hr hB hc htg hS hSI hfa hs hf
  · cases hfa : c.face with
    | true => exact rclass_101 B cs c w hr hB hc htg hS hSI hfa hf
    | false =>
      by_cases hs : c.super.size = 0
      · exact rclass_001 B cs c w hr hB hc htg hS hSI hfa hs hf
      · exact rclass_011 B cs c w hr hB hc htg hS hSI hfa hs hf

theorem tail_ends : ∀ (l : List (List UInt8)) (a : List UInt8), a ++ Lib.joinTail [10] l ++ [10] = (a :: l).flatMap fun x => x ++ [10]
  | [], a => by simp [Lib.joinTail]
  | b :: l, a => by
    have e : Lib.joinTail [10] (b :: l) = 10 :: (b ++ Lib.joinTail [10] l) := by simp [Lib.joinTail]
    rw [e, List.flatMap_cons, ← tail_ends l b]
    simp
theorem txL_jn {R : List Row} (h : R ≠ []) : jn (R.map ln) ⟨#[10]⟩ ++ ⟨#[10]⟩ = mk (txL R) := by
  apply bs_inj
  rw [bs_append, bs_jn, bs_mk]
  cases R with
  | nil => exact absurd rfl h
  | cons r R =>
    rw [List.map_cons, List.map_cons, Lib.join_cons]
    have := tail_ends ((R.map ln).map bs) (bs (ln r))
    rw [show bs ⟨#[10]⟩ = [10] from rfl, this]
    unfold txL
    rw [List.flatMap_cons, List.flatMap_cons]
    congr 1
    rw [List.map_map, List.flatMap_map]
    rfl
theorem clsL_take {l : List Cl} {j : Nat} {c : Cl} (h : l[j]? = some c) : (clssR 0 (l.take (j + 1))).map ln = (clssR 0 (l.take j)).map ln ++ (clsR 0 c).map ln := by rw [clssR_take h, List.map_append]

set_option maxHeartbeats 8000000 in
set_option maxRecDepth 100000 in
theorem rprogram_any (B : Nat) (cs : List Value) (p : Pr) (w : World) (hr : RdP B w cs p) (hB : B ≤ w.heap.size) (hf : FtP p) (htg : TgP p) (hS : ∀ c ∈ p.cs, (∀ m ∈ c.ms, RSaidL m.bd) ∧ ∀ m, c.init = some m → RSaidL m.bd) (hSm : RSaidL p.main.bd) :
    Calls Tryz.prog 6 #[.agg cs.toArray] w fun e w' => e = .returned (.string (mk (txL (prgR p)))) ∧ Turn [] w w' := by
  obtain ⟨A0, c0, mc, rfl, hcs, hmn⟩ := hr
  have hmn0 := hmn
  obtain ⟨A1, c1, A2, c2, A3, c3, x, y, rfl, _, _, _⟩ := hmn
  have tA := bx w #[.slice A0 p.cs.length c0, .string p.main.ret, .string p.main.name, .bool p.main.stat, .bool p.main.bare, .slice A1 p.main.ps.length c1, .slice A2 p.main.ls.length c2, .slice A3 p.main.bd.length c3, .int .i64 x, .int .i64 y] 30
  obtain ⟨W, hW⟩ : ∃ W, w.alloc (.cells #[.slice A0 p.cs.length c0, .string p.main.ret, .string p.main.name, .bool p.main.stat, .bool p.main.bare, .slice A1 p.main.ps.length c1, .slice A2 p.main.ls.length c2, .slice A3 p.main.bd.length c3, .int .i64 x, .int .i64 y] 30) = W := ⟨_, rfl⟩
  have hg : W.heap[w.heap.size]? = some (.cells #[.slice A0 p.cs.length c0, .string p.main.ret, .string p.main.name, .bool p.main.stat, .bool p.main.bare, .slice A1 p.main.ps.length c1, .slice A2 p.main.ls.length c2, .slice A3 p.main.bd.length c3, .int .i64 x, .int .i64 y] 30 (0, 0)) := by rw [← hW]; exact heap_alloc_new w _
  rw [hW] at tA
  have HRC := Lib.hid (fun w' (ht : Turn [] W w') => (hcs.turn tA (by simp)).turn ht (by simp))
  have HCl := Lib.hid (fun w' (ht : Turn [] W w') c (hc : c ∈ p.cs) cs (hrd : RdC B w' cs c) => rclass_any B cs c w' hrd (Nat.le_trans hB (tA.trans' ht).size) (hf.cs.2 c hc) (htg.cs c hc) (hS c hc).1 (hS c hc).2)
  have HBk := Lib.hid (fun w' (ht : Turn [] W w') => rblock_any ⟨#[109, 97, 105, 110]⟩ B _ p.main w' (hmn0.turn (tA.trans' ht) (by simp)) (Nat.le_trans hB (tA.trans' ht).size) hf.main hSm (by decide))
  have HLc := Lib.hid (fun c (hc : c ∈ p.cs) => clsR_len 0 (hf.cs.2 c hc))
  have HLt := Lib.hid (fun j (hj : j < p.cs.length) => clssR_take_le 0 hf.cs (j := j) hj)
  have HLa := Lib.hid (clssR_len 0 hf.cs)
  have HLb := Lib.hid (blkR_len 0 (⟨#[109, 97, 105, 110]⟩ ++ openT) hf.main)
  have HPR : Hid ((clssR 0 p.cs).map ln ++ (blkR 0 (⟨#[109, 97, 105, 110]⟩ ++ openT) p.main).map ln = (prgR p).map ln) := Lib.hid (by
    unfold prgR
    rw [← List.map_append]
    have : mainT = ⟨#[109, 97, 105, 110]⟩ ++ openT := by unfold mainT; apply bs_inj; rw [bs_cat, bs_append]; rfl
    rw [this])
  have htx := (prgR_facts hf htg).2
  have hjt := txL_jn (prgR_ne p)
  have hjs : (jn ((prgR p).map ln) ⟨#[10]⟩).size ≤ 100000000000 := by
    have := congrArg ByteArray.size hjt
    rw [size_app, size_bs (mk _), bs_mk] at this
    omega
  have HPl := Lib.hid (prgR_len hf)
  have dj := add_run (jn ((prgR p).map ln) ⟨#[10]⟩) ⟨#[10]⟩ (by simp only [sz_lit, List.size_toArray, List.length_cons, List.length_nil]; omega)
  rw [hjt] at dj
  have HJ := Lib.hid (fun A c W' (hst : Sts W' A ((prgR p).map ln)) => rjoin_any A c ((prgR p).map ln) ⟨#[10]⟩ W' hst (by rw [List.length_map]; have := HPl.out; omega) (by omega))
  obtain ⟨JJ, hJJ⟩ : ∃ q, jn ((prgR p).map ln) ⟨#[10]⟩ = q := ⟨_, rfl⟩
  rw [hJJ] at dj HJ
  obtain ⟨ZZ, hZZ⟩ : ∃ q, mk (txL (prgR p)) = q := ⟨_, rfl⟩
  rw [hZZ] at dj ⊢
  obtain ⟨nc, hnc⟩ : ∃ q, p.cs.length = q := ⟨_, rfl⟩
  have HNC := Lib.hid hnc
  have hnc6 : nc ≤ 6 := by rw [← hnc]; exact hf.cs.1
  obtain ⟨mr, hmr⟩ : ∃ q, p.main.ret = q := ⟨_, rfl⟩
  obtain ⟨mn, hmn'⟩ : ∃ q, p.main.name = q := ⟨_, rfl⟩
  obtain ⟨ms, hms⟩ : ∃ q, p.main.stat = q := ⟨_, rfl⟩
  obtain ⟨mb, hmb⟩ : ∃ q, p.main.bare = q := ⟨_, rfl⟩
  obtain ⟨np, hnp⟩ : ∃ q, p.main.ps.length = q := ⟨_, rfl⟩
  obtain ⟨nl, hnl⟩ : ∃ q, p.main.ls.length = q := ⟨_, rfl⟩
  obtain ⟨nb, hnb⟩ : ∃ q, p.main.bd.length = q := ⟨_, rfl⟩
  rw [hnc, hmr, hmn', hms, hmb, hnp, hnl, hnb] at hg hW ⊢
  rw [hmr, hmn', hms, hmb, hnp, hnl, hnb] at HBk
  rw [hnc] at HLt
  have hce : ∀ w', Turn [] W w' → w'.cell? ⟨w.heap.size, 0, none⟩ = some (.slice A0 nc c0) ∧ w'.cell? ⟨w.heap.size, 1, none⟩ = some (.string mr) ∧ w'.cell? ⟨w.heap.size, 2, none⟩ = some (.string mn) ∧ w'.cell? ⟨w.heap.size, 3, none⟩ = some (.bool ms) ∧ w'.cell? ⟨w.heap.size, 4, none⟩ = some (.bool mb) ∧ w'.cell? ⟨w.heap.size, 5, none⟩ = some (.slice A1 np c1) ∧ w'.cell? ⟨w.heap.size, 6, none⟩ = some (.slice A2 nl c2) ∧ w'.cell? ⟨w.heap.size, 7, none⟩ = some (.slice A3 nb c3) ∧ w'.cell? ⟨w.heap.size, 8, none⟩ = some (.int .i64 x) ∧ w'.cell? ⟨w.heap.size, 9, none⟩ = some (.int .i64 y) := fun w' ht => by
    have h1 : ∀ (i : Nat) (v : Value), (#[.slice A0 nc c0, .string mr, .string mn, .bool ms, .bool mb, .slice A1 np c1, .slice A2 nl c2, .slice A3 nb c3, .int .i64 x, .int .i64 y] : Array Value)[i]? = some v → w'.cell? ⟨w.heap.size, i, none⟩ = some v := fun i v hv => (cell_of_row w' _ i _ _ _ (ht.heap hg (by simp))).trans hv
    exact ⟨h1 0 _ rfl, h1 1 _ rfl, h1 2 _ rfl, h1 3 _ rfl, h1 4 _ rfl, h1 5 _ rfl, h1 6 _ rfl, h1 7 _ rfl, h1 8 _ rfl, h1 9 _ rfl⟩
  have HCe := Lib.hid hce
  have HT := Lib.hid tA
  have HW := Lib.hid hW
  obtain ⟨m0, m1, m2, m3, m4, m5, m6, m7, m8, m9⟩ := hce W (Turn.refl _ _)
  clear hcs hmn0 tA hW hg hB hf htg hS hSm hce hnc hmr hmn' hms hmb hnp hnl hnb htx hjt hjs hJJ hZZ
  go_enter Tryz.func6, Tryz.ntmps6
  go_wp2_with fail
  rw [HW.out]
  go_loopw [3, 4] (fun v i wr => ∃ j : Nat, j ≤ nc ∧ i = .int .i64 (j : Int) ∧ Hid (Bld W wr v ((clssR 0 (p.cs.take j)).map ln))) (fun _ i _ => nc - (intOf i).toNat)
  case atStart => exact ⟨0, Nat.zero_le _, rfl, Lib.hid (by simpa [clssR] using Bld.nil W)⟩
  case round =>
    obtain ⟨j, hj, rfl, HB⟩ := hrel
    obtain ⟨k0, k1, k2, k3, k4, k5, k6, k7, k8, k9⟩ := HCe.out wr HB.out.2.2
    by_cases hlt : j < nc
    · obtain ⟨c, hc⟩ := at_lt (l := p.cs) (k := j) (by rw [HNC.out]; exact hlt)
      obtain ⟨g, off, cs, hA0, ⟨_, hgB, hgl, hcell⟩, hRd⟩ := HRC.out wr HB.out.2.2 j c hc
      subst hA0
      have HC := Lib.hid (HCl.out wr HB.out.2.2 c (List.mem_of_getElem? hc) cs hRd)
      have HX := Lib.hid (clsL_take hc)
      have hl0 := HLt.out j hlt
      have hl1 := HLc.out c (List.mem_of_getElem? hc)
      obtain ⟨B3, b3, B4, b4, B5, b5, B6, b6, I, p', q', rfl, _, _, _, _, _, _, _⟩ := hRd
      simp only at hcell hgl
      have e0 : wr.cell? ⟨g, off + j * 10, none⟩ = some (.string c.name) := hcell 0 _ rfl
      have e1 := hcell 1 _ rfl
      have e2 := hcell 2 _ rfl
      have e3 := hcell 3 _ rfl
      have e4 := hcell 4 _ rfl
      have e5 := hcell 5 _ rfl
      have e6 := hcell 6 _ rfl
      have e7 := hcell 7 _ rfl
      have e8 := hcell 8 _ rfl
      have e9 := hcell 9 _ rfl
      obtain ⟨nr, hnr⟩ : ∃ z, (clsR 0 c).length = z := ⟨_, rfl⟩
      rw [hnr] at HC hl1
      have HLm : Hid (((clsR 0 c).map ln).length = nr) := Lib.hid (by rw [List.length_map]; exact hnr)
      have HL0 : Hid (((clssR 0 (p.cs.take j)).map ln).length ≤ 70000000) := Lib.hid (by rw [List.length_map]; omega)
      clear hcell hc hnr
      go_wp2_with fail
      refine HC.out.mono ?_
      rintro e w7 ⟨A7, c7, rfl, hb7⟩
      have HB7 := Lib.hid hb7
      clear hb7 e0 e1 e2 e3 e4 e5 e6 e7 e8 e9 HC
      go_wp2_with (first
        | (at_builtin; refine wpList_bld rfl (.tmp 12) (.tmp 18) rfl W w7 u3 ((clssR 0 (p.cs.take j)).map ln) ((clsR 0 c).map ln) A7 nr c7 rfl rfl (HB.out.turn' HB7.out.2.2) (OwnS.sts HB7.out.1).2.2 HLm.out.symm (by rw [HLm.out]; have := HL0.out; omega) ?_
           intro v8 w8 hb8
           have HB8 := Lib.hid hb8
           clear hb8)
        | fail)
      go_roundw
      case rel => exact ⟨j + 1, by omega, by go_num, Lib.hid (by rw [HX.out]; exact HB8.out)⟩
      case measure => simp [intOf]; omega
    · have hjn : j = nc := by omega
      subst hjn
      have hb := HB.out
      rw [List.take_of_length_le (l := p.cs) (by rw [HNC.out]; exact Nat.le_refl _)] at hb
      have HB5 := Lib.hid hb
      have HC := Lib.hid (HBk.out wr hb.2.2)
      obtain ⟨nr, hnr⟩ : ∃ z, (blkR 0 (⟨#[109, 97, 105, 110]⟩ ++ openT) p.main).length = z := ⟨_, rfl⟩
      rw [hnr] at HC HLb
      have HLm : Hid (((blkR 0 (⟨#[109, 97, 105, 110]⟩ ++ openT) p.main).map ln).length = nr) := Lib.hid (by rw [List.length_map]; exact hnr)
      clear hb HB hnr
      go_wp2_with fail
      refine HC.out.mono ?_
      rintro e w7 ⟨A7, c7, rfl, hb7⟩
      have HB7 := Lib.hid hb7
      clear hb7 HC
      go_upto_region 7 with (first
        | (at_builtin; refine wpList_bld rfl (.tmp 20) (.tmp 23) rfl W w7 u3 ((clssR 0 p.cs).map ln) ((blkR 0 (⟨#[109, 97, 105, 110]⟩ ++ openT) p.main).map ln) A7 nr c7 rfl rfl (HB5.out.turn' HB7.out.2.2) (OwnS.sts HB7.out.1).2.2 HLm.out.symm (by rw [HLm.out, List.length_map]; have := HLa.out; have := HLb.out; omega) ?_
           intro v8 w8 hb8
           rw [HPR.out] at hb8
           obtain ⟨A8, n8, c8, rfl⟩ := hb8.form
           have HB8 := Lib.hid hb8
           clear hb8)
        | fail)
      have hn8 := (OwnS.sts HB8.out.1).1
      have HC := Lib.hid (HJ.out A8 c8 w8 (OwnS.sts HB8.out.1).2.2)
      rw [← hn8] at HC
      clear hn8
      go_wp2_with fail
      refine HC.out.mono ?_
      rintro e w9 ⟨rfl, rfl⟩
      go_wp2_with fail
      go_ret
      exact ⟨rfl, HT.out.trans' HB8.out.2.2⟩
end Go.Proofs.YtoekaehpcjhhaaaGreatDoor

/- What follows from a program's being small; texts tell lines apart. -/
set_option linter.unusedSimpArgs false
set_option linter.unusedVariables false
namespace Go.Proofs.YtoekaehpcjhhaaaGreatDoor
open Go.RowKit

/-- No text is greater than what can come in. -/
def BkV (l : List Vr) : Prop := ∀ v ∈ l, v.1.size ≤ 1048576 ∧ v.2.size ≤ 1048576
def BkM (m : Mt) : Prop := OkM m ∧ BkV m.ps ∧ BkV m.ls
structure BkC (c : Cl) : Prop where
  name : c.name.size ≤ 1048576
  super : c.super.size ≤ 1048576
  faces : ∀ f ∈ c.faces, f.size ≤ 1048576
  fs : BkV c.fs
  ss : BkV c.ss
  ms : ∀ m ∈ c.ms, BkM m
  init : ∀ m, c.init = some m → BkM m
structure BkP (p : Pr) : Prop where
  cs : ∀ c ∈ p.cs, BkC c
  main : BkM p.main

theorem BkP.ok {p : Pr} (h : BkP p) : OkP p := ⟨h.main.1, fun c hc => ⟨fun m hm => ((h.cs c hc).ms m hm).1, fun m hm => ((h.cs c hc).init m hm).1⟩⟩
theorem met_facts {m : Mt} (h : smM m = true) (hb : BkM m) : FtM m ∧ TgM m ∧ RSaidL m.bd := by
  unfold smM at h
  simp only [Bool.and_eq_true, decide_eq_true_eq] at h
  obtain ⟨a, b, c, d⟩ := h
  obtain ⟨f1, f2, f3, f4⟩ := sm_facts 5 m.bd d hb.1.2.2
  refine ⟨⟨by omega, by omega, ⟨by omega, hb.2.1⟩, ⟨by omega, hb.2.2⟩, f1, f2, f3, fun D => Nat.le_trans (f4 D) (by decide)⟩, fun D r hr => ?_, rall (by omega) d hb.1.2.2⟩
  have := rwL_tight 5 m.bd D d hb.1.2.2 r hr
  exact ⟨this.1, by omega⟩
theorem cls_facts {c : Cl} (h : smC c = true) (hb : BkC c) : FtC c ∧ TgC c ∧ (∀ m ∈ c.ms, RSaidL m.bd) ∧ ∀ m, c.init = some m → RSaidL m.bd := by
  unfold smC at h
  simp only [Bool.and_eq_true, decide_eq_true_eq, List.all_eq_true] at h
  obtain ⟨h1, h2, h3, h4, h5, h6⟩ := h
  have hm : ∀ m ∈ c.ms, FtM m ∧ TgM m ∧ RSaidL m.bd := fun m hm => met_facts (h6 m hm) (hb.ms m hm)
  have hi : ∀ m, c.init = some m → FtM m ∧ TgM m ∧ RSaidL m.bd := fun m hm => met_facts (by rw [hm] at h5; exact h5) (hb.init m hm)
  exact ⟨⟨hb.name, hb.super, ⟨by omega, hb.faces⟩, ⟨by omega, hb.fs⟩, ⟨by omega, hb.ss⟩, ⟨h4, fun m q => (hm m q).1⟩, fun m q => (hi m q).1⟩, ⟨fun m q => (hm m q).2.1, fun m q => (hi m q).2.1⟩, fun m q => (hm m q).2.2, fun m q => (hi m q).2.2⟩
/-- All that the contracts ask of a program. -/
structure Good (p : Pr) : Prop where
  ft : FtP p
  tg : TgP p
  cs : ∀ c ∈ p.cs, (∀ m ∈ c.ms, RSaidL m.bd) ∧ ∀ m, c.init = some m → RSaidL m.bd
  main : RSaidL p.main.bd
theorem good_of {p : Pr} (h : smP p = true) (hb : BkP p) : Good p := by
  unfold smP at h
  simp only [Bool.and_eq_true, decide_eq_true_eq, List.all_eq_true] at h
  obtain ⟨h1, h2, h3⟩ := h
  have hc : ∀ c ∈ p.cs, _ := fun c q => cls_facts (h3 c q) (hb.cs c q)
  have hm := met_facts h2 hb.main
  exact ⟨⟨⟨h1, fun c q => (hc c q).1⟩, hm.1⟩, ⟨fun c q => (hc c q).2.1, hm.2.1⟩, fun c q => (hc c q).2.2, hm.2.2⟩

theorem idx10 : ∀ (l : List UInt8), (Lib.index l [10] = -1 ∧ (10 : UInt8) ∉ l) ∨ ∃ (i : Nat) (a b : List UInt8), Lib.index l [10] = i ∧ l = a ++ 10 :: b ∧ a.length = i ∧ (10 : UInt8) ∉ a
  | [] => .inl ⟨rfl, by simp⟩
  | c :: l => by
    by_cases hc : (10 : UInt8) = c
    · subst hc
      exact .inr ⟨0, [], l, by unfold Lib.index; rw [if_pos (by simp [List.isPrefixOf])]; rfl, rfl, rfl, by simp⟩
    · have hp : ¬ (List.isPrefixOf [10] (c :: l)) = true := by simp [List.isPrefixOf, hc]
      rcases idx10 l with ⟨h1, h2⟩ | ⟨i, a, b, h1, h2, h3, h4⟩
      · exact .inl ⟨by unfold Lib.index; rw [if_neg hp, h1]; rfl, by simp [hc, h2]⟩
      · refine .inr ⟨i + 1, c :: a, b, ?_, by rw [h2]; rfl, by simp [h3], by simp [hc, h4]⟩
        unfold Lib.index
        rw [if_neg hp, h1]
        have : ¬ ((i : Int) == -1) = true := by simp
        rw [if_neg this]
        rfl
theorem split10 : ∀ (k : Nat) (X : ByteArray), Lib.countB X ⟨#[10]⟩ = k → (∀ t ∈ Lib.splitB ⟨#[10]⟩ 0 k X, (10 : UInt8) ∉ bs t) ∧ (Lib.splitB ⟨#[10]⟩ 0 k X).flatMap (fun x => bs x ++ [10]) = bs X ++ [10] := by
  intro k
  induction k with
  | zero =>
    intro X hk
    rcases idx10 (bs X) with ⟨h1, h2⟩ | ⟨i, a, b, h1, h2, h3, h4⟩
    · rw [Lib.splitB_zero]
      exact ⟨by simpa using h2, by simp⟩
    · have := Lib.countB_hit X ⟨#[10]⟩ i (by decide) h1
      omega
  | succ k ih =>
    intro X hk
    rcases idx10 (bs X) with ⟨h1, h2⟩ | ⟨i, a, b, h1, h2, h3, h4⟩
    · have := Lib.countB_miss X ⟨#[10]⟩ h1
      omega
    · have hh := Lib.countB_hit X ⟨#[10]⟩ i (by decide) h1
      rw [Lib.splitB_hit ⟨#[10]⟩ 0 k X i h1]
      have e1 : bs (X.extract 0 (i + 0)) = a := by
        have : bs (X.extract 0 (i + 0)) = (bs X).take i := by unfold bs; rw [Lib.extract_from_zero]; rfl
        rw [this, h2, ← h3, List.take_left]
      have e2 : bs (X.extract (i + (⟨#[10]⟩ : ByteArray).size) X.size) = b := by
        have : bs (X.extract (i + 1) X.size) = (bs X).drop (i + 1) := by unfold bs; rw [Lib.extract_to_end]
        rw [show (⟨#[10]⟩ : ByteArray).size = 1 from rfl, this, h2, ← h3]
        simp
      obtain ⟨r1, r2⟩ := ih (X.extract (i + (⟨#[10]⟩ : ByteArray).size) X.size) (by omega)
      refine ⟨fun t ht => ?_, ?_⟩
      · rcases List.mem_cons.1 ht with rfl | ht
        · rw [e1]; exact h4
        · exact r1 t ht
      · rw [List.flatMap_cons, r2, e1, e2, h2]
        simp

/-- Lines put back. -/
def unl (L : List Row) : List UInt8 := L.flatMap fun r => List.replicate r.1 32 ++ bs r.2 ++ [10]
theorem unl_P : ∀ (ts : List ByteArray) (t : ByteArray) (a : Nat), unl (lnsP a (t :: ts)) = List.replicate a 32 ++ (t :: ts).flatMap fun x => bs x ++ [10]
  | [], t, a => by
    unfold unl lnsP lnsP
    simp only [List.flatMap_cons, List.flatMap_nil, List.append_nil]
    rw [← pc_ln, List.append_assoc]
  | u :: ts, t, a => by
    have ih := unl_P ts u 0
    have e : unl (lnsP a (t :: u :: ts)) = (List.replicate (pc a t).1 32 ++ bs (pc a t).2 ++ [10]) ++ unl (lnsP 0 (u :: ts)) := by
      show unl (pc a t :: lnsP 0 (u :: ts)) = _
      unfold unl
      rw [List.flatMap_cons]
    rw [e, ih, ← pc_ln, List.flatMap_cons (x := t)]
    simp
theorem unl_append (L M : List Row) : unl (L ++ M) = unl L ++ unl M := by unfold unl; rw [List.flatMap_append]
theorem unl_lns : ∀ (R : List Row), unl (lns R) = txL R
  | [] => rfl
  | r :: R => by
    have e : lns (r :: R) = lnsP (2 * r.1) (pcs r.2) ++ lns R := by unfold lns; rw [List.flatMap_cons]
    have e2 : txL (r :: R) = (List.replicate (2 * r.1) 32 ++ bs r.2 ++ [10]) ++ txL R := by unfold txL; rw [List.flatMap_cons]; unfold ln; rw [bs_mk]
    rw [e, e2, unl_append, unl_lns R]
    congr 1
    have hp := (split10 _ r.2 rfl).2
    have hl := pcs_len r.2
    change (pcs r.2).flatMap _ = _ at hp
    cases hq : pcs r.2 with
    | nil => rw [hq] at hl; simp at hl
    | cons t ts =>
      rw [hq] at hp
      rw [unl_P, hp, List.append_assoc]
/-- A line as it is told. -/
def Pcd (r : Row) : Prop := ∃ a t, r = pc a t ∧ (10 : UInt8) ∉ bs t
theorem lnsP_pcd : ∀ (ts : List ByteArray) (a : Nat), (∀ t ∈ ts, (10 : UInt8) ∉ bs t) → ∀ r ∈ lnsP a ts, Pcd r
  | [], a, _ => by unfold lnsP; simp
  | t :: ts, a, h => by
    intro r hr
    unfold lnsP at hr
    rcases List.mem_cons.1 hr with rfl | hr
    · exact ⟨a, t, rfl, h t (by simp)⟩
    · exact lnsP_pcd ts 0 (fun u hu => h u (by simp [hu])) r hr
theorem lns_pcd (R : List Row) : ∀ r ∈ lns R, Pcd r := by
  intro r hr
  obtain ⟨q, _, hq⟩ := List.mem_flatMap.1 hr
  exact lnsP_pcd _ _ (split10 _ q.2 rfl).1 r hq
theorem unl_inj : ∀ (L M : List Row), (∀ r ∈ L, Pcd r) → (∀ r ∈ M, Pcd r) → unl L = unl M → L = M
  | [], [], _, _, _ => rfl
  | [], r :: M, _, _, h => by
    unfold unl at h
    rw [List.flatMap_cons] at h
    simp at h
  | r :: L, [], _, _, h => by
    unfold unl at h
    rw [List.flatMap_cons] at h
    simp at h
  | r :: L, s :: M, hL, hM, h => by
    obtain ⟨a, t, rfl, ht⟩ := hL r (by simp)
    obtain ⟨b, u, rfl, hu⟩ := hM s (by simp)
    have e : ∀ (c : Nat) (v : ByteArray) (N : List Row), unl (pc c v :: N) = (List.replicate c 32 ++ bs v) ++ 10 :: unl N := fun c v N => by
      unfold unl
      rw [List.flatMap_cons, ← pc_ln]
      simp
    rw [e, e] at h
    have n32 : ∀ (c : Nat) {v : ByteArray}, (10 : UInt8) ∉ bs v → (10 : UInt8) ∉ List.replicate c 32 ++ bs v := fun c v hv => by
      rw [List.mem_append, not_or]
      exact ⟨fun hc => absurd (List.eq_of_mem_replicate hc) (by decide), hv⟩
    obtain ⟨h1, h2⟩ := cut10 (n32 a ht) (n32 b hu) h
    rw [(pc_inj a b t u).2 h1, unl_inj L M (fun r hr => hL r (by simp [hr])) (fun r hr => hM r (by simp [hr])) h2]
theorem tx_iff (R S : List Row) : lns R = lns S ↔ mk (txL R) = mk (txL S) := by
  rw [← unl_lns, ← unl_lns]
  constructor
  · intro h; rw [h]
  · intro h
    have := congrArg bs h
    rw [bs_mk, bs_mk] at this
    exact unl_inj _ _ (lns_pcd R) (lns_pcd S) this
end Go.Proofs.YtoekaehpcjhhaaaGreatDoor

/- awake: the document's example. -/
set_option linter.unusedSimpArgs false
set_option linter.unusedVariables false
namespace Go.Proofs.YtoekaehpcjhhaaaGreatDoor
open Go.RowKit

def exS : St := .mk 11 ⟨#[120]⟩ ⟨#[121]⟩ ⟨#[]⟩ ⟨#[]⟩ ⟨#[102]⟩ [⟨#[97]⟩, ⟨#[98]⟩] 0 [] [] 0 0
theorem exS_rows : rw1 0 exS = [(0, ⟨#[120, 32, 61, 32, 121, 46, 102, 40, 97, 44, 32, 98, 41, 59]⟩)] := by
  unfold exS
  rw [rw1_plain (by decide) (by decide) (by decide)]
  have : pl 11 ⟨#[120]⟩ ⟨#[121]⟩ ⟨#[]⟩ ⟨#[]⟩ ⟨#[102]⟩ [⟨#[97]⟩, ⟨#[98]⟩] 0 = some ⟨#[120, 32, 61, 32, 121, 46, 102, 40, 97, 44, 32, 98, 41, 59]⟩ := by decide +kernel
  rw [this]
  rfl
theorem exS_line : jn ((rw1 0 exS).map (·.2)) ⟨#[32]⟩ = ⟨#[120, 32, 61, 32, 121, 46, 102, 40, 97, 44, 32, 98, 41, 59]⟩ := by
  rw [exS_rows, List.map_cons, List.map_nil, jn_one]

set_option maxHeartbeats 2000000 in
set_option maxRecDepth 100000 in
theorem awake_any (B : Nat) (w : World) (hE : Env B w) : Calls Tryz.prog 4 #[] w fun e w' => e = .returned (.bool true) ∧ Turn [] w w' := by
  have tA := bx w #[.string ⟨#[97]⟩, .string ⟨#[98]⟩] 9
  obtain ⟨W, hW⟩ : ∃ W, w.alloc (.cells #[.string ⟨#[97]⟩, .string ⟨#[98]⟩] 9) = W := ⟨_, rfl⟩
  have hSt : Sts W (some ⟨w.heap.size, 0, none⟩) [⟨#[97]⟩, ⟨#[98]⟩] := by rw [← hW]; exact sts_new w _ _ rfl
  rw [hW] at tA
  have hWs : W.heap.size = w.heap.size + 1 := by rw [← hW]; simp
  have hR : RdS (w.heap.size + 1) W [.int .i64 11, .string ⟨#[120]⟩, .string ⟨#[121]⟩, .string ⟨#[]⟩, .string ⟨#[]⟩, .string ⟨#[102]⟩, .slice (some ⟨w.heap.size, 0, none⟩) 2 2, .int .i64 0, .slice none 0 0, .slice none 0 0, .int .i64 0, .int .i64 0] exS := by
    unfold exS RdS
    exact ⟨_, 2, none, 0, none, 0, rfl, by decide, by decide, by decide, hSt, (fun b off e _ => by injection e with e; injection e with e; omega), by unfold RdL; trivial, by unfold RdL; trivial⟩
  have HC := Lib.hid (line_any exS _ (w.heap.size + 1) W hR ((hE.turn tA (by simp)).more (by have := hE.lt; omega) (by omega))
    (by unfold exS; rw [FtS]; exact ⟨by decide, by decide, ⟨by decide, by intro a ha; simp at ha; rcases ha with rfl | rfl <;> decide⟩, by rw [FtL]; trivial, by rw [FtL]; trivial⟩)
    (by unfold exS; rw [LnS]; exact ⟨by decide, by decide, by rw [LnL]; trivial, by rw [LnL]; trivial⟩) (by rw [exS_rows]; decide) (by rw [exS_line]; decide))
  rw [exS_line] at HC
  have HT := Lib.hid tA
  have HW := Lib.hid hW
  clear tA hW hSt hWs hR hE
  go_enter Tryz.func4, Tryz.ntmps4
  go_wp2_with fail
  rw [HW.out]
  refine HC.out.mono ?_
  rintro e w1 ⟨rfl, t1⟩
  have HT1 := Lib.hid t1
  clear t1
  go_wp2_with fail
  go_ret
  exact ⟨rfl, HT.out.trans' HT1.out⟩
end Go.Proofs.YtoekaehpcjhhaaaGreatDoor

/- ShowPrograms, walked. -/
set_option linter.unusedSimpArgs false
set_option linter.unusedVariables false
namespace Go.Proofs.YtoekaehpcjhhaaaGreatDoor
open Go.RowKit

/-- What Same asks of a program's rows. -/
theorem good_rows {p : Pr} (g : Good p) : (∀ r ∈ prgR p, r.2.size ≤ 40000000 ∧ r.1 ≤ 10000000) ∧ (lns (prgR p)).length ≤ 4000000000000 ∧ (∀ r ∈ prgR p, r.1 ≤ 10000000) ∧ (txL (prgR p)).length ≤ 100000000000000 := by
  have h := prgR_facts g.ft g.tg
  have h2 := lns_le (prgR p)
  have h3 := h.2
  exact ⟨fun r hr => ⟨(h.1 r hr).1, by have := (h.1 r hr).2; omega⟩, by omega, fun r hr => by have := (h.1 r hr).2; omega, by omega⟩

set_option maxHeartbeats 32000000 in
set_option maxRecDepth 100000 in
theorem programs_law (ca cb : List Value) (p q : Pr) (m : Int) (w : World) (hp : RdP w.heap.size w ca p) (hq : RdP w.heap.size w cb q) (bp : BkP p) (bq : BkP q) (hE : Env w.heap.size w) (hm : w.cell? ⟨0, 0, none⟩ = some (.int .i64 m)) :
    Calls Tryz.prog 3 #[.agg ca.toArray, .agg cb.toArray] w fun e w' => e = .returned (.bool true) ∧ Turn [] w w' := by
  have hp0 := hp
  have hq0 := hq
  obtain ⟨A0, c0, mc, rfl, _, hmn⟩ := hp
  obtain ⟨A1, A1c, A2, A2c, A3, A3c, px, py, rfl, _, _, _⟩ := hmn
  obtain ⟨B0, d0, mc2, rfl, _, hmn2⟩ := hq
  obtain ⟨B1, B1c, B2, B2c, B3, B3c, qx, qy, rfl, _, _, _⟩ := hmn2
  have tA : Turn [] w ((w.alloc (.cells #[.slice A0 p.cs.length c0, .string p.main.ret, .string p.main.name, .bool p.main.stat, .bool p.main.bare, .slice A1 p.main.ps.length A1c, .slice A2 p.main.ls.length A2c, .slice A3 p.main.bd.length A3c, .int .i64 px, .int .i64 py] 30)).alloc (.cells #[.slice B0 q.cs.length d0, .string q.main.ret, .string q.main.name, .bool q.main.stat, .bool q.main.bare, .slice B1 q.main.ps.length B1c, .slice B2 q.main.ls.length B2c, .slice B3 q.main.bd.length B3c, .int .i64 qx, .int .i64 qy] 30)) := ((Turn.refl [] w).alloc _).alloc _
  obtain ⟨W, hW⟩ : ∃ W, (w.alloc (.cells #[.slice A0 p.cs.length c0, .string p.main.ret, .string p.main.name, .bool p.main.stat, .bool p.main.bare, .slice A1 p.main.ps.length A1c, .slice A2 p.main.ls.length A2c, .slice A3 p.main.bd.length A3c, .int .i64 px, .int .i64 py] 30)).alloc (.cells #[.slice B0 q.cs.length d0, .string q.main.ret, .string q.main.name, .bool q.main.stat, .bool q.main.bare, .slice B1 q.main.ps.length B1c, .slice B2 q.main.ls.length B2c, .slice B3 q.main.bd.length B3c, .int .i64 qx, .int .i64 qy] 30) = W := ⟨_, rfl⟩
  have hg1 : W.heap[w.heap.size]? = some (.cells #[.slice A0 p.cs.length c0, .string p.main.ret, .string p.main.name, .bool p.main.stat, .bool p.main.bare, .slice A1 p.main.ps.length A1c, .slice A2 p.main.ls.length A2c, .slice A3 p.main.bd.length A3c, .int .i64 px, .int .i64 py] 30 (0, 0)) := by
    rw [← hW]
    exact ((Turn.refl [] _).alloc _).heap (heap_alloc_new w _) (by simp)
  have hg2 : W.heap[w.heap.size + 1]? = some (.cells #[.slice B0 q.cs.length d0, .string q.main.ret, .string q.main.name, .bool q.main.stat, .bool q.main.bare, .slice B1 q.main.ps.length B1c, .slice B2 q.main.ls.length B2c, .slice B3 q.main.bd.length B3c, .int .i64 qx, .int .i64 qy] 30 (0, 0)) := by
    rw [← hW]
    have := heap_alloc_new (w.alloc (.cells #[.slice A0 p.cs.length c0, .string p.main.ret, .string p.main.name, .bool p.main.stat, .bool p.main.bare, .slice A1 p.main.ps.length A1c, .slice A2 p.main.ls.length A2c, .slice A3 p.main.bd.length A3c, .int .i64 px, .int .i64 py] 30)) (.cells #[.slice B0 q.cs.length d0, .string q.main.ret, .string q.main.name, .bool q.main.stat, .bool q.main.bare, .slice B1 q.main.ps.length B1c, .slice B2 q.main.ls.length B2c, .slice B3 q.main.bd.length B3c, .int .i64 qx, .int .i64 qy] 30)
    rwa [World.size_alloc] at this
  rw [hW] at tA
  have HAw := Lib.hid (fun w1 (t1 : Turn [] W w1) => awake_any w.heap.size w1 (hE.turn (tA.trans' t1) (by simp)))
  have HSp := Lib.hid (fun w1 (t1 : Turn [] W w1) => lsmall_any w.heap.size _ p w1 (hp0.turn (tA.trans' t1) (by simp)) bp.ok)
  have HSq := Lib.hid (fun w1 (t1 : Turn [] W w1) => lsmall_any w.heap.size _ q w1 (hq0.turn (tA.trans' t1) (by simp)) bq.ok)
  have HRp := Lib.hid (fun w1 (t1 : Turn [] W w1) (g : Good p) => rprogram_any w.heap.size _ p w1 (hp0.turn (tA.trans' t1) (by simp)) (tA.trans' t1).size g.ft g.tg g.cs g.main)
  have HRq := Lib.hid (fun w1 (t1 : Turn [] W w1) (g : Good q) => rprogram_any w.heap.size _ q w1 (hq0.turn (tA.trans' t1) (by simp)) (tA.trans' t1).size g.ft g.tg g.cs g.main)
  have HPp := Lib.hid (fun w1 (t1 : Turn [] W w1) (g : Good p) => program_any w.heap.size _ p w1 (hp0.turn (tA.trans' t1) (by simp)) (hE.turn (tA.trans' t1) (by simp)) g.ft (good_rows g).2.2.1 (good_rows g).2.2.2)
  have HM := Lib.hid (fun w1 (t1 : Turn [] W w1) => (((tA.trans' t1).cell (p := ⟨0, 0, none⟩) (cell_lt hm) (by simp)).trans hm))
  have HPQ := Lib.hid (fun w1 (t1 : Turn [] W w1) (g : Good p) (g2 : Good q) => same_any w.heap.size _ _ p q m w1 (hp0.turn (tA.trans' t1) (by simp)) (hq0.turn (tA.trans' t1) (by simp)) (hE.turn (tA.trans' t1) (by simp)) g.ft g2.ft (HM.out w1 t1) (good_rows g).1 (good_rows g2).1 (good_rows g).2.1 (good_rows g2).2.1)
  have HQQ := Lib.hid (fun w1 (t1 : Turn [] W w1) (g2 : Good q) => same_any w.heap.size _ _ q q m w1 (hq0.turn (tA.trans' t1) (by simp)) (hq0.turn (tA.trans' t1) (by simp)) (hE.turn (tA.trans' t1) (by simp)) g2.ft g2.ft (HM.out w1 t1) (good_rows g2).1 (good_rows g2).1 (good_rows g2).2.1 (good_rows g2).2.1)
  have HGp := Lib.hid (fun (h : smP p = true) => good_of h bp)
  have HGq := Lib.hid (fun (h : smP q = true) => good_of h bq)
  obtain ⟨pnc, hpnc⟩ : ∃ z, p.cs.length = z := ⟨_, rfl⟩
  obtain ⟨pr, hpr⟩ : ∃ z, p.main.ret = z := ⟨_, rfl⟩
  obtain ⟨pn, hpn⟩ : ∃ z, p.main.name = z := ⟨_, rfl⟩
  obtain ⟨ps, hps⟩ : ∃ z, p.main.stat = z := ⟨_, rfl⟩
  obtain ⟨pb, hpb⟩ : ∃ z, p.main.bare = z := ⟨_, rfl⟩
  obtain ⟨pnp, hpnp⟩ : ∃ z, p.main.ps.length = z := ⟨_, rfl⟩
  obtain ⟨pnl, hpnl⟩ : ∃ z, p.main.ls.length = z := ⟨_, rfl⟩
  obtain ⟨pnb, hpnb⟩ : ∃ z, p.main.bd.length = z := ⟨_, rfl⟩
  obtain ⟨qnc, hqnc⟩ : ∃ z, q.cs.length = z := ⟨_, rfl⟩
  obtain ⟨qr, hqr⟩ : ∃ z, q.main.ret = z := ⟨_, rfl⟩
  obtain ⟨qn, hqn⟩ : ∃ z, q.main.name = z := ⟨_, rfl⟩
  obtain ⟨qs, hqs⟩ : ∃ z, q.main.stat = z := ⟨_, rfl⟩
  obtain ⟨qb, hqb⟩ : ∃ z, q.main.bare = z := ⟨_, rfl⟩
  obtain ⟨qnp, hqnp⟩ : ∃ z, q.main.ps.length = z := ⟨_, rfl⟩
  obtain ⟨qnl, hqnl⟩ : ∃ z, q.main.ls.length = z := ⟨_, rfl⟩
  obtain ⟨qnb, hqnb⟩ : ∃ z, q.main.bd.length = z := ⟨_, rfl⟩
  rw [hpnc, hpr, hpn, hps, hpb, hpnp, hpnl, hpnb] at HSp HRp HPp hg1
  rw [hqnc, hqr, hqn, hqs, hqb, hqnp, hqnl, hqnb] at HSq HRq HQQ hg2
  rw [hpnc, hpr, hpn, hps, hpb, hpnp, hpnl, hpnb, hqnc, hqr, hqn, hqs, hqb, hqnp, hqnl, hqnb] at HPQ
  rw [hpnc, hpr, hpn, hps, hpb, hpnp, hpnl, hpnb, hqnc, hqr, hqn, hqs, hqb, hqnp, hqnl, hqnb] at hW ⊢
  have hce : ∀ w', Turn [] W w' → w'.cell? ⟨w.heap.size, 0, none⟩ = some (.slice A0 pnc c0) ∧ w'.cell? ⟨w.heap.size, 1, none⟩ = some (.string pr) ∧ w'.cell? ⟨w.heap.size, 2, none⟩ = some (.string pn) ∧ w'.cell? ⟨w.heap.size, 3, none⟩ = some (.bool ps) ∧ w'.cell? ⟨w.heap.size, 4, none⟩ = some (.bool pb) ∧ w'.cell? ⟨w.heap.size, 5, none⟩ = some (.slice A1 pnp A1c) ∧ w'.cell? ⟨w.heap.size, 6, none⟩ = some (.slice A2 pnl A2c) ∧ w'.cell? ⟨w.heap.size, 7, none⟩ = some (.slice A3 pnb A3c) ∧ w'.cell? ⟨w.heap.size, 8, none⟩ = some (.int .i64 px) ∧ w'.cell? ⟨w.heap.size, 9, none⟩ = some (.int .i64 py) ∧ w'.cell? ⟨w.heap.size + 1, 0, none⟩ = some (.slice B0 qnc d0) ∧ w'.cell? ⟨w.heap.size + 1, 1, none⟩ = some (.string qr) ∧ w'.cell? ⟨w.heap.size + 1, 2, none⟩ = some (.string qn) ∧ w'.cell? ⟨w.heap.size + 1, 3, none⟩ = some (.bool qs) ∧ w'.cell? ⟨w.heap.size + 1, 4, none⟩ = some (.bool qb) ∧ w'.cell? ⟨w.heap.size + 1, 5, none⟩ = some (.slice B1 qnp B1c) ∧ w'.cell? ⟨w.heap.size + 1, 6, none⟩ = some (.slice B2 qnl B2c) ∧ w'.cell? ⟨w.heap.size + 1, 7, none⟩ = some (.slice B3 qnb B3c) ∧ w'.cell? ⟨w.heap.size + 1, 8, none⟩ = some (.int .i64 qx) ∧ w'.cell? ⟨w.heap.size + 1, 9, none⟩ = some (.int .i64 qy) := fun w' ht => by
    have h1 : ∀ (i : Nat) (v : Value), (#[.slice A0 pnc c0, .string pr, .string pn, .bool ps, .bool pb, .slice A1 pnp A1c, .slice A2 pnl A2c, .slice A3 pnb A3c, .int .i64 px, .int .i64 py] : Array Value)[i]? = some v → w'.cell? ⟨w.heap.size, i, none⟩ = some v := fun i v hv => (cell_of_row w' _ i _ _ _ (ht.heap hg1 (by simp))).trans hv
    have h2 : ∀ (i : Nat) (v : Value), (#[.slice B0 qnc d0, .string qr, .string qn, .bool qs, .bool qb, .slice B1 qnp B1c, .slice B2 qnl B2c, .slice B3 qnb B3c, .int .i64 qx, .int .i64 qy] : Array Value)[i]? = some v → w'.cell? ⟨w.heap.size + 1, i, none⟩ = some v := fun i v hv => (cell_of_row w' _ i _ _ _ (ht.heap hg2 (by simp))).trans hv
    exact ⟨h1 0 _ rfl, h1 1 _ rfl, h1 2 _ rfl, h1 3 _ rfl, h1 4 _ rfl, h1 5 _ rfl, h1 6 _ rfl, h1 7 _ rfl, h1 8 _ rfl, h1 9 _ rfl, h2 0 _ rfl, h2 1 _ rfl, h2 2 _ rfl, h2 3 _ rfl, h2 4 _ rfl, h2 5 _ rfl, h2 6 _ rfl, h2 7 _ rfl, h2 8 _ rfl, h2 9 _ rfl⟩
  have HCe := Lib.hid hce
  have HT := Lib.hid tA
  have HW := Lib.hid hW
  have HIff := Lib.hid (tx_iff (prgR p) (prgR q))
  obtain ⟨R1, hR1⟩ : ∃ R, prgR p = R := ⟨_, rfl⟩
  obtain ⟨R2, hR2⟩ : ∃ R, prgR q = R := ⟨_, rfl⟩
  rw [hR1] at HRp HPp HPQ
  rw [hR2] at HRq HPQ HQQ
  rw [hR1, hR2] at HIff
  obtain ⟨ZP, hZP⟩ : ∃ z, mk (txL R1) = z := ⟨_, rfl⟩
  obtain ⟨ZQ, hZQ⟩ : ∃ z, mk (txL R2) = z := ⟨_, rfl⟩
  rw [hZP] at HRp HPp
  rw [hZQ] at HRq
  rw [hZP, hZQ] at HIff
  have hQ1 : decide (lns R2 = lns R2) = true := by simp
  rw [hQ1] at HQQ
  obtain ⟨V, hV⟩ : ∃ V, decide (lns R1 = lns R2) = V := ⟨_, rfl⟩
  rw [hV] at HPQ
  have HV : Hid ((V = true ∧ ZP = ZQ) ∨ (V = false ∧ ¬ ZP = ZQ)) := Lib.hid (by
    by_cases h : lns R1 = lns R2
    · exact .inl ⟨by rw [← hV]; simp [h], HIff.out.1 h⟩
    · exact .inr ⟨by rw [← hV]; simp [h], fun e => h (HIff.out.2 e)⟩)
  obtain ⟨vp, hvp⟩ : ∃ v, smP p = v := ⟨_, rfl⟩
  obtain ⟨vq, hvq⟩ : ∃ v, smP q = v := ⟨_, rfl⟩
  rw [hvp] at HSp HGp
  rw [hvq] at HSq HGq
  clear hp0 hq0 hE bp bq hm tA hW hg1 hg2 hce hR1 hR2 hV hvp hvq hZP hZQ hQ1 HIff hpnc hpr hpn hps hpb hpnp hpnl hpnb hqnc hqr hqn hqs hqb hqnp hqnl hqnb
  go_enter Tryz.func3, Tryz.ntmps3
  go_wp2_with fail
  rw [HW.out]
  refine (HAw.out W (Turn.refl _ _)).mono ?_
  rintro e w1 ⟨rfl, t1⟩
  have HT1 := Lib.hid t1
  obtain ⟨a0, a1, a2, a3, a4, a5, a6, a7, a8, a9, aq0, aq1, aq2, aq3, aq4, aq5, aq6, aq7, aq8, aq9⟩ := HCe.out w1 t1
  clear t1
  go_wp2_with fail
  refine (HSp.out w1 HT1.out).mono ?_
  rintro e w2 ⟨rfl, t2⟩
  have HT2 := Lib.hid (HT1.out.trans' t2)
  clear t2 a0 a1 a2 a3 a4 a5 a6 a7 a8 a9 aq0 aq1 aq2 aq3 aq4 aq5 aq6 aq7 aq8 aq9
  cases vp with
  | false =>
    go_wp2_with fail
    refine (HAw.out w2 HT2.out).mono ?_
    rintro e w3 ⟨rfl, t3⟩
    have HT3 := Lib.hid (HT2.out.trans' t3)
    clear t3
    go_wp2_with fail
    go_ret
    exact ⟨rfl, HT.out.trans' HT3.out⟩
  | true =>
    have HG1 := Lib.hid (HGp.out rfl)
    obtain ⟨a0, a1, a2, a3, a4, a5, a6, a7, a8, a9, aq0, aq1, aq2, aq3, aq4, aq5, aq6, aq7, aq8, aq9⟩ := HCe.out w2 HT2.out
    go_wp2_with fail
    refine (HSq.out w2 HT2.out).mono ?_
    rintro e w3 ⟨rfl, t3⟩
    have HT3 := Lib.hid (HT2.out.trans' t3)
    clear t3 a0 a1 a2 a3 a4 a5 a6 a7 a8 a9 aq0 aq1 aq2 aq3 aq4 aq5 aq6 aq7 aq8 aq9
    cases vq with
    | false =>
      go_wp2_with fail
      refine (HAw.out w3 HT3.out).mono ?_
      rintro e w4 ⟨rfl, t4⟩
      have HT4 := Lib.hid (HT3.out.trans' t4)
      clear t4
      go_wp2_with fail
      go_ret
      exact ⟨rfl, HT.out.trans' HT4.out⟩
    | true =>
      have HG2 := Lib.hid (HGq.out rfl)
      go_upto_region 3 with fail
      obtain ⟨m0, m1, m2, m3, m4, m5, m6, m7, m8, m9, mq0, mq1, mq2, mq3, mq4, mq5, mq6, mq7, mq8, mq9⟩ := HCe.out w3 HT3.out
      go_region_held3 (fun w' => w'.cell? ⟨w.heap.size, 0, none⟩ = some (.slice A0 pnc c0) ∧ w'.cell? ⟨w.heap.size, 1, none⟩ = some (.string pr) ∧ w'.cell? ⟨w.heap.size, 2, none⟩ = some (.string pn) ∧ w'.cell? ⟨w.heap.size, 3, none⟩ = some (.bool ps) ∧ w'.cell? ⟨w.heap.size, 4, none⟩ = some (.bool pb) ∧ w'.cell? ⟨w.heap.size, 5, none⟩ = some (.slice A1 pnp A1c) ∧ w'.cell? ⟨w.heap.size, 6, none⟩ = some (.slice A2 pnl A2c) ∧ w'.cell? ⟨w.heap.size, 7, none⟩ = some (.slice A3 pnb A3c) ∧ w'.cell? ⟨w.heap.size, 8, none⟩ = some (.int .i64 px) ∧ w'.cell? ⟨w.heap.size, 9, none⟩ = some (.int .i64 py) ∧ w'.cell? ⟨w.heap.size + 1, 0, none⟩ = some (.slice B0 qnc d0) ∧ w'.cell? ⟨w.heap.size + 1, 1, none⟩ = some (.string qr) ∧ w'.cell? ⟨w.heap.size + 1, 2, none⟩ = some (.string qn) ∧ w'.cell? ⟨w.heap.size + 1, 3, none⟩ = some (.bool qs) ∧ w'.cell? ⟨w.heap.size + 1, 4, none⟩ = some (.bool qb) ∧ w'.cell? ⟨w.heap.size + 1, 5, none⟩ = some (.slice B1 qnp B1c) ∧ w'.cell? ⟨w.heap.size + 1, 6, none⟩ = some (.slice B2 qnl B2c) ∧ w'.cell? ⟨w.heap.size + 1, 7, none⟩ = some (.slice B3 qnb B3c) ∧ w'.cell? ⟨w.heap.size + 1, 8, none⟩ = some (.int .i64 qx) ∧ w'.cell? ⟨w.heap.size + 1, 9, none⟩ = some (.int .i64 qy))
        (first | exact ⟨m0, m1, m2, m3, m4, m5, m6, m7, m8, m9, mq0, mq1, mq2, mq3, mq4, mq5, mq6, mq7, mq8, mq9⟩ | exact ⟨a0, a1, a2, a3, a4, a5, a6, a7, a8, a9, aq0, aq1, aq2, aq3, aq4, aq5, aq6, aq7, aq8, aq9⟩ | exact ⟨b0, b1, b2, b3, b4, b5, b6, b7, b8, b9, bq0, bq1, bq2, bq3, bq4, bq5, bq6, bq7, bq8, bq9⟩ | go_keep)
        (first
          | (go_at_call 6; (with_reducible refine (HRp.out w3.drew (by exact HT3.out.drew) HG1.out).mono ?_); rintro e w4 ⟨rfl, t4⟩
             have HT4 := Lib.hid (HT3.out.drew.trans' t4)
             obtain ⟨a0, a1, a2, a3, a4, a5, a6, a7, a8, a9, aq0, aq1, aq2, aq3, aq4, aq5, aq6, aq7, aq8, aq9⟩ := HCe.out w4 HT4.out
             clear t4)
          | (go_at_call 6; (with_reducible refine (HRq.out w4 (by exact HT4.out) HG2.out).mono ?_); rintro e w5 ⟨rfl, t5⟩
             have HT5 := Lib.hid (HT4.out.trans' t5)
             obtain ⟨b0, b1, b2, b3, b4, b5, b6, b7, b8, b9, bq0, bq1, bq2, bq3, bq4, bq5, bq6, bq7, bq8, bq9⟩ := HCe.out w5 HT5.out
             clear t5)
          | fail)
      all_goals
        clear m0 m1 m2 m3 m4 m5 m6 m7 m8 m9 mq0 mq1 mq2 mq3 mq4 mq5 mq6 mq7 mq8 mq9 a0 a1 a2 a3 a4 a5 a6 a7 a8 a9 aq0 aq1 aq2 aq3 aq4 aq5 aq6 aq7 aq8 aq9
        go_wp2_with fail
        refine (HPp.out w5 HT5.out HG1.out).mono ?_
        rintro e w6 ⟨rfl, t6⟩
        have HT6 := Lib.hid (HT5.out.trans' t6)
        clear t6 b0 b1 b2 b3 b4 b5 b6 b7 b8 b9 bq0 bq1 bq2 bq3 bq4 bq5 bq6 bq7 bq8 bq9
        obtain ⟨a0, a1, a2, a3, a4, a5, a6, a7, a8, a9, aq0, aq1, aq2, aq3, aq4, aq5, aq6, aq7, aq8, aq9⟩ := HCe.out w6 HT6.out
        go_wp2_with fail
        refine (HPQ.out w6 HT6.out HG1.out HG2.out).mono ?_
        rintro e w7 ⟨rfl, t7⟩
        have HT7 := Lib.hid (HT6.out.trans' t7)
        clear t7 a0 a1 a2 a3 a4 a5 a6 a7 a8 a9 aq0 aq1 aq2 aq3 aq4 aq5 aq6 aq7 aq8 aq9
        obtain ⟨b0, b1, b2, b3, b4, b5, b6, b7, b8, b9, bq0, bq1, bq2, bq3, bq4, bq5, bq6, bq7, bq8, bq9⟩ := HCe.out w7 HT7.out
        rcases HV.out with ⟨rfl, rfl⟩ | ⟨rfl, hne⟩
        · go_wp2_with fail
          refine (HQQ.out w7 HT7.out HG2.out).mono ?_
          rintro e w8 ⟨rfl, t8⟩
          have HT8 := Lib.hid (HT7.out.trans' t8)
          clear t8
          go_wp2_with fail
          go_ret
          exact ⟨rfl, HT.out.trans' HT8.out⟩
        · have hZ2 := bytes_f hne
          have HNE := Lib.hid hne
          clear hne
          go_wp2_with fail
          refine (HQQ.out w7 HT7.out HG2.out).mono ?_
          rintro e w8 ⟨rfl, t8⟩
          have HT8 := Lib.hid (HT7.out.trans' t8)
          clear t8
          go_wp2_with fail
          go_ret
          exact ⟨rfl, HT.out.trans' HT8.out⟩
end Go.Proofs.YtoekaehpcjhhaaaGreatDoor
