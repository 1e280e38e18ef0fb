/- classes, programSheet. -/
import Derived.Test.YtoekaehpcjhhaaaGreatDoorPfc
import Derived.Test.YtoekaehpcjhhaaaGreatDoorPcc
set_option linter.unusedSimpArgs false
set_option linter.unusedVariables false
namespace Go.Proofs.YtoekaehpcjhhaaaGreatDoor
open Go.RowKit

theorem clssR_take {D : Nat} {l : List Cl} {j : Nat} {c : Cl} (h : l[j]? = some c) : clssR D (l.take (j + 1)) = clssR D (l.take j) ++ clsR D c := by
  unfold clssR
  rw [take_snoc h, List.flatMap_append]
  simp
theorem clssR_take_le (D : Nat) {l : List Cl} (h : l.length ≤ 6 ∧ ∀ c ∈ l, FtC c) {j : Nat} (hj : j < l.length) : (clssR D (l.take j)).length ≤ 61200468 :=
  clssR_len D ⟨by rw [List.length_take]; omega, fun c hc => h.2 c (List.mem_of_mem_take hc)⟩

set_option maxHeartbeats 8000000 in
set_option maxRecDepth 100000 in
theorem classes_any (T b : Nat) (F : List Nat) (R : List Row) (D : Nat) (A : Option Addr) (c B : Nat) (l : List Cl) (w : World) (h : Sh T w b F R D) (hr : RdCs B w A l) (hF : ∀ g ∈ F, B ≤ g) (hE : Env B w) (hf : l.length ≤ 6 ∧ ∀ m ∈ l, FtC m) (hz : D + R.length ≤ 1000000) :
    Calls Tryz.prog 24 #[.pointer (some ⟨b, 0, none⟩), .slice A l.length c] w fun e w' => e = .returned (.tuple #[]) ∧ Wr T w b F (R ++ clssR D l) D w' := by
  have H0 : Hid (Wr T w b F (R ++ clssR D (l.take 0)) D w) := Lib.hid (by simpa [clssR] using Wr.start h)
  have HR := Lib.hid hr
  have HF := Lib.hid hF
  have HE := Lib.hid hE
  have HV := Lib.hid hf
  obtain ⟨n, hn⟩ : ∃ n, l.length = n := ⟨_, rfl⟩
  have HN := Lib.hid hn
  have hn8 : n ≤ 6 := by rw [← hn]; exact hf.1
  rw [hn]
  clear h hr hF hf hn hE
  go_enter Tryz.func24, Tryz.ntmps24
  go_wp2_with fail
  go_loopw [8] (fun i wr => ∃ j : Nat, j ≤ n ∧ i = .int .i64 (j : Int) ∧ Hid (Wr T w b F (R ++ clssR D (l.take j)) D wr)) (fun i _ => n - (intOf i).toNat)
  case atStart => exact ⟨0, Nat.zero_le _, rfl, H0⟩
  case round =>
    obtain ⟨j, hj, rfl, HW⟩ := hrel
    by_cases hlt : j < n
    · obtain ⟨F1, hS1, hF1, hT1⟩ := HW.out
      obtain ⟨m, hm⟩ := at_lt (l := l) (k := j) (by rw [HN.out]; exact hlt)
      obtain ⟨g, off, cs, rfl, ⟨_, hgB, hgl, hcell⟩, hRd⟩ := (HR.out.turn hT1 HF.out) j m hm
      have hfm := HV.out.2 m (List.mem_of_getElem? hm)
      have HX := Lib.hid (clssR_take (D := D) hm)
      have hlen0 := clssR_take_le D HV.out (j := j) (by rw [HN.out]; exact hlt)
      simp only at hgB hgl hcell
      have hRd0 := hRd
      obtain ⟨A3, c3, A4, c4, A5, c5, A6, c6, I, p, q, rfl, _, _, _, _, _, _, _⟩ := hRd
      have e0 : wr.cell? ⟨g, off + j * 10, none⟩ = some (.string m.name) := hcell 0 _ rfl
      have e1 := hcell 1 _ rfl
      have e2 := hcell 2 _ rfl
      have e3 := hcell 3 _ rfl
      have e4 := hcell 4 _ rfl
      have e5 := hcell 5 _ rfl
      have e6 := hcell 6 _ rfl
      have e7 := hcell 7 _ rfl
      have e8 := hcell 8 _ rfl
      have e9 := hcell 9 _ rfl
      have tA := bx wr #[.string m.name, .string m.super, .bool m.face, .slice A3 m.faces.length c3, .slice A4 m.fs.length c4, .slice A5 m.ss.length c5, .slice A6 m.ms.length c6, .pointer I, .int .i64 p, .int .i64 q] 43
      have HT1 := Lib.hid (And.intro hF1 hT1)
      have HFa := Lib.hid (face_any T b F1 (R ++ clssR D (l.take j)) D B _ m _ (hS1.turn' tA) (Foot.above hF1 HF.out HE.out.lt) ((HE.out.turn hT1 HF.out).turn tA (by simp)) hfm (hRd0.turn tA (by simp)) (by rw [List.length_append]; omega))
      have HCl := Lib.hid (class_any T b F1 (R ++ clssR D (l.take j)) D B _ m _ (hS1.turn' tA) (Foot.above hF1 HF.out HE.out.lt) ((HE.out.turn hT1 HF.out).turn tA (by simp)) hfm (hRd0.turn tA (by simp)) (by rw [List.length_append]; omega))
      have HTA := Lib.hid tA
      have HCR : Hid (clsR D m = if m.face = true then [(D, facT m)] ++ metsR (D + 1) m.ms ++ [(D, shutT)] else [(D, claT m)] ++ bodyR (D + 1) m ++ [(D, shutT)]) := Lib.hid rfl
      obtain ⟨f0, hf0⟩ : ∃ q, m.face = q := ⟨_, rfl⟩
      rw [hf0] at e2 HFa HCl HTA HCR
      clear hS1 hF1 hT1 tA hm HW hRd0 hcell hfm hf0
      cases f0 with
      | true =>
        go_wp2_with fail
        refine HFa.out.mono ?_
        rintro e w3 ⟨rfl, hW3⟩
        have HW3 : Hid (Wr T w b F (R ++ clssR D (l.take (j + 1))) D w3) := Lib.hid (by
          rw [HX.out, HCR.out, if_pos trivial, ← List.append_assoc]
          exact Wr.trans HT1.out.1 HT1.out.2 (Wr.after HTA.out hW3))
        clear hW3
        go_wp2_with fail
        go_roundw
        case rel => exact ⟨j + 1, by omega, by go_num, HW3⟩
        case measure => simp [intOf]; omega
      | false =>
        go_wp2_with fail
        refine HCl.out.mono ?_
        rintro e w3 ⟨rfl, hW3⟩
        have HW3 : Hid (Wr T w b F (R ++ clssR D (l.take (j + 1))) D w3) := Lib.hid (by
          rw [HX.out, HCR.out, if_neg Bool.false_ne_true, ← List.append_assoc]
          exact Wr.trans HT1.out.1 HT1.out.2 (Wr.after HTA.out hW3))
        clear hW3
        go_wp2_with fail
        go_roundw
        case rel => exact ⟨j + 1, by omega, by go_num, HW3⟩
        case measure => simp [intOf]; omega
    · go_wp2_with fail
      go_end0
      obtain rfl : j = n := by omega
      have := HW.out
      rw [List.take_of_length_le (by rw [HN.out]; exact Nat.le_refl _)] at this
      exact ⟨rfl, this⟩

set_option maxHeartbeats 8000000 in
set_option maxRecDepth 100000 in
theorem psheet_any (B : Nat) (cs : List Value) (p : Pr) (w : World) (hr : RdP B w cs p) (hE : Env B w) (hf : FtP p) :
    Calls Tryz.prog 14 #[.agg cs.toArray] w fun e w' => ∃ b F, e = .returned (.pointer (some ⟨b, 0, none⟩)) ∧ Sh 69 w' b F (prgR p) 0 ∧ Turn [] w w' := by
  obtain ⟨A0, c0, mc, rfl, hcs, hmn⟩ := hr
  have hmn0 := hmn
  obtain ⟨A1, c1, A2, c2, A3, c3, x, y, rfl, _, _, _⟩ := hmn
  have tA := bx w #[.slice A0 p.cs.length c0, .string p.main.ret, .string p.main.name, .bool p.main.stat, .bool p.main.bare, .slice A1 p.main.ps.length c1, .slice A2 p.main.ls.length c2, .slice A3 p.main.bd.length c3, .int .i64 x, .int .i64 y] 30
  obtain ⟨W, hW⟩ : ∃ W, w.alloc (.cells #[.slice A0 p.cs.length c0, .string p.main.ret, .string p.main.name, .bool p.main.stat, .bool p.main.bare, .slice A1 p.main.ps.length c1, .slice A2 p.main.ls.length c2, .slice A3 p.main.bd.length c3, .int .i64 x, .int .i64 y] 30) = W := ⟨_, rfl⟩
  have hg : W.heap[w.heap.size]? = some (.cells #[.slice A0 p.cs.length c0, .string p.main.ret, .string p.main.name, .bool p.main.stat, .bool p.main.bare, .slice A1 p.main.ps.length c1, .slice A2 p.main.ls.length c2, .slice A3 p.main.bd.length c3, .int .i64 x, .int .i64 y] 30 (0, 0)) := by rw [← hW]; exact heap_alloc_new w _
  rw [hW] at tA
  have hsz : W.heap.size = w.heap.size + 1 := by rw [← hW]; simp
  have tB := bx W #[.slice none 0 0, .int .i64 0] 69
  obtain ⟨W2, hW2⟩ : ∃ W2, W.alloc (.cells #[.slice none 0 0, .int .i64 0] 69) = W2 := ⟨_, rfl⟩
  have hS : Sh 69 W2 W.heap.size [W.heap.size] [] 0 := by
    rw [← hW2]
    exact ⟨.slice none 0 0, heap_alloc_new W _, OwnR.nil _, (fun h => by cases h), by simp, (fun g hg => by cases hg), (fun g hg => by simp at hg; subst hg; simp)⟩
  rw [hW2] at tB
  have tAB := tA.trans' tB
  have hB1 : B ≤ W.heap.size := by have := hE.lt; omega
  have HC := Lib.hid (classes_any 69 W.heap.size [W.heap.size] [] 0 A0 c0 B p.cs W2 hS (hcs.turn tAB (by simp)) (by simpa using hB1) (hE.turn tAB (by simp)) hf.cs (by simp))
  have HBl : Hid (∀ w1 F1, Sh 69 w1 W.heap.size F1 ([] ++ clssR 0 p.cs) 0 → Foot W2.heap.size [W.heap.size] F1 → Turn [W.heap.size] W2 w1 → Calls Tryz.prog 25 #[.pointer (some ⟨W.heap.size, 0, none⟩), .agg #[.string p.main.ret, .string p.main.name, .bool p.main.stat, .bool p.main.bare, .slice A1 p.main.ps.length c1, .slice A2 p.main.ls.length c2, .slice A3 p.main.bd.length c3, .int .i64 x, .int .i64 y], .slice (some ⟨w1.heap.size, 0, none⟩) 1 1] (w1.alloc (.cells #[.string ⟨#[109, 97, 105, 110, 32, 123]⟩] 9)) fun e w' => e = .returned (.tuple #[]) ∧ Wr 69 w1 W.heap.size F1 ([] ++ clssR 0 p.cs ++ blkR 0 mainT p.main) 0 w') := Lib.hid (fun w1 F1 hs hf1 ht1 => by
    have hF : ∀ g ∈ [W.heap.size], B ≤ g := by simpa using hB1
    have hl := clssR_len 0 hf.cs
    exact block_new 69 W.heap.size F1 _ 0 B _ p.main [⟨#[109, 97, 105, 110, 32, 123]⟩] _ rfl w1 hs (Foot.above hf1 hF (by have := tB.size; omega)) ((hE.turn tAB (by simp)).turn ht1 hF) hf.main ((hmn0.turn tAB (by simp)).turn ht1 hF) (by simp) (by rw [size_cat]; decide) (by rw [List.nil_append]; omega))
  have HG := Lib.hid (fun (w' : World) (ht : Turn [W.heap.size] W2 w') (i : Nat) (v : Value) (hv : (#[.slice A0 p.cs.length c0, .string p.main.ret, .string p.main.name, .bool p.main.stat, .bool p.main.bare, .slice A1 p.main.ps.length c1, .slice A2 p.main.ls.length c2, .slice A3 p.main.bd.length c3, .int .i64 x, .int .i64 y] : Array Value)[i]? = some v) => (show w'.cell? ⟨w.heap.size, i, none⟩ = some v from (ht.cell (p := ⟨w.heap.size, i, none⟩) (by show w.heap.size < W2.heap.size; have := tB.size; omega) (by simp; omega)).trans ((tB.cell (p := ⟨w.heap.size, i, none⟩) (by show w.heap.size < W.heap.size; omega) (by simp)).trans ((cell_of_row W _ i _ _ _ hg).trans hv))))
  have HE1 : Hid ([] ++ clssR 0 p.cs ++ blkR 0 mainT p.main = prgR p) := Lib.hid rfl
  have HTA := Lib.hid tAB
  have HW := Lib.hid hW
  have HW2 := Lib.hid hW2
  have hWs : Hid (W.heap.size = w.heap.size + 1) := Lib.hid hsz
  have hWl2 : W.heap.size < W2.heap.size := hS.lt.1
  rw [hsz] at HC HBl HG hWl2
  have z0 := HG.out W2 (Turn.refl _ _) 0 _ rfl
  clear hcs hmn0 tA tB tAB hW hW2 hE hf hg hS hB1 hsz
  obtain ⟨nc, hnc⟩ : ∃ q, p.cs.length = q := ⟨_, rfl⟩
  obtain ⟨mr, hmr⟩ : ∃ q, p.main.ret = q := ⟨_, rfl⟩
  obtain ⟨mn, hmn⟩ : ∃ q, p.main.name = q := ⟨_, rfl⟩
  obtain ⟨ms, hms⟩ : ∃ q, p.main.stat = q := ⟨_, rfl⟩
  obtain ⟨mb, hmb⟩ : ∃ q, p.main.bare = q := ⟨_, rfl⟩
  obtain ⟨np, hnp⟩ : ∃ q, p.main.ps.length = q := ⟨_, rfl⟩
  obtain ⟨nl, hnl⟩ : ∃ q, p.main.ls.length = q := ⟨_, rfl⟩
  obtain ⟨nb, hnb⟩ : ∃ q, p.main.bd.length = q := ⟨_, rfl⟩
  rw [hnc] at HC HG HW z0 ⊢
  rw [hmr] at HBl HG HW ⊢
  rw [hmn] at HBl HG HW ⊢
  rw [hms] at HBl HG HW ⊢
  rw [hmb] at HBl HG HW ⊢
  rw [hnp] at HBl HG HW ⊢
  rw [hnl] at HBl HG HW ⊢
  rw [hnb] at HBl HG HW ⊢
  clear hnc hmr hmn hms hmb hnp hnl hnb
  go_enter Tryz.func14, Tryz.ntmps14
  go_wp2_with fail
  rw [HW.out, HW2.out]
  refine HC.out.mono ?_
  rintro e w1 ⟨rfl, F1, hs1, hf1, ht1⟩
  have y1 := HG.out w1 ht1 1 _ rfl
  have y2 := HG.out w1 ht1 2 _ rfl
  have y3 := HG.out w1 ht1 3 _ rfl
  have y4 := HG.out w1 ht1 4 _ rfl
  have y5 := HG.out w1 ht1 5 _ rfl
  have y6 := HG.out w1 ht1 6 _ rfl
  have y7 := HG.out w1 ht1 7 _ rfl
  have y8 := HG.out w1 ht1 8 _ rfl
  have y9 := HG.out w1 ht1 9 _ rfl
  have HCB := Lib.hid (HBl.out w1 F1 hs1 hf1 ht1)
  have HF1 := Lib.hid (And.intro hf1 ht1)
  clear hs1 hf1 ht1 z0
  go_wp2_with fail
  refine HCB.out.mono ?_
  rintro e w2 ⟨rfl, hW2⟩
  have HW3 := Lib.hid (Wr.trans HF1.out.1 HF1.out.2 hW2)
  clear hW2
  go_wp2_with fail
  go_ret
  obtain ⟨F3, hs3, hf3, ht3⟩ := HW3.out
  rw [HE1.out] at hs3
  exact ⟨_, F3, rfl, hs3, HTA.out.trans ht3 (fun g hg => by simp at hg; subst hg; exact .inr (by omega))⟩
end Go.Proofs.YtoekaehpcjhhaaaGreatDoor
