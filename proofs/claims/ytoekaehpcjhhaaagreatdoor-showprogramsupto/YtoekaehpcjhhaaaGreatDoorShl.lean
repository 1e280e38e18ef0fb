/- stmtSheet, oneLine, Line. -/
import Derived.Test.YtoekaehpcjhhaaaGreatDoorBld
set_option linter.unusedSimpArgs false
set_option linter.unusedVariables false
namespace Go.Proofs.YtoekaehpcjhhaaaGreatDoor
open Go.RowKit

set_option maxHeartbeats 2000000 in
theorem sheet_any (l : List St) (A : Option Addr) (c B : Nat) (w : World) (hr : RdL B w A 0 l) (hE : Env B w) (hf : FtL l) (hl : LnL l) (hn : l.length ≤ 1000) (hz : (rwL 0 l).length ≤ 100000000) :
    Calls Tryz.prog 18 #[.slice A l.length c] w fun e w' => e = .returned (.pointer (some ⟨w.heap.size, 0, none⟩)) ∧ ∃ F, Sh 67 w' w.heap.size F (rwL 0 l) 0 ∧ Turn [] w w' := by
  have tA := bx w #[.slice none 0 0, .int .i64 0] 67
  have hS : Sh 67 (w.alloc (.cells #[.slice none 0 0, .int .i64 0] 67)) w.heap.size [w.heap.size] [] 0 :=
    ⟨.slice none 0 0, heap_alloc_new w _, OwnR.nil _, (fun h => by cases h), by simp, (fun g hg => by cases hg), (fun g hg => by simp at hg; subst hg; simp)⟩
  have HC := Lib.hid (stmts_any l hf hl 67 w.heap.size [w.heap.size] [] 0 A c B _ hS (hr.turn tA (by simp) l) (by simpa using hE.lt) (hE.turn tA (by simp)) (by simp; omega) (by omega))
  have HT := Lib.hid tA
  obtain ⟨n, hnn⟩ : ∃ n, l.length = n := ⟨_, rfl⟩
  rw [hnn] at HC ⊢
  clear hS tA hr hE hf hl hn hz hnn
  go_enter Tryz.func18, Tryz.ntmps18
  go_wp2_with fail
  refine HC.out.mono ?_
  rintro e w1 ⟨rfl, hW⟩
  have HW := Lib.hid hW
  clear hW
  go_wp2_with fail
  go_ret
  obtain ⟨F, h1, h2, h3⟩ := HW.out
  rw [List.nil_append] at h1
  exact ⟨rfl, F, h1, HT.out.trans h3 (fun g hg => by simp at hg; subst hg; exact .inr (Nat.le_refl _))⟩

/-- Cells of a slice of rows. -/
theorem row_at {w : World} {T n c : Nat} {A : Option Addr} {R : List Row} (h : w.ownsRow 0 T 2 (.slice A n c) R.length (R.flatMap rcs)) {i : Nat} {r : Row} (hr : R[i]? = some r) :
    ∃ g, A = some ⟨g, 0, none⟩ ∧ g < w.heap.size ∧ w.cell? ⟨g, i * 2, none⟩ = some (.int .i64 (r.1 : Int)) ∧ w.cell? ⟨g, i * 2 + 1, none⟩ = some (.string r.2) := by
  have hi := (List.getElem?_eq_some_iff.1 hr).1
  rcases h.2 with ⟨hv, h0⟩ | ⟨g, cap, cur, hv, hb, hg, hnc, hcm, hcs, ht⟩
  · omega
  · injection hv with h1 h2 h3
    subst h1 h2 h3
    obtain ⟨f1, f2⟩ := flat2 R i r hr
    refine ⟨g, rfl, (Array.getElem?_eq_some_iff.1 hg).1, ?_, ?_⟩
    · rw [World.ownsRow.cellAt h (i * 2) (by show i * 2 < R.length * 2; omega)]; exact f1
    · rw [World.ownsRow.cellAt h (i * 2 + 1) (by show i * 2 + 1 < R.length * 2; omega)]; exact f2
theorem sts_new2 (w : World) (o : Obj) (xs : List ByteArray) (C : Array Value) (hC : C = (xs.map Value.string).toArray) : Sts ((w.alloc o).alloc (.cells C 9)) (some ⟨w.heap.size + 1, 0, none⟩) xs := by
  have := sts_new (w.alloc o) xs C hC
  rwa [World.size_alloc] at this

theorem texts_take {R : List Row} {k : Nat} {r : Row} (h : R[k]? = some r) : (R.take (k + 1)).map (·.2) = (R.take k).map (·.2) ++ [r.2] := by rw [take_snoc h, List.map_append]; rfl

set_option maxHeartbeats 4000000 in
set_option maxRecDepth 100000 in
theorem oneline_any (T b : Nat) (F : List Nat) (R : List Row) (D : Nat) (w : World) (h : Sh T w b F R D) (hR : R.length ≤ 100000000) (hz : (jn (R.map (·.2)) ⟨#[32]⟩).size ≤ 140737488355328) :
    Calls Tryz.prog 19 #[.pointer (some ⟨b, 0, none⟩)] w fun e w' => e = .returned (.string (jn (R.map (·.2)) ⟨#[32]⟩)) ∧ Turn [] w w' := by
  obtain ⟨V, h⟩ := h
  have hrow := h.row
  have hbl : b < w.heap.size := h.fl b h.fb
  obtain ⟨AV, cV, rfl, hVc, hVm⟩ := owns_form hrow
  have c0 : w.cell? ⟨b, 0, none⟩ = some (.slice AV R.length cV) := cell_of_row w b 0 _ T (0, 0) h.blk
  have HR := Lib.hid hrow
  have HZ := Lib.hid hz
  obtain ⟨n, hn⟩ : ∃ n, R.length = n := ⟨_, rfl⟩
  have HN := Lib.hid hn
  rw [hn] at c0 hR
  obtain ⟨i0, hi, hz0, hz1, hz2⟩ := info_parts str_info
  have HI := Lib.hid (And.intro hi (And.intro hz0 (And.intro hz1 hz2)))
  clear h hrow hz hn hVc hVm hi hz0 hz1 hz2
  go_enter Tryz.func19, Tryz.ntmps19
  go_wp2_with (first
    | (at_make; refine wpList_make_own _ rfl _ _ 36 rfl 0 9 i0 _ 1 Tryz.underlying36 HI.out.1 HI.out.2.1 HI.out.2.2.1 .i64 .i64 _ n rfl rfl rfl (by rw [HI.out.2.2.2]; omega) (by unfold maxLen; omega) (Nat.zero_le _) ?_
       intro w0 ho0 hg0
       have t0 : Turn [] w w0 := (Turn.refl [] w).grown hg0 (by simp)
       have d0 : w0.cell? ⟨b, 0, none⟩ = some (.slice AV n cV) := (t0.cell (p := ⟨b, 0, none⟩) hbl (by simp)).trans c0
       have HB0 : Hid (Bld w w0 (.slice (some ⟨w.heap.size, 0, none⟩) 0 n) []) := Lib.hid ⟨ho0, (fun g hg => by injection hg with hg; exact Nat.le_of_eq hg), t0⟩
       clear ho0 hg0 t0 c0)
    | fail)
  go_loopw [3, 17] (fun v i wr => ∃ k : Nat, k ≤ n ∧ i = .int .i64 (k : Int) ∧ Hid (Bld w wr v ((R.take k).map (·.2)))) (fun _ i _ => n - (intOf i).toNat)
  case atStart => exact ⟨0, Nat.zero_le _, rfl, Lib.hid (by simpa using HB0.out)⟩
  case round =>
    obtain ⟨k, hk, rfl, HW⟩ := hrel
    by_cases hlt : k < n
    · obtain ⟨r, hr⟩ := at_lt (l := R) (k := k) (by rw [HN.out]; exact hlt)
      obtain ⟨g, rfl, hgl, q0, q1⟩ := row_at (Turn.owns HW.out.2.2 HR.out (by simp)) hr
      obtain ⟨D0, x⟩ := r
      simp only at q0 q1
      have HX := Lib.hid (texts_take hr)
      have hlk : ((R.take k).map (·.2)).length = k := by rw [List.length_map, List.length_take, HN.out]; omega
      have HLK := Lib.hid hlk
      clear hr hlk
      go_wp2_with (first
        | (at_builtin
           refine wpList_bld rfl (.tmp 21) (.tmp 24) rfl w _ u3 ((R.take k).map (·.2)) [x] (some ⟨wr.heap.size + 1, 0, none⟩) 1 1 rfl rfl (HW.out.turn' ((bx wr _ _).trans' (bx _ _ _))) (sts_new2 wr _ _ _ rfl) rfl (by rw [HLK.out]; simp; omega) ?_
           intro v3 w3 hb3
           have HB3 := Lib.hid hb3
           clear hb3)
        | fail)
      go_roundw
      case rel => exact ⟨k + 1, by omega, by go_num, Lib.hid (by rw [HX.out]; exact HB3.out)⟩
      case measure => simp [intOf]; omega
    · have hkn : k = n := by omega
      subst hkn
      have hb := HW.out
      rw [List.take_of_length_le (by rw [HN.out]; exact Nat.le_refl _)] at hb
      obtain ⟨A', c', hv, hc', _⟩ := owns_form hb.1
      rw [List.length_map, HN.out] at hv
      rw [List.length_map, HN.out] at hc'
      subst hv
      have HJ := Lib.hid (join_any A' c' (R.map (·.2)) ⟨#[32]⟩ wr (OwnS.sts hb.1).2.2 (by rw [List.length_map, HN.out]; exact hc') (by rw [List.length_map, HN.out]; omega) HZ.out)
      rw [List.length_map, HN.out] at HJ
      have HT := Lib.hid hb.2.2
      clear hb HW
      go_wp2_with fail
      refine HJ.out.mono ?_
      rintro e w5 ⟨rfl, t5⟩
      have HT5 := Lib.hid t5
      clear t5
      go_wp2_with fail
      go_ret
      exact ⟨rfl, HT.out.trans' HT5.out⟩

mutual
theorem RdS.mono {B B' : Nat} {w : World} (hB : B ≤ B') : ∀ {cs : List Value} {s : St}, RdS B w cs s → RdS B' w cs s
  | cs, .mk d x y z tt f ag n bd ot ln cl, h => by
    unfold RdS at h ⊢
    obtain ⟨A1, c1, A2, c2, A3, c3, e, k1, k2, k3, h1, hb, h2, h3⟩ := h
    exact ⟨A1, c1, A2, c2, A3, c3, e, k1, k2, k3, h1, fun b off e h0 => Nat.lt_of_lt_of_le (hb b off e h0) hB, RdL.mono hB bd h2, RdL.mono hB ot h3⟩
theorem RdL.mono {B B' : Nat} {w : World} (hB : B ≤ B') {A : Option Addr} {k : Nat} : ∀ (l : List St), RdL B w A k l → RdL B' w A k l
  | [], h => by unfold RdL; trivial
  | s :: l, h => by
    unfold RdL at h ⊢
    obtain ⟨⟨b, off, cs, e, hb, hlt, hc, hs⟩, hl⟩ := h
    exact ⟨⟨b, off, cs, e, Nat.lt_of_lt_of_le hb hB, hlt, hc, RdS.mono hB hs⟩, RdL.mono hB l hl⟩
end
theorem Env.more {B : Nat} {w : World} (h : Env B w) {B' : Nat} (h1 : B ≤ B') (h2 : B' ≤ w.heap.size) : Env B' w := ⟨h2, Nat.le_trans h.gl h1, h.pow⟩

/-- One statement, laid in a slice of its own. -/
theorem one_new {B : Nat} {w : World} {cs : List Value} {s : St} (h : RdS B w cs s) (hB : B ≤ w.heap.size) : RdL (w.heap.size + 1) (w.alloc (.cells cs.toArray 38)) (some ⟨w.heap.size, 0, none⟩) 0 [s] := by
  unfold RdL
  refine ⟨⟨w.heap.size, 0, cs, rfl, by omega, by simp, fun j v hv => ?_, (h.mono (by omega)).turn (bx w _ _) (by simp)⟩, by unfold RdL; trivial⟩
  rw [cell_of_row _ w.heap.size _ _ _ _ (heap_alloc_new w _)]
  simpa using hv

set_option maxHeartbeats 2000000 in
set_option maxRecDepth 100000 in
theorem line_any (s : St) (cs : List Value) (B : Nat) (w : World) (hr : RdS B w cs s) (hE : Env B w) (hf : FtS s) (hl : LnS s) (hz : (rw1 0 s).length ≤ 10000000) (hj : (jn ((rw1 0 s).map (·.2)) ⟨#[32]⟩).size ≤ 140737488355328) :
    Calls Tryz.prog 9 #[.agg cs.toArray] w fun e w' => e = .returned (.string (jn ((rw1 0 s).map (·.2)) ⟨#[32]⟩)) ∧ Turn [] w w' := by
  have hRS := hr
  obtain ⟨d, x, y, z, t, f, ag, n, bd, ot, lin, cl⟩ := s
  obtain ⟨A1, c1, A2, c2, A3, c3, rfl, -, -, -, -⟩ := hr.cells
  have tA := bx w #[.int .i64 d, .string x, .string y, .string z, .string t, .string f, .slice A1 ag.length c1, .int .i64 n, .slice A2 bd.length c2, .slice A3 ot.length c3, .int .i64 lin, .int .i64 cl] 38
  obtain ⟨W, hW⟩ : ∃ W, w.alloc (.cells #[.int .i64 d, .string x, .string y, .string z, .string t, .string f, .slice A1 ag.length c1, .int .i64 n, .slice A2 bd.length c2, .slice A3 ot.length c3, .int .i64 lin, .int .i64 cl] 38) = W := ⟨_, rfl⟩
  have hWs : W.heap.size = w.heap.size + 1 := by rw [← hW]; simp
  rw [hW] at tA
  have hRW := hRS.turn tA (by simp)
  have hN := one_new hRW (by have := hE.lt; omega)
  have tB := bx W #[.int .i64 d, .string x, .string y, .string z, .string t, .string f, .slice A1 ag.length c1, .int .i64 n, .slice A2 bd.length c2, .slice A3 ot.length c3, .int .i64 lin, .int .i64 cl] 38
  obtain ⟨W2, hW2⟩ : ∃ W2, W.alloc (.cells #[.int .i64 d, .string x, .string y, .string z, .string t, .string f, .slice A1 ag.length c1, .int .i64 n, .slice A2 bd.length c2, .slice A3 ot.length c3, .int .i64 lin, .int .i64 cl] 38) = W2 := ⟨_, rfl⟩
  have hWs2 : W2.heap.size = W.heap.size + 1 := by rw [← hW2]; simp
  rw [hW2] at tB hN
  have hE2 : Env (W.heap.size + 1) W2 := ((hE.turn tA (by simp)).turn tB (by simp)).more (by have := hE.lt; omega) (by omega)
  have HC := Lib.hid (sheet_any [.mk d x y z t f ag n bd ot lin cl] (some ⟨W.heap.size, 0, none⟩) 1 (W.heap.size + 1) W2 hN hE2 (by rw [FtL]; exact ⟨hf, by rw [FtL]; trivial⟩) (by rw [LnL]; exact ⟨hl, by rw [LnL]; trivial⟩) (by simp) (by rw [rwL_one]; omega))
  rw [rwL_one] at HC
  rw [hWs] at HC
  have HT := Lib.hid (tA.trans' tB)
  have HW := Lib.hid hW
  have HW2 := Lib.hid hW2
  have HZ := Lib.hid (And.intro hz hj)
  clear tA tB hW hRW hN hr hRS hE hf hl hz hj hWs hW2 hWs2 hE2
  go_enter Tryz.func9, Tryz.ntmps9
  go_wp2_with fail
  rw [HW.out, HW2.out]
  refine HC.out.mono ?_
  rintro e w1 ⟨rfl, F, hS, t1⟩
  have HO := Lib.hid (oneline_any _ _ F _ 0 w1 hS (by have := HZ.out.1; omega) HZ.out.2)
  have HT1 := Lib.hid t1
  clear hS t1 HC
  go_wp2_with fail
  refine HO.out.mono ?_
  rintro e w2 ⟨rfl, t2⟩
  have HT2 := Lib.hid t2
  clear t2
  go_wp2_with fail
  go_ret
  exact ⟨rfl, (HT.out.trans' HT1.out).trans' HT2.out⟩
end Go.Proofs.YtoekaehpcjhhaaaGreatDoor
