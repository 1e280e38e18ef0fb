/- ShowLines, walked. -/
import Derived.Test.YtoekaehpcjhhaaaDoorSmc
import Derived.Test.YtoekaehpcjhhaaaDoorNmc
import Derived.Test.YtoekaehpcjhhaaaDoorRsd
import Derived.Test.YtoekaehpcjhhaaaDoorRln
import Derived.Test.YtoekaehpcjhhaaaDoorAwk
set_option linter.unusedSimpArgs false
set_option linter.unusedVariables false
namespace Go.Proofs.YtoekaehpcjhhaaaDoor
open Go.RowKit

/-- What follows from a statement's being small. -/
theorem small_one {s : St} (h : smL 5 [s] = true) (ho : OkS s) : FtS s ∧ LnS s ∧ (rw1 0 s).length ≤ 2000000 ∧ (∀ r ∈ rw1 0 s, r.2.size ≤ 1200000 ∧ r.1 ≤ 10000000) ∧ (jn ((rw1 0 s).map (·.2)) ⟨#[32]⟩).size ≤ 140737488355328 ∧ RSaidS s ∧ FtL [s] ∧ LnL [s] := by
  have hol : OkL [s] := by unfold OkL; exact ⟨ho, by unfold OkL; trivial⟩
  obtain ⟨h1, h2, _, h4⟩ := sm_facts 5 [s] h hol
  have hf : FtS s := h1.at (j := 0) rfl
  have hl : LnS s := by have := h2; rw [LnL] at this; exact this.1
  have hc := h4 0
  rw [rwL_one] at hc
  have hc2 := cnt_le (k := 5) (by omega)
  have hok := rw1_ok 0 s hf
  have hr : ∀ r ∈ rw1 0 s, r.2.size ≤ 1200000 ∧ r.1 ≤ 10000000 := fun r hr => ⟨(hok r hr).1, by have := (hok r hr).2; omega⟩
  refine ⟨hf, hl, by omega, hr, ?_, rsaid 5 (by omega) [s] h hol s (by simp), h1, h2⟩
  have := size_jn_le ((rw1 0 s).map (·.2)) ⟨#[32]⟩ 1200000 1 (by
    intro a ha
    obtain ⟨r, hr', rfl⟩ := List.mem_map.1 ha
    exact (hr r hr').1) (by decide)
  rw [List.length_map] at this
  have h5 : (rw1 0 s).length * (1200000 + 1) ≤ 2000000 * (1200000 + 1) := Nat.mul_le_mul_right _ (by omega)
  omega

set_option maxHeartbeats 8000000 in
set_option maxRecDepth 100000 in
theorem lines_law (s : St) (cs : List Value) (w : World) (hr : RdS w.heap.size w cs s) (ho : OkS s) (hE : Env w.heap.size w) :
    Calls Tryd.prog 3 #[.agg cs.toArray] w fun e w' => e = .returned (.bool true) ∧ Turn [] w w' := by
  have hRS := hr
  have HO := Lib.hid ho
  obtain ⟨d, x, y, z, t, f, ag, nn, bd, ot, lin, cl⟩ := s
  obtain ⟨A1, c1, A2, c2, A3, c3, rfl, -, -, -, -⟩ := hr.cells
  obtain ⟨S, hS⟩ : ∃ S, St.mk d x y z t f ag nn bd ot lin cl = S := ⟨_, rfl⟩
  rw [hS] at hRS HO
  have tA := bx w #[.int .i64 d, .string x, .string y, .string z, .string t, .string f, .slice A1 ag.length c1, .int .i64 nn, .slice A2 bd.length c2, .slice A3 ot.length c3, .int .i64 lin, .int .i64 cl] 27
  obtain ⟨W, hW⟩ : ∃ W, w.alloc (.cells #[.int .i64 d, .string x, .string y, .string z, .string t, .string f, .slice A1 ag.length c1, .int .i64 nn, .slice A2 bd.length c2, .slice A3 ot.length c3, .int .i64 lin, .int .i64 cl] 27) = W := ⟨_, rfl⟩
  have hg : W.heap[w.heap.size]? = some (.cells #[.int .i64 d, .string x, .string y, .string z, .string t, .string f, .slice A1 ag.length c1, .int .i64 nn, .slice A2 bd.length c2, .slice A3 ot.length c3, .int .i64 lin, .int .i64 cl] 27 (0, 0)) := by rw [← hW]; exact heap_alloc_new w _
  have hWs : W.heap.size = w.heap.size + 1 := by rw [← hW]; simp
  rw [hW] at tA
  have hRW := hRS.turn tA (by simp)
  have hN := one_new hRW (by omega)
  have tB := bx W #[.int .i64 d, .string x, .string y, .string z, .string t, .string f, .slice A1 ag.length c1, .int .i64 nn, .slice A2 bd.length c2, .slice A3 ot.length c3, .int .i64 lin, .int .i64 cl] 27
  obtain ⟨W2, hW2⟩ : ∃ W2, W.alloc (.cells #[.int .i64 d, .string x, .string y, .string z, .string t, .string f, .slice A1 ag.length c1, .int .i64 nn, .slice A2 bd.length c2, .slice A3 ot.length c3, .int .i64 lin, .int .i64 cl] 27) = W2 := ⟨_, rfl⟩
  rw [hW2] at tB hN
  have tW : Turn [] w W2 := tA.trans' tB
  have HT := Lib.hid tW
  have HAw := Lib.hid (fun w' (ht : Turn [] w w') => awake_any w.heap.size w' (hE.turn ht (by simp)))
  have HSm := Lib.hid (fun w' (ht : Turn [] W2 w') => small_any 5 (by omega) [S] (some ⟨W.heap.size, 0, none⟩) 1 (W.heap.size + 1) 4 w' (by decide) (hN.turn ht (by simp) _) (by unfold OkL; exact ⟨HO.out, by unfold OkL; trivial⟩))
  have HNm := Lib.hid (fun w' (ht : Turn [] W2 w') (hs : smL 5 [S] = true) => names_any [S] (small_one hs HO.out).2.2.2.2.2.2.1 (small_one hs HO.out).2.2.2.2.2.2.2 (by simp) (some ⟨W.heap.size, 0, none⟩) 1 (W.heap.size + 1) w' (hN.turn ht (by simp) _))
  rw [nmL_one] at HNm
  rw [hWs] at HSm HNm
  have HLi := Lib.hid (fun w' (ht : Turn [] w w') (hs : smL 5 [S] = true) => line_any S _ w.heap.size w' (hRS.turn ht (by simp)) (hE.turn ht (by simp)) (small_one hs HO.out).1 (small_one hs HO.out).2.1 (by have := (small_one hs HO.out).2.2.1; omega) (small_one hs HO.out).2.2.2.2.1)
  have HRi := Lib.hid (fun w' (ht : Turn [] w w') (hs : smL 5 [S] = true) (hnm : nmS S = true) => rline_any S _ w.heap.size w' (hRS.turn ht (by simp)) ht.size (small_one hs HO.out).2.2.2.2.2.1 (rw1_gd 0 S hnm) (by have := (small_one hs HO.out).2.2.1; omega) (small_one hs HO.out).2.2.2.2.1 (small_one hs HO.out).2.2.2.1)
  obtain ⟨X, hX⟩ : ∃ X, jn ((rw1 0 S).map (·.2)) ⟨#[32]⟩ = X := ⟨_, rfl⟩
  rw [hX] at HLi HRi
  have gs : ∀ (w' : World), Turn [] W w' → ∀ (j : Nat) (v : Value), (#[.int .i64 d, .string x, .string y, .string z, .string t, .string f, .slice A1 ag.length c1, .int .i64 nn, .slice A2 bd.length c2, .slice A3 ot.length c3, .int .i64 lin, .int .i64 cl] : Array Value)[j]? = some v → w'.cell? ⟨w.heap.size, j, none⟩ = some v := fun w' ht j v hv => (ht.cell (p := ⟨w.heap.size, j, none⟩) (by show w.heap.size < W.heap.size; omega) (by simp)).trans ((cell_of_row W _ j _ _ _ hg).trans hv)
  have HG := Lib.hid gs
  have HTB := Lib.hid tB
  have HW := Lib.hid hW
  have HW2 := Lib.hid hW2
  have hwl : w.heap.size < W.heap.size := by omega
  have HTA := Lib.hid tA
  clear hr hRS ho hE hS tA tB hW hW2 hRW hN tW hg hX gs hWs
  go_enter Tryd.func3, Tryd.ntmps3
  go_wp2_with fail
  rw [HW.out, HW2.out]
  refine (HAw.out W2 HT.out).mono ?_
  rintro e w3 ⟨rfl, t3⟩
  have HT3 := Lib.hid (HT.out.trans' t3)
  have HC := Lib.hid (HSm.out w3 t3)
  have HT3' := Lib.hid t3
  clear t3
  go_wp2_with fail
  refine HC.out.mono ?_
  rintro e w4 ⟨rfl, t4⟩
  have HT4 := Lib.hid (HT3.out.trans' t4)
  have HT4' := Lib.hid (HT3'.out.trans' t4)
  clear t4 HC
  cases hs : smL 5 [S] with
  | false =>
    clear hs
    go_wp2_with fail
    refine (HAw.out w4 HT4.out).mono ?_
    rintro e w5 ⟨rfl, t5⟩
    have HT5 := Lib.hid (HT4.out.trans' t5)
    clear t5
    go_wp2_with fail
    go_ret
    exact ⟨rfl, HT5.out⟩
  | true =>
    have HS := Lib.hid hs
    have HC := Lib.hid (HNm.out w4 HT4'.out hs)
    clear hs
    go_wp2_with fail
    refine HC.out.mono ?_
    rintro e w5 ⟨rfl, t5⟩
    have HT5 := Lib.hid (HT4.out.trans' t5)
    have HT5' := Lib.hid (HT4'.out.trans' t5)
    clear t5 HC
    cases hn : nmS S with
    | false =>
      clear hn
      go_wp2_with fail
      refine (HAw.out w5 HT5.out).mono ?_
      rintro e w6 ⟨rfl, t6⟩
      have HT6 := Lib.hid (HT5.out.trans' t6)
      clear t6
      go_wp2_with fail
      go_ret
      exact ⟨rfl, HT6.out⟩
    | true =>
      have HN := Lib.hid hn
      have HL := Lib.hid (HLi.out w5.drew HT5.out.drew HS.out)
      have HG5 := Lib.hid (HG.out w5 (HTB.out.trans' HT5'.out))
      have hlt5 : w.heap.size < w5.heap.size := Nat.lt_of_lt_of_le hwl (HTB.out.trans' HT5'.out).size
      have m0 := HG5.out 0 _ rfl
      have m1 := HG5.out 1 _ rfl
      have m2 := HG5.out 2 _ rfl
      have m3 := HG5.out 3 _ rfl
      have m4 := HG5.out 4 _ rfl
      have m5 := HG5.out 5 _ rfl
      have m6 := HG5.out 6 _ rfl
      have m7 := HG5.out 7 _ rfl
      have m8 := HG5.out 8 _ rfl
      have m9 := HG5.out 9 _ rfl
      have m10 := HG5.out 10 _ rfl
      have m11 := HG5.out 11 _ rfl
      clear hn
      go_wp2_with fail
      go_region_held3 (fun w' => w'.cell? ⟨w.heap.size, 0, none⟩ = some (.int .i64 d) ∧ w'.cell? ⟨w.heap.size, 1, none⟩ = some (.string x) ∧ w'.cell? ⟨w.heap.size, 2, none⟩ = some (.string y) ∧ w'.cell? ⟨w.heap.size, 3, none⟩ = some (.string z) ∧ w'.cell? ⟨w.heap.size, 4, none⟩ = some (.string t) ∧ w'.cell? ⟨w.heap.size, 5, none⟩ = some (.string f) ∧ w'.cell? ⟨w.heap.size, 6, none⟩ = some (.slice A1 ag.length c1) ∧ w'.cell? ⟨w.heap.size, 7, none⟩ = some (.int .i64 nn) ∧ w'.cell? ⟨w.heap.size, 8, none⟩ = some (.slice A2 bd.length c2) ∧ w'.cell? ⟨w.heap.size, 9, none⟩ = some (.slice A3 ot.length c3) ∧ w'.cell? ⟨w.heap.size, 10, none⟩ = some (.int .i64 lin) ∧ w'.cell? ⟨w.heap.size, 11, none⟩ = some (.int .i64 cl))
        (first | exact ⟨m0, m1, m2, m3, m4, m5, m6, m7, m8, m9, m10, m11⟩ | exact ⟨p0, p1, p2, p3, p4, p5, p6, p7, p8, p9, p10, p11⟩ | exact ⟨q0, q1, q2, q3, q4, q5, q6, q7, q8, q9, q10, q11⟩ | go_keep)
        (first
          | (go_at_call 8; (with_reducible refine HL.out.mono ?_); rintro e w6 ⟨rfl, t6⟩
             have HT6 := Lib.hid (HT5.out.drew.trans' t6)
             have hG6 := HG.out w6 ((HTB.out.trans' HT5'.out).drew.trans' t6)
             have p0 := hG6 0 _ rfl
             have p1 := hG6 1 _ rfl
             have p2 := hG6 2 _ rfl
             have p3 := hG6 3 _ rfl
             have p4 := hG6 4 _ rfl
             have p5 := hG6 5 _ rfl
             have p6 := hG6 6 _ rfl
             have p7 := hG6 7 _ rfl
             have p8 := hG6 8 _ rfl
             have p9 := hG6 9 _ rfl
             have p10 := hG6 10 _ rfl
             have p11 := hG6 11 _ rfl
             have HTT6 := Lib.hid ((HTB.out.trans' HT5'.out).drew.trans' t6)
             clear hG6 t6)
          | (go_at_call 9; (with_reducible refine (HRi.out w6 HT6.out HS.out HN.out).mono ?_); rintro e w7 ⟨rfl, t7⟩
             have HT7 := Lib.hid (HT6.out.trans' t7)
             have hG7 := HG.out w7 (HTT6.out.trans' t7)
             have q0 := hG7 0 _ rfl
             have q1 := hG7 1 _ rfl
             have q2 := hG7 2 _ rfl
             have q3 := hG7 3 _ rfl
             have q4 := hG7 4 _ rfl
             have q5 := hG7 5 _ rfl
             have q6 := hG7 6 _ rfl
             have q7 := hG7 7 _ rfl
             have q8 := hG7 8 _ rfl
             have q9 := hG7 9 _ rfl
             have q10 := hG7 10 _ rfl
             have q11 := hG7 11 _ rfl
             clear hG7 t7)
          | fail)
      go_wp2_with fail
      go_ret
      exact ⟨rfl, HT7.out⟩
end Go.Proofs.YtoekaehpcjhhaaaDoor
