/- LexLong: a text that is too long is told as that, and one that isn't is taken. -/
import Derived.Test.YthdoihemjndmlaaDoorAw
import Derived.Laws.BytesArg
set_option linter.unusedSimpArgs false
set_option linter.unusedVariables false
namespace Go.Proofs.YthdoihemjndmlaaDoor
open Go.RowKit

theorem tok_zero (r : List UInt8) : lxs (0 :: r) (1, 1) = .bad 10 1 1 := by
  rw [lxs_bad _ (by simp) rfl (by show (fst3 (0 :: r)).1 ≠ 0; rw [show fst3 (0 :: r) = (10, 0, 0) from rfl]; decide)]
  rfl
theorem tok_x : lxs [120] (1, 1) = .good [⟨0, [120], 1, 1⟩] (1, 2) := by decide +kernel

def nulX (n : Nat) : List UInt8 := List.replicate n 0 ++ [120]
theorem nulX_big {n : Nat} (h : 20000 ≤ n) : tokR (nulX n) = .bad 13 1 1 := by
  unfold tokR nulX
  rw [if_pos (by simp; omega)]
theorem nulX_mid {n : Nat} (h : n < 20000) (h0 : 0 < n) : tokR (nulX n) = .bad 10 1 1 := by
  unfold tokR
  rw [if_neg (by simp [nulX]; omega)]
  obtain ⟨m, rfl⟩ : ∃ m, n = m + 1 := ⟨n - 1, by omega⟩
  exact tok_zero _
theorem nulX_none : tokR (nulX 0) = .good [⟨0, [120], 1, 1⟩] (1, 2) := by
  unfold tokR
  rw [if_neg (by decide)]
  exact tok_x

set_option maxHeartbeats 3200000 in
set_option maxRecDepth 100000 in
theorem long_law (hr : ReadSaid) (x : Int) (w : World) (hS : Sg w) (hx : -9223372036854775808 ≤ x ∧ x ≤ 9223372036854775807) :
    Calls Tryd.prog 4 #[.int .i64 x] w fun e w' => e = .returned (.bool true) ∧ Turn [] w w' := by
  have HS := Lib.hid hS
  have HR := Lib.hid hr
  clear hS hr
  by_cases hneg : x < 0
  · have d1 : decide (x < 0) = true := by simpa using hneg
    go_enter Tryd.func4, Tryd.ntmps4
    go_wp2_with fail
    refine (awake_any HR.out w HS.out).mono ?_
    rintro e w1 ⟨rfl, t1⟩
    have HT1 := Lib.hid t1
    clear t1
    go_wp2_with fail
    refine (awake_any HR.out w1 (HS.out.turn HT1.out (by simp))).mono ?_
    rintro e w2 ⟨rfl, t2⟩
    have HT2 := Lib.hid (HT1.out.trans' t2)
    clear t2
    go_wp2_with fail
    go_ret
    exact ⟨rfl, HT2.out⟩
  · obtain ⟨n, rfl⟩ : ∃ n : Nat, x = (n : Int) := ⟨x.toNat, by omega⟩
    have d1 : decide ((n : Int) < 0) = false := by simp
    by_cases hbig : 30000 < n
    · have d2 : decide ((30000 : Int) < (n : Int)) = true := by simp; omega
      have d3 : (30000 : Int) < (n : Int) := by omega
      go_enter Tryd.func4, Tryd.ntmps4
      go_wp2_with fail
      refine (awake_any HR.out w HS.out).mono ?_
      rintro e w1 ⟨rfl, t1⟩
      have HT1 := Lib.hid t1
      clear t1
      go_wp2_with fail
      refine (awake_any HR.out w1 (HS.out.turn HT1.out (by simp))).mono ?_
      rintro e w2 ⟨rfl, t2⟩
      have HT2 := Lib.hid (HT1.out.trans' t2)
      clear t2
      go_wp2_with fail
      go_ret
      exact ⟨rfl, HT2.out⟩
    · have d2 : decide ((30000 : Int) < (n : Int)) = false := by simp; omega
      have d3 : ¬ (30000 : Int) < (n : Int) := by omega
      obtain ⟨i0, hi, hz0, hz1, hz2⟩ := info_parts byte_info
      obtain ⟨M, hM⟩ : ∃ M, M = madeCells (Value.int .u8 0).cells (((n : Nat) : Int).toNat * i0.size) := ⟨_, rfl⟩
      have hmk : ∀ W : World, (Instr.makeSlice 33 (.int .i64 (n : Int)) (.int .i64 (n : Int))).run Tryd.prog W = .ok (.slice (some ⟨W.heap.size, 0, none⟩) n n) (W.alloc (.cells M 5)) := fun W => by
        have h := run_make (P := Tryd.prog) W 33 5 i0 (.int .u8 0) Tryd.underlying33 hi hz0 .i64 .i64 (n : Int) (n : Int) (by omega) (by omega) (by rw [hz2]; omega) (by omega)
        rw [← hM] at h
        simpa using h
      obtain ⟨S, hSd⟩ : ∃ S : ByteArray, S = strOfNums (List.replicate n 0) ++ ⟨#[120]⟩ := ⟨_, rfl⟩
      have hSl : S.data.toList = nulX n := by
        rw [hSd, ByteArray.data_append, Array.toList_append, strOfNums_data]
        simp [nulX]
      have hcv : ∀ W : World, (convert 33 9 (.slice (some ⟨W.heap.size, 0, none⟩) n n)).run Tryd.prog (W.alloc (.cells M 5)) = .ok (.string (strOfNums (List.replicate n 0))) (W.alloc (.cells M 5)) := fun W => by
        refine run_convert_bytes_arg (W.alloc (.cells M 5)) 33 5 Tryd.underlying33 Tryd.underlying5 W.heap.size 0 n n (List.replicate n 0) (by simp) (fun i hi' => ?_) 9 Tryd.underlying9
        rw [cell_of_row _ W.heap.size _ M 5 (0, 0) (heap_alloc_new W _), hM]
        rw [← Array.getElem?_toList, show (Value.int .u8 0).cells = #[.int .u8 0] from rfl, toList_madeCells_one, hz1]
        rw [List.getElem?_replicate, if_pos (by simp; omega)]
        simp [List.getD, List.getElem?_replicate, hi']
      have hss : (strOfNums (List.replicate n 0)).size = n := by rw [strOfNums_size]; simp
      have HSd := Lib.hid hSd
      have HSl := Lib.hid hSl
      clear hM hSd hSl
      obtain ⟨Z, hZ⟩ : ∃ Z, strOfNums (List.replicate n 0) = Z := ⟨_, rfl⟩
      rw [hZ] at hcv hss HSd
      have HSe := HSd.out
      clear hZ HSd
      have HSe := Lib.hid HSe
      go_enter Tryd.func4, Tryd.ntmps4
      go_wp2_with fail
      refine (awake_any HR.out w HS.out).mono ?_
      rintro e w1 ⟨rfl, t1⟩
      have HT1 := Lib.hid t1
      clear t1
      have hcv1 := hcv w1
      clear hcv
      go_wp2_with fail
      have hSW : Sg (w1.alloc (.cells M 5)) := (HS.out.turn HT1.out (by simp)).turn ((Turn.refl [] w1).alloc _) (by simp)
      have HSW := Lib.hid hSW
      have HTW := Lib.hid ((HT1.out).alloc (.cells M 5))
      clear hSW
      rw [← HSe.out]
      by_cases hA : 20000 ≤ n
      · have e1 : decide ((20000 : Int) < (n : Int) + 1) = true := by simp; omega
        have e2 : (20000 : Int) < (n : Int) + 1 := by omega
        refine (tokens_bad HR.out S _ HSW.out 13 1 1 (by rw [HSl.out]; exact nulX_big hA)).mono ?_
        rintro e w2 ⟨rfl, t2, _⟩
        have HT2 := Lib.hid (HTW.out.trans' t2)
        clear t2
        simp only [badV]
        go_wp2_with fail
        go_ret
        exact ⟨rfl, ((HT2.out).alloc _).alloc _⟩
      · have e1 : decide ((20000 : Int) < (n : Int) + 1) = false := by simp; omega
        have e2 : ¬ (20000 : Int) < (n : Int) + 1 := by omega
        by_cases hB : 0 < n
        · have e3 : decide ((0 : Int) < (n : Int)) = true := by simp; omega
          have e4 : (0 : Int) < (n : Int) := by omega
          refine (tokens_bad HR.out S _ HSW.out 10 1 1 (by rw [HSl.out]; exact nulX_mid (by omega) hB)).mono ?_
          rintro e w2 ⟨rfl, t2, _⟩
          have HT2 := Lib.hid (HTW.out.trans' t2)
          clear t2
          simp only [badV]
          go_wp2_with fail
          go_ret
          exact ⟨rfl, ((HT2.out).alloc _).alloc _⟩
        · obtain rfl : n = 0 := by omega
          refine (tokens_good HR.out S _ HSW.out _ _ (by rw [HSl.out]; exact nulX_none)).mono ?_
          rintro e w2 ⟨V, rfl, t2, hV, _⟩
          obtain ⟨A, c, rfl, hc, _⟩ := hV.form
          have HT2 := Lib.hid (HTW.out.trans' t2)
          clear t2 hV
          simp only [goodV, List.length_cons, List.length_nil]
          go_wp2_with fail
          go_ret
          exact ⟨rfl, ((HT2.out).alloc _).alloc _⟩
end Go.Proofs.YthdoihemjndmlaaDoor
