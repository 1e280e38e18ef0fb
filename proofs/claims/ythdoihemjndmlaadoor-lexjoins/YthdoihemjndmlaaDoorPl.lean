/- The reference's Place. -/
import Derived.Test.YthdoihemjndmlaaDoorRd
import Derived.Deep.DeepCutAuto
set_option linter.unusedSimpArgs false
set_option linter.unusedVariables false
namespace Go.Proofs.YthdoihemjndmlaaDoor
open Go.RowKit

theorem cells2_0 {w : World} {b : Nat} {x0 x1 y : Value} (h : w.heap[b]? = some (.cells #[x0, x1] 25 (0, 0))) : (w.setCell ⟨b, 0, none⟩ y).heap[b]? = some (.cells #[y, x1] 25 (0, 0)) := by
  simp only [World.setCell, Array.getElem?_modify, h, if_true, Option.map_some]
  rfl
theorem cells2_1 {w : World} {b : Nat} {x0 x1 y : Value} (h : w.heap[b]? = some (.cells #[x0, x1] 25 (0, 0))) : (w.setCell ⟨b, 1, none⟩ y).heap[b]? = some (.cells #[x0, y] 25 (0, 0)) := by
  simp only [World.setCell, Array.getElem?_modify, h, if_true, Option.map_some]
  rfl
theorem plc_zero (T : List UInt8) : plc T 0 = (1, 1) := rfl
theorem plc_succ {T : List UInt8} {i : Nat} {c : UInt8} (h : T[i]? = some c) : plc T (i + 1) = adv (plc T i) c := by
  unfold plc
  rw [take_snoc h, pss_snoc]

set_option maxHeartbeats 1600000 in
theorem refPlace_any (s : ByteArray) (n : Nat) (w : World) (hn : n ≤ s.size) (hs : s.size ≤ 900000) :
    Calls Tryd.prog 16 #[.string s, .int .i64 (n : Int)] w fun e w' => e = .returned (.agg #[.int .i64 ((plc s.data.toList n).1 : Int), .int .i64 ((plc s.data.toList n).2 : Int)]) ∧ Turn [] w w' := by
  have hl : s.data.toList.length = s.size := (Lib.size_eq s).symm
  go_enter Tryd.func16, Tryd.ntmps16
  go_upto_region 2 with (fail)
  obtain ⟨W, hW⟩ : ∃ W, (w.alloc (.cells #[.int .i64 0, .int .i64 0] 25)).alloc (.cells #[.int .i64 1, .int .i64 1] 25) = W := ⟨_, rfl⟩
  obtain ⟨r, hr⟩ : ∃ r, w.heap.size = r := ⟨_, rfl⟩
  rw [hW, hr]
  have hb0 : W.heap[r]? = some (.cells #[.int .i64 0, .int .i64 0] 25 (0, 0)) := by
    rw [← hW, ← hr]
    exact ((Turn.refl [] _).alloc _).heap (heap_alloc_new w _) (by simp)
  have hb1 : W.heap[r + 1]? = some (.cells #[.int .i64 ((plc s.data.toList 0).1 : Int), .int .i64 ((plc s.data.toList 0).2 : Int)] 25 (0, 0)) := by
    rw [← hW, ← hr]
    have := heap_alloc_new (w.alloc (.cells #[.int .i64 0, .int .i64 0] 25)) (.cells #[.int .i64 1, .int .i64 1] 25)
    rwa [World.size_alloc] at this
  have hT : Turn [] w W := by rw [← hW]; exact ((Turn.refl [] w).alloc _).alloc _
  have HB0 := Lib.hid hb0
  have HB1 := Lib.hid hb1
  have HT := Lib.hid hT
  have HR := Lib.hid hr
  have HL := Lib.hid hl
  clear hW hr hb0 hb1 hT hl
  go_wp2_with fail
  go_loopw [6] (fun ti wr => ∃ i : Nat, i ≤ n ∧ ti = .int .i64 (i : Int) ∧ Hid (wr.heap[r]? = some (.cells #[.int .i64 0, .int .i64 0] 25 (0, 0))) ∧ Hid (wr.heap[r + 1]? = some (.cells #[.int .i64 ((plc s.data.toList i).1 : Int), .int .i64 ((plc s.data.toList i).2 : Int)] 25 (0, 0))) ∧ Hid (Turn [] w wr)) (fun ti _ => n - (intOf ti).toNat)
  case atStart => exact ⟨0, by omega, rfl, HB0, HB1, HT⟩
  case round =>
    obtain ⟨i, hi, rfl, HC0, HC1, HTw⟩ := hrel
    have hrr := HR.out
    have k0 : wr.cell? ⟨r + 1, 0, none⟩ = some (.int .i64 ((plc s.data.toList i).1 : Int)) := cell_of_row wr (r + 1) 0 _ 25 (0, 0) HC1.out
    have k1 : wr.cell? ⟨r + 1, 1, none⟩ = some (.int .i64 ((plc s.data.toList i).2 : Int)) := cell_of_row wr (r + 1) 1 _ 25 (0, 0) HC1.out
    have f0 : wr.frozen? ⟨r + 1, 0, none⟩ = false := frozen_of_row wr (r + 1) 0 _ 25 HC1.out
    have f1 : wr.frozen? ⟨r + 1, 1, none⟩ = false := frozen_of_row wr (r + 1) 1 _ 25 HC1.out
    have hple := plc_le s.data.toList i
    rw [HL.out] at hple
    by_cases hlt : i < n
    · have d1 : decide ((i : Int) < (n : Int)) = true := by simp; omega
      have d2 : (i : Int) < (n : Int) := by omega
      have his : i < s.size := by omega
      have hst := plc_succ (data_get his)
      have d7 : (i : Int) < (s.size : Int) := by omega
      obtain ⟨q1, hq1⟩ : ∃ q, (plc s.data.toList i).1 = q := ⟨_, rfl⟩
      obtain ⟨q2, hq2⟩ : ∃ q, (plc s.data.toList i).2 = q := ⟨_, rfl⟩
      have hpe : plc s.data.toList i = (q1, q2) := by rw [← hq1, ← hq2]
      rw [hq1, hq2] at hple
      rw [hq1] at k0
      rw [hq2] at k1
      rw [hq1, hq2] at HC1
      rw [hpe] at hst
      have HST := Lib.hid hst
      clear hst hpe hq1 hq2
      by_cases h10 : s[i] = 10
      · have d3 : decide ((s[i].toNat : Int) = 10) = true := by rw [h10]; rfl
        have d4 : ((s[i].toNat : Int) == 10) = true := by rw [h10]; rfl
        have d5 : (s[i].toNat : Int) = 10 := by rw [h10]; rfl
        have H10 := Lib.hid h10
        clear h10 hrr
        go_wp2_with fail
        have hrr := HR.out
        go_roundw
        case rel =>
          refine ⟨i + 1, by omega, by go_num, Lib.hid ?_, Lib.hid ?_, Lib.hid (((HTw.out).setCell (.inr (by simp; omega)) _).setCell (.inr (by simp; omega)) _)⟩
          · exact (((Turn.refl [r + 1] wr).setCell (.inl (by simp)) _).setCell (.inl (by simp)) _).heap HC0.out (by simp)
          · rw [HST.out]
            unfold adv
            rw [if_pos H10.out]
            exact cells2_1 (cells2_0 HC1.out)
        case measure => simp [intOf]; omega
      · have h11 : ¬ (s[i].toNat : Int) = 10 := fun e => h10 (UInt8.toNat_inj.1 (by simpa using (by omega : s[i].toNat = 10)))
        have d3 : decide ((s[i].toNat : Int) = 10) = false := by simpa using h11
        have d4 : ((s[i].toNat : Int) == 10) = false := by simpa using h11
        have H10 := Lib.hid h10
        clear h10 hrr
        go_wp2_with fail
        have hrr := HR.out
        go_roundw
        case rel =>
          refine ⟨i + 1, by omega, by go_num, Lib.hid ?_, Lib.hid ?_, Lib.hid ((HTw.out).setCell (.inr (by simp; omega)) _)⟩
          · exact ((Turn.refl [r + 1] wr).setCell (.inl (by simp)) _).heap HC0.out (by simp)
          · rw [HST.out]
            unfold adv
            rw [if_neg H10.out]
            exact cells2_1 HC1.out
        case measure => simp [intOf]; omega
    · obtain rfl : i = n := by omega
      have p0 : wr.cell? ⟨r, 0, none⟩ = some (.int .i64 0) := cell_of_row wr r 0 _ 25 (0, 0) HC0.out
      have p1 : wr.cell? ⟨r, 1, none⟩ = some (.int .i64 0) := cell_of_row wr r 1 _ 25 (0, 0) HC0.out
      have g0 : wr.frozen? ⟨r, 0, none⟩ = false := frozen_of_row wr r 0 _ 25 HC0.out
      have g1 : wr.frozen? ⟨r, 1, none⟩ = false := frozen_of_row wr r 1 _ 25 HC0.out
      clear hrr
      go_wp2_with fail
      refine bodyPost_ret (v := .agg #[.int .i64 ((plc s.data.toList i).1 : Int), .int .i64 ((plc s.data.toList i).2 : Int)]) (by simp [results, Tryd.results16, go_sem, p0, p1]) rfl ⟨rfl, ?_⟩
      have hrr := HR.out
      exact (((HTw.out).setCell (.inr (by simp; omega)) _).setCell (.inr (by simp; omega)) _)
end Go.Proofs.YthdoihemjndmlaaDoor
