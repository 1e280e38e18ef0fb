/- Going along a text: place.pass, place.fault, cursor.take, start. -/
import Derived.Test.YthdoihemjndmlaaDoorMw
import Derived.StillTailTactics
import Derived.Deep.RegionHeld3
set_option linter.unusedSimpArgs false
set_option linter.unusedVariables false
namespace Go.Proofs.YthdoihemjndmlaaDoor
open Go.RowKit

def adv (p : Nat × Nat) (c : UInt8) : Nat × Nat := if c = 10 then (p.1 + 1, 1) else (p.1, p.2 + 1)
def pss (p : Nat × Nat) (t : List UInt8) : Nat × Nat := t.foldl adv p

theorem pss_le : ∀ (t : List UInt8) (p : Nat × Nat), (pss p t).1 ≤ p.1 + t.length ∧ (pss p t).2 ≤ p.2 + t.length + 1
  | [], p => by simp [pss]
  | c :: t, p => by
    have := pss_le t (adv p c)
    have e : pss p (c :: t) = pss (adv p c) t := rfl
    rw [e, List.length_cons]
    unfold adv at *
    split at this <;> (rename_i h; simp only [h, if_true, if_false] at this ⊢; omega)
theorem pss_snoc (p : Nat × Nat) (t : List UInt8) (c : UInt8) : pss p (t ++ [c]) = adv (pss p t) c := by simp [pss, List.foldl_append]
theorem pss_app (p : Nat × Nat) (t u : List UInt8) : pss p (t ++ u) = pss (pss p t) u := by simp [pss, List.foldl_append]

theorem cells4_0 {w : World} {b : Nat} {x0 x1 x2 x3 y : Value} (h : w.heap[b]? = some (.cells #[x0, x1, x2, x3] 46 (0, 0))) : (w.setCell ⟨b, 0, none⟩ y).heap[b]? = some (.cells #[y, x1, x2, x3] 46 (0, 0)) := by
  simp only [World.setCell, Array.getElem?_modify, h, if_true, Option.map_some]
  rfl
theorem cells4_1 {w : World} {b : Nat} {x0 x1 x2 x3 y : Value} (h : w.heap[b]? = some (.cells #[x0, x1, x2, x3] 46 (0, 0))) : (w.setCell ⟨b, 1, none⟩ y).heap[b]? = some (.cells #[x0, y, x2, x3] 46 (0, 0)) := by
  simp only [World.setCell, Array.getElem?_modify, h, if_true, Option.map_some]
  rfl
theorem cells4_2 {w : World} {b : Nat} {x0 x1 x2 x3 y : Value} (h : w.heap[b]? = some (.cells #[x0, x1, x2, x3] 46 (0, 0))) : (w.setCell ⟨b, 2, none⟩ y).heap[b]? = some (.cells #[x0, x1, y, x3] 46 (0, 0)) := by
  simp only [World.setCell, Array.getElem?_modify, h, if_true, Option.map_some]
  rfl
theorem cells4_3 {w : World} {b : Nat} {x0 x1 x2 x3 y : Value} (h : w.heap[b]? = some (.cells #[x0, x1, x2, x3] 46 (0, 0))) : (w.setCell ⟨b, 3, none⟩ y).heap[b]? = some (.cells #[x0, x1, x2, y] 46 (0, 0)) := by
  simp only [World.setCell, Array.getElem?_modify, h, if_true, Option.map_some]
  rfl

theorem cell_of_row (w : World) (b i : Nat) (cs : Array Value) (t : TypeId) (z : Nat × Nat) (h : w.heap[b]? = some (.cells cs t z)) : w.cell? ⟨b, i, none⟩ = cs[i]? := by
  simp [World.cell?, h]
theorem frozen_of_row (w : World) (b i : Nat) (cs : Array Value) (t : TypeId) (h : w.heap[b]? = some (.cells cs t (0, 0))) : w.frozen? ⟨b, i, none⟩ = false := by
  simp [World.frozen?, h]

set_option maxHeartbeats 1600000 in
theorem pass_any (b l c : Nat) (x2 x3 : Value) (s : ByteArray) (w : World) (h : w.heap[b]? = some (.cells #[.int .i64 (l : Int), .int .i64 (c : Int), x2, x3] 46 (0, 0))) (hs : s.size ≤ 1000000) (hl : l ≤ 1000000) (hc : c ≤ 1000000) :
    Calls Tryd.prog 42 #[.pointer (some ⟨b, 0, none⟩), .string s] w fun e w' => e = .returned (.tuple #[]) ∧
      w'.heap[b]? = some (.cells #[.int .i64 ((pss (l, c) s.data.toList).1 : Int), .int .i64 ((pss (l, c) s.data.toList).2 : Int), x2, x3] 46 (0, 0)) ∧ Turn [b] w w' := by
  have HB := Lib.hid h
  clear h
  go_enter Tryd.func42, Tryd.ntmps42
  go_wp2_with fail
  go_loopw [7] (fun ti wr => ∃ i q1 q2 : Nat, i ≤ s.size ∧ ti = .int .i64 (i : Int) ∧ q1 ≤ l + i ∧ q2 ≤ c + i + 1 ∧ Hid (pss (l, c) (s.data.toList.take i) = (q1, q2)) ∧ Hid (wr.heap[b]? = some (.cells #[.int .i64 (q1 : Int), .int .i64 (q2 : Int), x2, x3] 46 (0, 0))) ∧ Hid (Turn [b] w wr)) (fun ti _ => s.size - (intOf ti).toNat)
  case atStart => exact ⟨0, l, c, by omega, rfl, by omega, by omega, Lib.hid rfl, HB, Lib.hid (Turn.refl _ _)⟩
  case round =>
    obtain ⟨i, q1, q2, hi, rfl, hq1, hq2, HP, HW, HT⟩ := hrel
    by_cases hlt : i < s.size
    · have d1 : decide ((i : Int) < (s.size : Int)) = true := by simp; omega
      have d2 : (i : Int) < (s.size : Int) := by omega
      have hst : pss (l, c) (s.data.toList.take (i + 1)) = adv (q1, q2) s[i] := by
        rw [take_snoc (data_get hlt), pss_snoc, HP.out]
      have HST := Lib.hid hst
      clear hst
      have c0 : wr.cell? ⟨b, 0, none⟩ = some (.int .i64 (q1 : Int)) := cell_of_row wr b 0 _ 46 (0, 0) HW.out
      have c1 : wr.cell? ⟨b, 1, none⟩ = some (.int .i64 (q2 : Int)) := cell_of_row wr b 1 _ 46 (0, 0) HW.out
      have f0 : wr.frozen? ⟨b, 0, none⟩ = false := frozen_of_row wr b 0 _ 46 HW.out
      have f1 : wr.frozen? ⟨b, 1, none⟩ = false := frozen_of_row wr b 1 _ 46 HW.out
      by_cases h10 : s[i] = 10
      · have d3 : decide ((s[i].toNat : Int) = 10) = true := by rw [h10]; rfl
        have d4 : ((s[i].toNat : Int) == 10) = true := by rw [h10]; rfl
        have d5 : (s[i].toNat : Int) = 10 := by rw [h10]; rfl
        have H10 := Lib.hid h10
        clear h10
        go_wp2_with fail
        go_roundw
        case rel =>
          refine ⟨i + 1, q1 + 1, 1, by omega, by go_num, by omega, by omega, Lib.hid (by rw [HST.out]; unfold adv; rw [if_pos H10.out]), Lib.hid ?_, Lib.hid (((HT.out).setCell (.inl (by simp)) _).setCell (.inl (by simp)) _)⟩
          exact cells4_1 (cells4_0 HW.out)
        case measure => simp [intOf]; omega
      · have h11 : ¬ (s[i].toNat : Int) = 10 := fun e => h10 (UInt8.toNat_inj.1 (by simpa using (by omega : s[i].toNat = 10)))
        have d3 : decide ((s[i].toNat : Int) = 10) = false := by simpa using h11
        have d4 : ((s[i].toNat : Int) == 10) = false := by simpa using h11
        have H10 := Lib.hid h10
        clear h10
        go_wp2_with fail
        go_roundw
        case rel =>
          refine ⟨i + 1, q1, q2 + 1, by omega, by go_num, by omega, by omega, Lib.hid (by rw [HST.out]; unfold adv; rw [if_neg H10.out]), Lib.hid ?_, Lib.hid ((HT.out).setCell (.inl (by simp)) _)⟩
          exact cells4_1 HW.out
        case measure => simp [intOf]; omega
    · obtain rfl : i = s.size := by omega
      go_wp2_with fail
      go_end0
      have := HP.out
      rw [Lib.size_eq, List.take_length] at this
      rw [this]
      exact ⟨rfl, HW.out, HT.out⟩

theorem fault_any (b l c : Nat) (x2 x3 : Value) (k : Nat) (w : World) (h : w.heap[b]? = some (.cells #[.int .i64 (l : Int), .int .i64 (c : Int), x2, x3] 46 (0, 0))) :
    Calls Tryd.prog 18 #[.pointer (some ⟨b, 0, none⟩), .int .i64 (k : Int)] w fun e w' => e = .returned (.agg #[.int .i64 (k : Int), .int .i64 (l : Int), .int .i64 (c : Int)]) ∧ Turn [] w w' := by
  have hb : b < w.heap.size := (Array.getElem?_eq_some_iff.1 h).1
  have c0 : w.cell? ⟨b, 0, none⟩ = some (.int .i64 (l : Int)) := cell_of_row w b 0 _ 46 (0, 0) h
  have c1 : w.cell? ⟨b, 1, none⟩ = some (.int .i64 (c : Int)) := cell_of_row w b 1 _ 46 (0, 0) h
  clear h
  go_enter Tryd.func18, Tryd.ntmps18
  go_wp2_with fail
  obtain ⟨W, hW⟩ : ∃ W, w.alloc (.cells #[.int .i64 0, .int .i64 0, .int .i64 0] 28) = W := ⟨_, rfl⟩
  obtain ⟨r, hr⟩ : ∃ r, w.heap.size = r := ⟨_, rfl⟩
  rw [hW, hr]
  have hZ : W.heap[r]? = some (.cells #[.int .i64 0, .int .i64 0, .int .i64 0] 28 (0, 0)) := by rw [← hW, ← hr]; exact heap_alloc_new w _
  have hT : Turn [] w W := by rw [← hW]; exact (Turn.refl [] w).alloc _
  have k0 : W.cell? ⟨b, 0, none⟩ = some (.int .i64 (l : Int)) := (hT.cell (p := ⟨b, 0, none⟩) hb (by simp)).trans c0
  have k1 : W.cell? ⟨b, 1, none⟩ = some (.int .i64 (c : Int)) := (hT.cell (p := ⟨b, 1, none⟩) hb (by simp)).trans c1
  have z0 : W.cell? ⟨r, 0, none⟩ = some (.int .i64 0) := cell_of_row W r 0 _ 28 (0, 0) hZ
  have z1 : W.cell? ⟨r, 1, none⟩ = some (.int .i64 0) := cell_of_row W r 1 _ 28 (0, 0) hZ
  have z2 : W.cell? ⟨r, 2, none⟩ = some (.int .i64 0) := cell_of_row W r 2 _ 28 (0, 0) hZ
  have f0 : W.frozen? ⟨r, 0, none⟩ = false := frozen_of_row W r 0 _ 28 hZ
  have f1 : W.frozen? ⟨r, 1, none⟩ = false := frozen_of_row W r 1 _ 28 hZ
  have f2 : W.frozen? ⟨r, 2, none⟩ = false := frozen_of_row W r 2 _ 28 hZ
  have HT := Lib.hid hT
  have HR := Lib.hid hr
  clear hW hr hT c0 c1 hZ
  go_still_tail 12, (by kernel_rfl)
  change wpList _ _ _ _ _ W.drew
  go_wp2_with fail
  refine bodyPost_ret (v := .agg #[.int .i64 (k : Int), .int .i64 (l : Int), .int .i64 (c : Int)]) (by simp [results, Tryd.results18, go_sem, z0, z1, z2]) rfl ⟨rfl, ?_⟩
  have := HR.out
  refine ((((HT.out).drew).setCell (.inr ?_) _).setCell (.inr ?_) _).setCell (.inr ?_) _ <;> (simp; omega)

theorem start_any (s : ByteArray) (w : World) :
    Calls Tryd.prog 17 #[.string s] w fun e w' => e = .returned (.agg #[.int .i64 1, .int .i64 1, .string s]) ∧ Turn [] w w' := by
  go_enter Tryd.func17, Tryd.ntmps17
  go_wp2_with fail
  refine bodyPost_ret (v := .agg #[.int .i64 1, .int .i64 1, .string s]) (by simp [results, Tryd.results17, go_sem]) rfl ⟨rfl, (Turn.refl _ _).alloc _⟩

set_option maxHeartbeats 1600000 in
theorem take_any (b l c : Nat) (x3 : Value) (s : ByteArray) (n : Nat) (w : World) (h : w.heap[b]? = some (.cells #[.int .i64 (l : Int), .int .i64 (c : Int), .string s, x3] 46 (0, 0))) (hs : s.size ≤ 1000000) (hl : l ≤ 1000000) (hc : c ≤ 1000000) (hn : n ≤ s.size) :
    Calls Tryd.prog 34 #[.pointer (some ⟨b, 0, none⟩), .int .i64 (n : Int)] w fun e w' => e = .returned (.string (s.extract 0 n)) ∧
      w'.heap[b]? = some (.cells #[.int .i64 ((pss (l, c) (s.data.toList.take n)).1 : Int), .int .i64 ((pss (l, c) (s.data.toList.take n)).2 : Int), .string (s.extract n s.size), x3] 46 (0, 0)) ∧ Turn [b] w w' := by
  have HB := Lib.hid h
  have hb : b < w.heap.size := (Array.getElem?_eq_some_iff.1 h).1
  have c2 : w.cell? ⟨b, 2, none⟩ = some (.string s) := cell_of_row w b 2 _ 46 (0, 0) h
  clear h
  have d1 : (n : Int) ≤ (s.size : Int) := by omega
  have hx : (s.extract 0 n).data.toList = s.data.toList.take n := by rw [Lib.extract_data]; simp
  have HX := Lib.hid hx
  clear hx
  have hxs : (s.extract 0 n).size ≤ 1000000 := by
    rw [Lib.size_eq, HX.out, List.length_take]
    omega
  go_enter Tryd.func34, Tryd.ntmps34
  go_wp2_with fail
  refine (pass_any b l c (.string s) x3 (s.extract 0 n) w HB.out hxs hl hc).mono ?_
  rintro e w1 ⟨rfl, hw1, t1⟩
  rw [HX.out] at hw1
  have HW1 := Lib.hid hw1
  have c2' : w1.cell? ⟨b, 2, none⟩ = some (.string s) := cell_of_row w1 b 2 _ 46 (0, 0) hw1
  have f2' : w1.frozen? ⟨b, 2, none⟩ = false := frozen_of_row w1 b 2 _ 46 hw1
  clear hw1 c2
  have HT1 := Lib.hid t1
  clear t1
  go_wp2_with fail
  go_ret
  exact ⟨rfl, cells4_2 HW1.out, (HT1.out).setCell (.inl (by simp)) _⟩
end Go.Proofs.YthdoihemjndmlaaDoor
