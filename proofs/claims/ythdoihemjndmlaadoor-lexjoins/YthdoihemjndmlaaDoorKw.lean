/- Which words are keywords: the program's Keyword, the reference's. -/
import Derived.Test.YthdoihemjndmlaaDoorKd
import Derived.Deep.MidRow
set_option linter.unusedSimpArgs false
set_option linter.unusedVariables false
namespace Go.Proofs.YthdoihemjndmlaaDoor
open Go.RowKit

def kwL : List (List UInt8) := [[99, 108, 97, 115, 115], [101, 120, 116, 101, 110, 100, 115], [105, 109, 112, 108, 101, 109, 101, 110, 116, 115], [105, 110, 116, 101, 114, 102, 97, 99, 101], [102, 105, 101, 108, 100], [115, 116, 97, 116, 105, 99], [109, 101, 116, 104, 111, 100], [105, 110, 105, 116], [109, 97, 105, 110], [118, 97, 114], [110, 101, 119], [110, 117, 108, 108], [105, 110, 112, 117, 116], [116, 104, 114, 111, 119], [116, 114, 121], [99, 97, 116, 99, 104], [105, 102], [101, 108, 115, 101], [119, 104, 105, 108, 101], [114, 101, 116, 117, 114, 110], [105, 110, 116], [118, 111, 105, 100]]
/-- The table of keywords lies where the program's text lays it. -/
def Kw (w : World) : Prop := 0 < w.heap.size ∧ ∀ i x, kwL[i]? = some x → w.cell? ⟨0, i, none⟩ = some (.string ⟨x.toArray⟩)
theorem Kw.turn {F : List Nat} {w w' : World} (h : Kw w) (t : Turn F w w') (hn : 0 ∉ F) : Kw w' :=
  ⟨Nat.lt_of_lt_of_le h.1 t.size, fun i x hx => (t.cell (p := ⟨0, i, none⟩) h.1 hn).trans (h.2 i x hx)⟩
def kwC : List Value := kwL.map (fun x => .string ⟨x.toArray⟩)
set_option maxRecDepth 100000 in
theorem kw_index (i : Nat) (x : List UInt8) (h : kwL[i]? = some x) (W : World) : (Instr.index 51 (.agg kwC.toArray) (.int .i64 (i : Int))).run Tryd.prog W = .ok (.string ⟨x.toArray⟩) W := by
  iterate 22 (rcases i with _ | i; · (injection h with h; subst h; kernel_rfl))
  simp [kwL] at h
theorem kw_range {w : World} (h : Kw w) : w.rangeAt 0 0 kwC := fun j v hv => by
  unfold kwC at hv
  rw [List.getElem?_map] at hv
  cases hx : kwL[j]? with
  | none => rw [hx] at hv; cases hv
  | some x =>
    rw [hx] at hv
    injection hv with hv
    subst hv
    rw [Nat.zero_add]
    exact h.2 j x hx

theorem mem_next {l : List (List UInt8)} {i : Nat} {x t : List UInt8} (h : l[i]? = some x) (h0 : t ∉ l.take i) (hn : t ≠ x) : t ∉ l.take (i + 1) := by
  rw [take_snoc h]
  simp
  exact ⟨h0, hn⟩
theorem data_eq {s : ByteArray} {x : List UInt8} : s = ⟨x.toArray⟩ ↔ s.data.toList = x := by
  constructor
  · rintro rfl
    rfl
  · rintro rfl
    rw [Lib.mk_data]

set_option maxHeartbeats 1600000 in
set_option maxRecDepth 100000 in
theorem keyword_any (s : ByteArray) (w : World) (h : Kw w) :
    Calls Tryd.prog 12 #[.string s] w fun e w' => e = .returned (.bool (kwL.contains s.data.toList)) ∧ w' = w := by
  have HX := Lib.hid kw_index
  have hc := kw_range h
  have hlen : (Tryd.prog.info? 51).map (·.size) = some kwC.length := by kernel_rfl
  obtain ⟨C, hC⟩ : ∃ C, kwC = C := ⟨_, rfl⟩
  rw [hC] at HX hc hlen
  have HCR := Lib.hid hc
  have HCL := Lib.hid hlen
  clear hC h hc hlen
  go_enter Tryd.func12, Tryd.ntmps12
  go_wp2_with (refine wpList_load_mid rfl 51 (.global 0) rfl 0 0 rfl C _ HCR.out Tryd.underlying51 rfl HCL.out ?_)
  go_loopw [6] (fun ti wr => ∃ i : Nat, i ≤ 22 ∧ ti = .int .i64 (i : Int) ∧ Hid (s.data.toList ∉ kwL.take i) ∧ w = wr) (fun ti _ => 22 - (intOf ti).toNat)
  case atStart => exact ⟨0, by omega, rfl, Lib.hid (by simp), rfl⟩
  case round =>
    obtain ⟨i, hi, rfl, HF, rfl⟩ := hrel
    by_cases hlt : i < 22
    · obtain ⟨x, hx⟩ := at_lt (show i < kwL.length from hlt)
      have hix := HX.out i x hx
      have HP := Lib.hid hx
      clear hx
      have hd : decide ((i : Int) < 22) = true := by simp; omega
      have hd2 : (i : Int) < 22 := by omega
      obtain ⟨X, hX⟩ : ∃ X : ByteArray, X = ⟨x.toArray⟩ := ⟨_, rfl⟩
      rw [← hX] at hix
      by_cases he : s = X
      · have e1 := bytes_t he
        have HE := Lib.hid (he.trans hX)
        clear he hX
        go_wp2_with fail
        go_ret
        refine ⟨ret_bool ?_, rfl⟩
        have := data_eq.1 HE.out
        rw [this]
        simp only [List.contains_eq_mem]
        exact (decide_eq_true (List.mem_of_getElem? HP.out)).symm
      · have e1 := bytes_f he
        have HE := Lib.hid (show s.data.toList ≠ x from fun e => he ((data_eq.2 e).trans hX.symm))
        clear he hX
        go_wp2_with fail
        go_roundw
        case rel => exact ⟨i + 1, by omega, by go_num, Lib.hid (mem_next HP.out HF.out HE.out), by first | rfl | trivial⟩
        case measure => simp [intOf]; omega
    · obtain rfl : i = 22 := by omega
      go_wp2_with fail
      go_ret
      refine ⟨ret_bool ?_, rfl⟩
      have := HF.out
      rw [List.take_of_length_le (by decide)] at this
      simp only [List.contains_eq_mem]
      exact (decide_eq_false this).symm

theorem words_any (w : World) : Calls Tryd.prog 21 #[] w fun e w' => ∃ g, e = .returned (.slice (some ⟨g, 0, none⟩) 22 22) ∧ (∀ i x, kwL[i]? = some x → w'.cell? ⟨g, i, none⟩ = some (.string ⟨x.toArray⟩)) ∧ Turn [] w w' ∧ g < w'.heap.size := by
  go_enter Tryd.func21, Tryd.ntmps21
  go_wp2_with fail
  go_ret
  refine ⟨_, rfl, ?_, (Turn.refl _ _).alloc _, by simp⟩
  intro i x hx
  rw [cell_of_row _ w.heap.size i _ 9 (0, 0) (heap_alloc_new w _)]
  iterate 22 (rcases i with _ | i; · (injection hx with hx; subst hx; rfl))
  simp [kwL] at hx

set_option maxHeartbeats 1600000 in
theorem refKeyword_any (s : ByteArray) (w : World) :
    Calls Tryd.prog 13 #[.string s] w fun e w' => e = .returned (.bool (kwL.contains s.data.toList)) ∧ Turn [] w w' := by
  go_enter Tryd.func13, Tryd.ntmps13
  go_wp2_with fail
  refine (words_any w).mono ?_
  rintro e w1 ⟨g, rfl, hc, t1, hg⟩
  have HT1 := Lib.hid t1
  have HC := Lib.hid hc
  clear t1 hc
  go_wp2_with fail
  go_loopw [4] (fun ti wr => ∃ i : Nat, i ≤ 22 ∧ ti = .int .i64 (i : Int) ∧ Hid (s.data.toList ∉ kwL.take i) ∧ w1 = wr) (fun ti _ => 22 - (intOf ti).toNat)
  case atStart => exact ⟨0, by omega, rfl, Lib.hid (by simp), rfl⟩
  case round =>
    obtain ⟨i, hi, rfl, HF, rfl⟩ := hrel
    by_cases hlt : i < 22
    · obtain ⟨x, hx⟩ := at_lt (show i < kwL.length from hlt)
      have hix := HC.out i x hx
      have HP := Lib.hid hx
      clear hx
      have hd : decide ((i : Int) < 22) = true := by simp; omega
      have hd2 : (i : Int) < 22 := by omega
      obtain ⟨X, hX⟩ : ∃ X : ByteArray, X = ⟨x.toArray⟩ := ⟨_, rfl⟩
      rw [← hX] at hix
      by_cases he : X = s
      · have e1 := bytes_t he
        have HE := Lib.hid (he.symm.trans hX)
        clear he hX
        go_wp2_with fail
        go_ret
        refine ⟨ret_bool ?_, HT1.out⟩
        have := data_eq.1 HE.out
        rw [this]
        simp only [List.contains_eq_mem]
        exact (decide_eq_true (List.mem_of_getElem? HP.out)).symm
      · have e1 := bytes_f he
        have HE := Lib.hid (show s.data.toList ≠ x from fun e => he (((data_eq.2 e).trans hX.symm).symm))
        clear he hX
        go_wp2_with fail
        go_roundw
        case rel => exact ⟨i + 1, by omega, by go_num, Lib.hid (mem_next HP.out HF.out HE.out), by first | rfl | trivial⟩
        case measure => simp [intOf]; omega
    · obtain rfl : i = 22 := by omega
      go_wp2_with fail
      go_ret
      refine ⟨ret_bool ?_, HT1.out⟩
      have := HF.out
      rw [List.take_of_length_le (by decide)] at this
      simp only [List.contains_eq_mem]
      exact (decide_eq_false this).symm
end Go.Proofs.YthdoihemjndmlaaDoor
