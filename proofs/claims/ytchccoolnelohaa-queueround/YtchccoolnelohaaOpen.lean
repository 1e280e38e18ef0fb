/- The laws' arguments read off the data: slices of slices of ints, slices of bools. -/
import Derived.Test.YtchccoolnelohaaTh
import Derived.Test.YtchccoolnelohaaLOrder
import Derived.Test.YtchccoolnelohaaRef
import Derived.ProofKit
import Derived.OpenShut
import Derived.Carry
import Derived.Deep.Slices
import Derived.Deep.Matrix
import Derived.Deep.Grids
set_option linter.unusedSimpArgs false
set_option linter.unusedVariables false
namespace Go.Proofs.Ytchccoolnelohaa
open Go.ChangeShapes Go.WideShapes Go.ChangeAt Go.RowKit Go.Deep

theorem try_own : ownKnob Try.prog.godebug = none := by kernel_rfl
theorem try_laidOut : laidOutB Try.prog = true := by kernel_rfl
theorem c4 : Try.prog.cellsOf 4 = 1 := by kernel_rfl
theorem c26 : Try.prog.cellsOf 26 = 1 := by kernel_rfl
theorem c3 : Try.prog.cellsOf 3 = 1 := by kernel_rfl
theorem byte_of {x : Int} (h : (Lit.int .u8 x).wf = true) : 0 ≤ x ∧ x ≤ 255 := by
  have h' : (decide ((0 : Int) ≤ x) && decide (x ≤ 255)) = true := h
  simpa using h'

theorem spot_none {W : World} {a : Addr} {v : Value} (h : W.cell? (a.add 0) = some v) : a.spot = none := by
  obtain ⟨b, off, spot⟩ := a
  cases spot with
  | none => rfl
  | some s => simp [Addr.add, World.cell?] at h; split at h <;> simp at h

theorem cell_lt {w : World} {g o : Nat} {v : Value} (h : w.cell? ⟨g, o, none⟩ = some v) : g < w.heap.size := by
  by_cases hh : g < w.heap.size
  · exact hh
  · simp only [World.cell?] at h
    rw [Array.getElem?_eq_none (by omega)] at h
    cases h

/-- A slice of slices of ints, opened. -/
theorem open_rws {H : Type} {enc : TypeId × Value → H} {W : World} {a0 : Option Addr} {len cap : Nat} {d : DataW H} {p : List MemPlace}
    (h : DataW.Trod enc Try.prog W 0 (fun _ => true) true 22 (.slice a0 len cap) d p) :
    ∃ ls : List (List Int), len = ls.length ∧ len ≤ 9223372036854775807 ∧ Rws W a0 ls ∧ ∀ l ∈ ls, l.length ≤ 9223372036854775807 := by
  obtain ⟨fuel, hf⟩ := h
  rcases open_int_rows Try.underlying22 Try.underlying26 Try.underlying3 c26 c3 hf with ⟨hcs, hx⟩ | ⟨a, len', cap', A, L, C, Z, hcs, _, hl, hm, hx, hr⟩
  · simp [Value.cells] at hcs
    obtain ⟨rfl, rfl, rfl⟩ := hcs
    exact ⟨[], rfl, by omega, fun k q hq => by simp at hq, fun q hq => by simp at hq⟩
  · simp [Value.cells] at hcs
    obtain ⟨rfl, rfl, rfl⟩ := hcs
    simp only [maxLen] at hm
    have hspot : 0 < len → a.spot = none := fun h0 => spot_none (hr 0 (by omega)).1
    refine ⟨(List.range len).map (fun r => (Z r).take (L r)), by simp, by omega, ?_, ?_⟩
    · intro k l hl'
      rw [List.getElem?_map] at hl'
      have hk : k < len := by
        rcases Nat.lt_or_ge k len with h | h
        · exact h
        · rw [List.getElem?_eq_none (by simpa using h)] at hl'; cases hl'
      rw [List.getElem?_range hk] at hl'
      injection hl' with hl'
      subst hl'
      obtain ⟨hcell, hLC, hCm, hZ, _, hnone, hsome⟩ := hr k (by omega)
      have hsp := hspot (by omega)
      obtain ⟨b, off, spot⟩ := a
      simp only at hsp
      subst hsp
      rw [Addr.add_lit] at hcell
      have hlen : ((Z k).take (L k)).length = L k := by rw [List.length_take]; omega
      refine ⟨b, off, A k, C k, rfl, cell_lt hcell, by rw [hlen]; exact hcell, ?_⟩
      intro j y hy
      have hj : j < L k := by
        have := (List.getElem?_eq_some_iff.1 hy).1
        rw [hlen] at this
        exact this
      rw [List.getElem?_take_of_lt hj] at hy
      cases hA : A k with
      | none => have := hnone hA; omega
      | some a' =>
        obtain ⟨_, hcs⟩ := hsome a' hA
        have hs' : a'.spot = none := spot_none (hcs 0 (by omega))
        obtain ⟨b', off', spot'⟩ := a'
        simp only at hs'
        subst hs'
        have hc := hcs j (by omega)
        rw [Addr.add_lit, List.getD_eq_getElem?_getD, hy] at hc
        exact ⟨b', off', rfl, cell_lt hc, hc⟩
    · intro l hl'
      obtain ⟨i, hi, rfl⟩ := List.mem_map.1 hl'
      obtain ⟨_, hLC, hCm, hZ, _⟩ := hr i (by have := List.mem_range.1 hi; omega)
      simp only [maxLen] at hCm
      rw [List.length_take]
      omega


/-- A slice of bools, opened. -/
theorem open_bls {H : Type} {enc : TypeId × Value → H} {W : World} {a0 : Option Addr} {len cap : Nat} {d : DataW H} {p : List MemPlace}
    (h : DataW.Trod enc Try.prog W 0 (fun _ => true) true 38 (.slice a0 len cap) d p) :
    ∃ l : List Bool, len = l.length ∧ len ≤ 9223372036854775807 ∧ Bls W a0 l := by
  obtain ⟨fuel, hf⟩ := h
  rcases open_bools Try.underlying38 Try.underlying4 c4 hf with ⟨hcs, hx⟩ | ⟨a, len', cap', B, hcs, _, hl, hm, hx, hr⟩
  · simp [Value.cells] at hcs
    obtain ⟨rfl, rfl, rfl⟩ := hcs
    exact ⟨[], rfl, by omega, fun k q hq => by simp at hq⟩
  · simp [Value.cells] at hcs
    obtain ⟨rfl, rfl, rfl⟩ := hcs
    simp only [maxLen] at hm
    refine ⟨(List.range len).map B, by simp, by omega, ?_⟩
    intro k y hy
    rw [List.getElem?_map] at hy
    have hk : k < len := by
      rcases Nat.lt_or_ge k len with h | h
      · exact h
      · rw [List.getElem?_eq_none (by simpa using h)] at hy; cases hy
    rw [List.getElem?_range hk] at hy
    injection hy with hy
    subst hy
    have hsp : a.spot = none := spot_none (hr 0 (by omega))
    obtain ⟨b, off, spot⟩ := a
    simp only at hsp
    subst hsp
    have hc := hr k (by omega)
    rw [Addr.add_lit] at hc
    exact ⟨b, off, rfl, cell_lt hc, hc⟩
end Go.Proofs.Ytchccoolnelohaa
