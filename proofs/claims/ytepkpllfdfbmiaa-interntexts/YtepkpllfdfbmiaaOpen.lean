/- The laws' arguments read off the data: slices of ints, slices of slices of ints, slices of texts. -/
import Derived.Test.YtepkpllfdfbmiaaMe
import Derived.ProofKit
import Derived.OpenShut
import Derived.Carry
import Derived.Deep.Slices
import Derived.Deep.Matrix
import Derived.Deep.Strs
set_option linter.unusedSimpArgs false
set_option linter.unusedVariables false
namespace Go.Proofs.Ytepkpllfdfbmiaa
open Go.ChangeShapes Go.WideShapes Go.ChangeAt Go.RowKit Go.Deep

theorem try_own : ownKnob Try.prog.godebug = none := by kernel_rfl
theorem c23 : Try.prog.cellsOf 23 = 1 := by kernel_rfl
theorem c3 : Try.prog.cellsOf 3 = 1 := by kernel_rfl
theorem c9 : Try.prog.cellsOf 9 = 1 := by kernel_rfl
theorem byte_of {x : Int} (h : (Lit.int .u8 x).wf = true) : 0 ≤ x ∧ x ≤ 255 := by
  have h' : (decide ((0 : Int) ≤ x) && decide (x ≤ 255)) = true := h
  simpa using h'
theorem spot_none {W : World} {a : Addr} {v : Value} (h : W.cell? (a.add 0) = some v) : a.spot = none := by
  obtain ⟨b, off, spot⟩ := a
  cases spot with
  | none => rfl
  | some s => simp [Addr.add, World.cell?] at h; split at h <;> simp at h
theorem cell_lt {w : World} {g o : Nat} {v : Value} (h : w.cell? ⟨g, o, none⟩ = some v) : g < w.heap.size := by
  by_cases hh : g < w.heap.size
  · exact hh
  · simp only [World.cell?] at h
    rw [Array.getElem?_eq_none (by omega)] at h
    cases h

/-- A slice of ints, opened. -/
theorem open_row {H : Type} {enc : TypeId × Value → H} {W : World} {a0 : Option Addr} {len cap : Nat} {d : DataW H} {p : List MemPlace}
    (h : DataW.Trod enc Try.prog W 0 (fun _ => true) true 23 (.slice a0 len cap) d p) :
    ∃ l : List Int, len = l.length ∧ len ≤ 9223372036854775807 ∧ Arg W a0 l cap := by
  obtain ⟨fuel, hf⟩ := h
  rcases open_ints Try.underlying23 Try.underlying3 c3 hf with ⟨hcs, hx⟩ | ⟨a, len', cap', zs, hcs, _, hl, hm, hz, hx, hcell, hwz⟩
  · simp [Value.cells] at hcs
    obtain ⟨rfl, rfl, rfl⟩ := hcs
    exact ⟨[], rfl, by omega, Ints.nil _ _, fun y hy => (by simp at hy), fun _ => ⟨rfl, rfl⟩⟩
  · simp [Value.cells] at hcs
    obtain ⟨rfl, rfl, rfl⟩ := hcs
    simp only [if_true] at hz
    simp only [maxLen] at hm
    refine ⟨zs.take len, by simp; omega, by omega, ?_, fun y hy => hwz y (List.mem_of_mem_take hy), fun e => by cases e⟩
    intro k y hy
    have hk : k < len := by
      have := (List.getElem?_eq_some_iff.1 hy).1
      simp at this
      omega
    have hy' : zs[k]? = some y := by
      rw [← hy, List.getElem?_take_of_lt hk]
    have hsp : a.spot = none := spot_none (hcell 0 (by omega))
    obtain ⟨b, off, spot⟩ := a
    simp only at hsp
    subst hsp
    have hc := hcell k (by omega)
    rw [Addr.add_lit, List.getD_eq_getElem?_getD, hy'] at hc
    exact ⟨b, off, rfl, cell_lt hc, hc⟩

/-- The slice at A reads as the list of lists of ints. -/
def Rws (w : World) (A : Option Addr) (ls : List (List Int)) : Prop :=
  ∀ (k : Nat) (l : List Int), ls[k]? = some l → ∃ b off A' c, A = some ⟨b, off, none⟩ ∧ b < w.heap.size ∧ w.cell? ⟨b, off + k, none⟩ = some (.slice A' l.length c) ∧ Arg w A' l c
theorem Rws.turn' {w w' : World} {A : Option Addr} {ls : List (List Int)} (h : Rws w A ls) (t : Turn [] w w') : Rws w' A ls := fun k l hl => by
  obtain ⟨b, off, A', c, e, hlt, hc, hi⟩ := h k l hl
  exact ⟨b, off, A', c, e, Nat.lt_of_lt_of_le hlt t.size, (t.cell (p := ⟨b, off + k, none⟩) hlt (by simp)).trans hc, hi.turn' t⟩

/-- A slice of slices of ints, opened. -/
theorem open_rws {H : Type} {enc : TypeId × Value → H} {W : World} {a0 : Option Addr} {len cap : Nat} {d : DataW H} {p : List MemPlace}
    (h : DataW.Trod enc Try.prog W 0 (fun _ => true) true 22 (.slice a0 len cap) d p) :
    ∃ ls : List (List Int), len = ls.length ∧ len ≤ 9223372036854775807 ∧ Rws W a0 ls ∧ ∀ l ∈ ls, l.length ≤ 9223372036854775807 := by
  obtain ⟨fuel, hf⟩ := h
  rcases open_int_rows Try.underlying22 Try.underlying23 Try.underlying3 c23 c3 hf with ⟨hcs, hx⟩ | ⟨a, len', cap', A, L, C, Z, hcs, _, hl, hm, hx, hr⟩
  · simp [Value.cells] at hcs
    obtain ⟨rfl, rfl, rfl⟩ := hcs
    exact ⟨[], rfl, by omega, fun k q hq => by simp at hq, fun q hq => by simp at hq⟩
  · simp [Value.cells] at hcs
    obtain ⟨rfl, rfl, rfl⟩ := hcs
    simp only [maxLen] at hm
    have hspot : 0 < len → a.spot = none := fun h0 => spot_none (hr 0 (by omega)).1
    refine ⟨(List.range len).map (fun r => (Z r).take (L r)), by simp, by omega, ?_, ?_⟩
    · intro k l hl'
      rw [List.getElem?_map] at hl'
      have hk : k < len := by
        rcases Nat.lt_or_ge k len with h | h
        · exact h
        · rw [List.getElem?_eq_none (by simpa using h)] at hl'; cases hl'
      rw [List.getElem?_range hk] at hl'
      injection hl' with hl'
      subst hl'
      obtain ⟨hcell, hLC, hCm, hZ, hwz, hnone, hsome⟩ := hr k (by omega)
      have hsp := hspot (by omega)
      obtain ⟨b, off, spot⟩ := a
      simp only at hsp
      subst hsp
      rw [Addr.add_lit] at hcell
      have hlen : ((Z k).take (L k)).length = L k := by rw [List.length_take]; omega
      refine ⟨b, off, A k, C k, rfl, cell_lt hcell, by rw [hlen]; exact hcell, ?_, fun y hy => hwz y (List.mem_of_mem_take hy), fun e => by rw [hlen]; have := hnone e; omega⟩
      intro j y hy
      have hj : j < L k := by
        have := (List.getElem?_eq_some_iff.1 hy).1
        rw [hlen] at this
        exact this
      rw [List.getElem?_take_of_lt hj] at hy
      cases hA : A k with
      | none => have := hnone hA; omega
      | some a' =>
        obtain ⟨_, hcs⟩ := hsome a' hA
        have hs' : a'.spot = none := spot_none (hcs 0 (by omega))
        obtain ⟨b', off', spot'⟩ := a'
        simp only at hs'
        subst hs'
        have hc := hcs j (by omega)
        rw [Addr.add_lit, List.getD_eq_getElem?_getD, hy] at hc
        exact ⟨b', off', rfl, cell_lt hc, hc⟩
    · intro l hl'
      obtain ⟨i, hi, rfl⟩ := List.mem_map.1 hl'
      obtain ⟨_, hLC, hCm, hZ, _⟩ := hr i (by have := List.mem_range.1 hi; omega)
      simp only [maxLen] at hCm
      rw [List.length_take]
      omega

/-- The slice at A reads as the list of texts. -/
def Sts (w : World) (A : Option Addr) (l : List ByteArray) : Prop :=
  ∀ (k : Nat) (s : ByteArray), l[k]? = some s → ∃ b off, A = some ⟨b, off, none⟩ ∧ b < w.heap.size ∧ w.cell? ⟨b, off + k, none⟩ = some (.string s)
theorem Sts.turn' {w w' : World} {A : Option Addr} {l : List ByteArray} (h : Sts w A l) (t : Turn [] w w') : Sts w' A l := fun k s hs => by
  obtain ⟨b, off, e, hlt, hc⟩ := h k s hs
  exact ⟨b, off, e, Nat.lt_of_lt_of_le hlt t.size, (t.cell (p := ⟨b, off + k, none⟩) hlt (by simp)).trans hc⟩

/-- A slice of texts, opened. -/
theorem open_sts {H : Type} {enc : TypeId × Value → H} {W : World} {a0 : Option Addr} {len cap : Nat} {d : DataW H} {p : List MemPlace}
    (h : DataW.Trod enc Try.prog W 0 (fun _ => true) true 28 (.slice a0 len cap) d p) :
    ∃ l : List ByteArray, len = l.length ∧ len ≤ 9223372036854775807 ∧ Sts W a0 l ∧ ∀ s ∈ l, s.size ≤ maxLen := by
  obtain ⟨fuel, hf⟩ := h
  rcases open_strs Try.underlying28 Try.underlying9 c9 hf with ⟨hcs, hx⟩ | ⟨a, len', cap', m, Sx, hcs, _, hl, hm, hmm, hx, hr⟩
  · simp [Value.cells] at hcs
    obtain ⟨rfl, rfl, rfl⟩ := hcs
    exact ⟨[], rfl, by omega, fun k q hq => by simp at hq, fun q hq => by simp at hq⟩
  · simp [Value.cells] at hcs
    obtain ⟨rfl, rfl, rfl⟩ := hcs
    simp only [if_true] at hmm
    subst hmm
    have hm' := hm
    simp only [maxLen] at hm'
    refine ⟨(List.range len).map Sx, by simp, by omega, ?_, ?_⟩
    · intro k y hy
      rw [List.getElem?_map] at hy
      have hk : k < len := by
        rcases Nat.lt_or_ge k len with h | h
        · exact h
        · rw [List.getElem?_eq_none (by simpa using h)] at hy; cases hy
      rw [List.getElem?_range hk] at hy
      injection hy with hy
      subst hy
      have hsp : a.spot = none := spot_none (hr 0 (by omega)).1
      obtain ⟨b, off, spot⟩ := a
      simp only at hsp
      subst hsp
      have hc := (hr k (by omega)).1
      rw [Addr.add_lit] at hc
      exact ⟨b, off, rfl, cell_lt hc, hc⟩
    · intro s hs
      obtain ⟨i, hi, rfl⟩ := List.mem_map.1 hs
      exact (hr i (by have := List.mem_range.1 hi; omega)).2
end Go.Proofs.Ytepkpllfdfbmiaa
