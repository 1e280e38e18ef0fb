/- The laws' arguments read off the data: slices of pairs of bytes, of ints, of slices of ints. -/
import Derived.Test.YtjgabnphafkgoaaLTwo
import Derived.Test.YtjgabnphafkgoaaRows
import Derived.ProofKit
import Derived.OpenShut
import Derived.Carry
import Derived.Deep.Slices
import Derived.Deep.Matrix
set_option linter.unusedSimpArgs false
set_option linter.unusedVariables false
namespace Go.Proofs.Ytjgabnphafkgoaa
open Go.ChangeShapes Go.WideShapes Go.ChangeAt Go.RowKit Go.Deep

theorem try_own : ownKnob Try.prog.godebug = none := by kernel_rfl
theorem try_laidOut : laidOutB Try.prog = true := by kernel_rfl
theorem c40 : Try.prog.cellsOf 40 = 2 := by kernel_rfl
theorem c5 : Try.prog.cellsOf 5 = 1 := by kernel_rfl
theorem c23 : Try.prog.cellsOf 23 = 1 := by kernel_rfl
theorem c3 : Try.prog.cellsOf 3 = 1 := by kernel_rfl
theorem byte_of {x : Int} (h : (Lit.int .u8 x).wf = true) : 0 ≤ x ∧ x ≤ 255 := by
  have h' : (decide ((0 : Int) ≤ x) && decide (x ≤ 255)) = true := h
  simpa using h'

theorem spot_none {W : World} {a : Addr} {v : Value} (h : W.cell? (a.add 0) = some v) : a.spot = none := by
  obtain ⟨b, off, spot⟩ := a
  cases spot with
  | none => rfl
  | some s => simp [Addr.add, World.cell?] at h; split at h <;> simp at h

/-- A slice of pairs of bytes, opened. -/
theorem open_prs {H : Type} {enc : TypeId × Value → H} {W : World} {a0 : Option Addr} {len cap : Nat} {d : DataW H} {p : List MemPlace}
    (h : DataW.Trod enc Try.prog W 0 (fun _ => true) true 39 (.slice a0 len cap) d p) (hlt : ∀ x ∈ p, x.block < W.heap.size) :
    ∃ l : List (Nat × Nat), len = l.length ∧ len ≤ 9223372036854775807 ∧ Prs W a0 l ∧ ∀ q ∈ l, q.1 ≤ 255 ∧ q.2 ≤ 255 := by
  obtain ⟨fuel, hf⟩ := h
  rcases open_slice Try.underlying39 hf with ⟨hcs, hx⟩ | ⟨a, len', cap', m, n, D, Pl, hcs, _, hl, hm, hmm, hx, hi⟩
  · simp [Value.cells] at hcs
    obtain ⟨rfl, rfl, rfl⟩ := hcs
    exact ⟨[], rfl, by omega, fun k q hq => by simp at hq, fun q hq => by simp at hq⟩
  · simp [Value.cells] at hcs
    obtain ⟨rfl, rfl, rfl⟩ := hcs
    simp only [if_true] at hmm
    subst hmm
    simp only [maxLen] at hm
    have each : ∀ i, i < m → ∃ q : Nat × Nat, q.1 ≤ 255 ∧ q.2 ≤ 255 ∧ W.cell? (a.add (i * 2)) = some (.int .u8 (q.1 : Int)) ∧ W.cell? (a.add (i * 2 + 1)) = some (.int .u8 (q.2 : Int)) := by
      intro i hii
      obtain ⟨cs', hc, ht⟩ := hi i hii
      rw [c40] at hc
      obtain ⟨_, hcl, hat⟩ := World.cells?_some hc
      obtain ⟨xs, m', _, _, _, hxl, hel⟩ := DataW.trod_array Try.underlying40 ht
      have e0 := hel 0 (by omega)
      have e1 := hel 1 (by omega)
      rw [c5, List.getElem?_eq_getElem (by omega)] at e0 e1
      obtain ⟨k0, f0, _, g0⟩ := DataW.trod_int Try.underlying5 e0
      obtain ⟨k1, f1, _, g1⟩ := DataW.trod_int Try.underlying5 e1
      have b0 := byte_of g0
      have b1 := byte_of g1
      match cs', hcl with
      | [v0, v1], _ =>
        simp at f0 f1
        subst f0; subst f1
        have h0 := hat 0 (by omega)
        have h1 := hat 1 (by omega)
        rw [Go.Deep.add_add, Nat.add_zero] at h0
        rw [Go.Deep.add_add] at h1
        refine ⟨(k0.toNat, k1.toNat), by simp; omega, by simp; omega, ?_, ?_⟩
        · rw [h0]; simp; omega
        · rw [h1]; simp; omega
    obtain ⟨f, hf'⟩ := choose_lt each
    refine ⟨(List.range len).map f, by simp, by omega, ?_, ?_⟩
    · intro k q hq
      rw [List.getElem?_map] at hq
      have hk : k < len := by
        rcases Nat.lt_or_ge k len with h | h
        · exact h
        · rw [List.getElem?_eq_none (by simpa using h)] at hq; cases hq
      rw [List.getElem?_range hk] at hq
      injection hq with hq
      subst hq
      obtain ⟨_, _, h1, h2⟩ := hf' k (by omega)
      have hsp : a.spot = none := by
        obtain ⟨_, _, h0, _⟩ := hf' 0 (by omega)
        rw [Nat.zero_mul] at h0
        exact spot_none h0
      obtain ⟨b, off, spot⟩ := a
      simp only at hsp
      subst hsp
      rw [Addr.add_lit] at h1 h2
      refine ⟨b, off, rfl, ?_, h1, by rw [Nat.add_assoc]; exact h2⟩
      have hp := (Prod.mk.inj hx).2
      exact hlt (.cell b off) (by rw [hp]; exact List.mem_append_left _ (MemPlace.mem_row.2 ⟨0, by rw [c40]; omega, by simp⟩))
    · intro q hq
      obtain ⟨i, hi', rfl⟩ := List.mem_map.1 hq
      obtain ⟨h1, h2, _⟩ := hf' i (by have := List.mem_range.1 hi'; omega)
      exact ⟨h1, h2⟩
end Go.Proofs.Ytjgabnphafkgoaa
