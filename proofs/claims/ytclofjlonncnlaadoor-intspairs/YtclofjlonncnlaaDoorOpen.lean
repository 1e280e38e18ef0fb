/- What the laws' rows share: the listed table read off its condition, the two slices of ints read off the data, and the way from a run that changed nothing old to the row's answer. -/
import Derived.Test.YtclofjlonncnlaaDoorKit
import Derived.Test.YtclofjlonncnlaaDoorApp
import Derived.Test.YtclofjlonncnlaaDoorRows
import Derived.ProofKit
import Derived.LaidMore
import Derived.OpenShut
import Derived.Stop.Joined
import Derived.Carry
set_option linter.unusedSimpArgs false
set_option linter.unusedVariables false
namespace Go.Proofs.YtclofjlonncnlaaDoor
open Go.ChangeShapes Go.WideShapes Go.ChangeAt Go.RowKit

theorem door_own : ownKnob Tryd.prog.godebug = none := by kernel_rfl
theorem door_laidOut : laidOutB Tryd.prog = true := by kernel_rfl
def doorLaidList : List (String × DataW Unit) := Rows.intsNoneRow.laid
theorem door_g : Tryd.prog.globalNamed (Rows.intsNoneRow.named.headD default) = some 0 := by kernel_rfl
theorem door_t : (Tryd.prog.globals[0]?).map (·.type) = some 60 := by kernel_rfl

theorem door_met (os : Os) (args : Array Value) : laidMetH Tryd.prog doorLaidList ((World.doorLaid Tryd.prog 400 os).forCall (fun _ _ => 0) ⟨#[], args, []⟩).memory :=
  laidMetH_of_parts3 (fuel := 8) (laidMet_of_run' 8 (by kernel_rfl) (by kernel_rfl)) (by kernel_rfl) (by kernel_rfl)

theorem tab_entries : ∀ j, j < 64 → ∀ (d : DataW Unit) (n : Int), (match (Rows.laid_math_bits_deBruijn64tab : DataW Unit) with | .agg l => l[j]? | _ => none) = some d → d = .lit (.int .u8 n) → n = (Lib.deBruijn64tab.getD j 0 : Nat) := by
  intro j hj d n h1 h2
  subst h2
  have key : ∀ j : Fin 64, (match (Rows.laid_math_bits_deBruijn64tab : DataW Unit) with | .agg l => l[j.val]? | _ => none) = some (.lit (.int .u8 ((Lib.deBruijn64tab.getD j.val 0 : Nat) : Int))) := by
    intro j
    match j with
    | ⟨j, hj⟩ =>
      simp only
      iterate 64 (rcases j with _ | j; · rfl)
      omega
  have := (key ⟨j, hj⟩).symm.trans h1
  simp at this
  exact this.symm

theorem of_laid {W : World} (h : laidMetH Tryd.prog doorLaidList W) : Tab W := by
  rw [MakeChecks.laidMetH_plain _ _ _ (by kernel_rfl)] at h
  obtain ⟨ps, ⟨g, t, cs, fuel, p, q, hg, ht, hv, hd, _, _⟩, _, _⟩ := h
  obtain rfl := Option.some.inj (door_g.symm.trans hg)
  obtain rfl := Option.some.inj (door_t.symm.trans ht)
  have c5 : Tryd.prog.cellsOf 5 = 1 := by kernel_rfl
  obtain ⟨xs, m, _, ex, hlen, hl, hel⟩ := DataW.trod_array Tryd.underlying60 hd
  have ex1 := (Prod.mk.inj ex).1
  intro j hj
  have hj' : j < 64 := by simpa [Lib.deBruijn64tab] using hj
  have hxj : j < xs.length := by omega
  have h0 := hel j (by omega)
  rw [c5, List.getElem?_eq_getElem hxj] at h0
  obtain ⟨k, e1, e2, _⟩ := DataW.trod_int Tryd.underlying5 h0
  have hk := tab_entries j hj' (xs[j]).1 k (by rw [ex1]; simp [hxj]) (by rw [e2])
  have hc := World.var?_cell hg hv j
  rw [hc, ← Array.getElem?_toList]
  have : (cs.toList.drop (j * 1)).take 1 = [.int .u8 k] := e1
  have h2 : ((cs.toList.drop (j * 1)).take 1)[0]? = some (.int .u8 k) := by rw [this]; rfl
  rw [List.getElem?_take_of_lt (by omega), List.getElem?_drop] at h2
  rw [← hk]
  simpa using h2

/-- A slice of ints, opened: its length is bounded and it reads as a list. -/
theorem open_row {H : Type} {enc : TypeId × Value → H} {W : World} {a0 : Option Addr} {len cap : Nat} {d : DataW H} {p : List MemPlace}
    (h : DataW.Trod enc Tryd.prog W 0 (fun _ => true) true 22 (.slice a0 len cap) d p) (hlt : ∀ x ∈ p, x.block < W.heap.size) :
    ∃ l : List Int, len = l.length ∧ len ≤ 9223372036854775807 ∧ Ints W a0 l ∧ (∀ y ∈ l, (Lit.int .i64 y).wf = true) ∧ cap ≤ 9223372036854775807 ∧ len ≤ cap := by
  obtain ⟨fuel, hf⟩ := h
  rcases open_ints Tryd.underlying22 Tryd.underlying3 (by kernel_rfl) hf with ⟨hcs, hx⟩ | ⟨a, len', cap', zs, hcs, _, hl, hm, hz, hx, hcell, hwz⟩
  · simp [Value.cells] at hcs
    obtain ⟨rfl, rfl, rfl⟩ := hcs
    exact ⟨[], rfl, by omega, Ints.nil _ _, fun y hy => (by simp at hy), by omega, by omega⟩
  · simp [Value.cells] at hcs
    obtain ⟨rfl, rfl, rfl⟩ := hcs
    simp only [if_true] at hz
    have hp := (Prod.mk.inj hx).2
    simp only [maxLen] at hm
    refine ⟨zs.take len, by simp; omega, by omega, ?_, fun y hy => hwz y (List.mem_of_mem_take hy), by omega, hl⟩
    intro k y hy
    have hk : k < len := by
      have := (List.getElem?_eq_some_iff.1 hy).1
      simp at this
      omega
    have hy' : zs[k]? = some y := by
      rw [← hy, List.getElem?_take_of_lt hk]
    obtain ⟨b, off, spot⟩ := a
    have h0 := hcell 0 (by omega)
    obtain rfl : spot = none := by
      cases spot with
      | none => rfl
      | some s => simp [Addr.add, World.cell?] at h0; split at h0 <;> simp at h0
    refine ⟨b, off, rfl, ?_, ?_⟩
    · exact hlt (.cell b off) (by rw [hp]; exact MemPlace.mem_row.2 ⟨0, by omega, by simp⟩)
    · have := hcell k (by omega)
      have e : (Addr.add ⟨b, off, none⟩ k) = ⟨b, off + k, none⟩ := by
        by_cases hk0 : k = 0 <;> simp [Addr.add, hk0]
      rw [e] at this
      rw [this, List.getD_eq_getElem?_getD, hy']
      rfl
end Go.Proofs.YtclofjlonncnlaaDoor
