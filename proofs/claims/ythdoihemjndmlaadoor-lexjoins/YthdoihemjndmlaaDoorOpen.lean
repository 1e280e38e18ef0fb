/- What the laws' rows share: the listed tables read off their condition. -/
import Derived.Test.YthdoihemjndmlaaDoorRe
import Derived.ProofKit
import Derived.LaidMore
import Derived.OpenShut
import Derived.Stop.Joined
import Derived.Carry
import Derived.ChangeMaps5
set_option linter.unusedSimpArgs false
set_option linter.unusedVariables false
namespace Go.Proofs.YthdoihemjndmlaaDoor
open Go.ChangeShapes Go.WideShapes Go.ChangeAt Go.RowKit

theorem door_own : ownKnob Tryd.prog.godebug = none := by kernel_rfl
theorem door_laidOut : laidOutB Tryd.prog = true := by kernel_rfl
def doorLaidList : List (String × DataW Unit) := Rows.lexLongRow.laid
theorem door_g : Tryd.prog.globalNamed (Rows.lexLongRow.named.headD default) = some 1 := by kernel_rfl
theorem door_t : (Tryd.prog.globals[1]?).map (·.type) = some 73 := by kernel_rfl
theorem c9 : Tryd.prog.cellsOf 9 = 1 := by kernel_rfl

theorem door_met (os : Os) (args : Array Value) : laidMetH Tryd.prog doorLaidList ((World.doorLaid Tryd.prog 400 os).forCall (fun _ _ => 0) ⟨#[], args, []⟩).memory :=
  laidMetH_of_parts3 (fuel := 8) (laidMet_of_run' 8 (by kernel_rfl) (by kernel_rfl)) (by kernel_rfl) (by kernel_rfl)

theorem sign_entries (j : Nat) (x l : List UInt8) (h : signsL[j]? = some x) (h1 : (match (Rows.laid_winnower_lex_signs : DataW Unit) with | .agg l => l[j]? | _ => none) = some (.lit (.string l))) : l = x := by
  iterate 14 (rcases j with _ | j; · (injection h with h; subst h; injection h1 with h1; injection h1 with h1; injection h1 with h1; exact h1.symm))
  simp [signsL] at h

theorem i64_of {x : Int} (h : (Lit.int .i64 x).wf = true) : -9223372036854775808 ≤ x ∧ x ≤ 9223372036854775807 := by
  have h' : (decide ((-9223372036854775808 : Int) ≤ x) && decide (x ≤ 9223372036854775807)) = true := h
  simpa using h'
theorem u8_of {x : Int} (h : (Lit.int .u8 x).wf = true) : 0 ≤ x ∧ x ≤ 255 := by
  have h' : (decide ((0 : Int) ≤ x) && decide (x ≤ 255)) = true := h
  simpa using h'

theorem cell_lt {w : World} {g o : Nat} {v : Value} (h : w.cell? ⟨g, o, none⟩ = some v) : g < w.heap.size := by
  simp only [World.cell?] at h
  by_cases hg : g < w.heap.size
  · exact hg
  · rw [Array.getElem?_eq_none (by omega)] at h
    simp at h

theorem of_laid {W : World} (h : laidMetH Tryd.prog doorLaidList W) : Sg W := by
  rw [MakeChecks.laidMetH_plain _ _ _ (by kernel_rfl)] at h
  obtain ⟨ps, ⟨g, t, cs, fuel, p, q, hg, ht, hv, hd, _, _⟩, _, _⟩ := h
  obtain rfl := Option.some.inj (door_g.symm.trans hg)
  obtain rfl := Option.some.inj (door_t.symm.trans ht)
  obtain ⟨xs, m, _, ex, hlen, hl, hel⟩ := DataW.trod_array Tryd.underlying73 hd
  have ex1 := (Prod.mk.inj ex).1
  have key : ∀ j x, signsL[j]? = some x → W.cell? ⟨1, j, none⟩ = some (.string ⟨x.toArray⟩) := by
    intro j x hx
    have hj : j < 14 := (List.getElem?_eq_some_iff.1 hx).1
    have hxj : j < xs.length := by omega
    have h0 := hel j (by omega)
    rw [c9, List.getElem?_eq_getElem hxj] at h0
    obtain ⟨s, e1, e2, _⟩ := DataW.trod_string Tryd.underlying9 h0
    have hk := sign_entries j x s.data.toList hx (by rw [ex1]; simp [hxj, e2])
    have hc := World.var?_cell hg hv j
    rw [hc, ← Array.getElem?_toList]
    have h2 : ((cs.toList.drop (j * 1)).take 1)[0]? = some (.string s) := by rw [e1]; rfl
    rw [List.getElem?_take_of_lt (by omega), List.getElem?_drop] at h2
    rw [← hk, Lib.mk_data]
    simpa using h2
  exact ⟨cell_lt (key 0 _ rfl), key⟩
end Go.Proofs.YthdoihemjndmlaaDoor
