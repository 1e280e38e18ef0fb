import Derived.Test.YtnmhcgkccchacaaGreatDoorQ09Whp
import Derived.ProofKit
import Derived.LaidMore
import Derived.OpenShut
import Derived.Stop.Joined
import Derived.Carry
import Derived.ChangeMaps5

/- What the laws' rows share: the listed tables read off their condition. -/
set_option linter.unusedSimpArgs false
set_option linter.unusedVariables false
set_option maxRecDepth 100000
namespace Go.Proofs.YtnmhcgkccchacaaGreatDoor
open Go.ChangeShapes Go.WideShapes Go.ChangeAt Go.RowKit

theorem door_own : ownKnob Tryz.prog.godebug = none := by kernel_rfl
theorem door_laidOut : laidOutB Tryz.prog = true := by kernel_rfl
def doorLaidList : List (String × DataW Unit) := Rows.parseManyRow.laid
theorem c9 : Tryz.prog.cellsOf 9 = 1 := by kernel_rfl
theorem c5 : Tryz.prog.cellsOf 5 = 1 := by kernel_rfl
theorem door_met (os : Os) (args : Array Value) : laidMetH Tryz.prog doorLaidList ((World.doorLaid Tryz.prog 400 os).forCall (fun _ _ => 0) ⟨#[], args, []⟩).memory :=
  laidMetH_of_parts3 (fuel := 8) (laidMet_of_run' 8 (by kernel_rfl) (by kernel_rfl)) (by kernel_rfl) (by kernel_rfl)

theorem sign_entries (j : Nat) (x l : List UInt8) (h : signsL[j]? = some x) (h1 : (match (Rows.laid_winnower_lex_signs : DataW Unit) with | .agg l => l[j]? | _ => none) = some (.lit (.string l))) : l = x := by
  iterate 14 (rcases j with _ | j; · (injection h with h; subst h; injection h1 with h1; injection h1 with h1; injection h1 with h1; exact h1.symm))
  simp [signsL] at h
theorem kw_entries (j : Nat) (x l : List UInt8) (h : kwL[j]? = some x) (h1 : (match (Rows.laid_winnower_lex_keywords : DataW Unit) with | .agg l => l[j]? | _ => none) = some (.lit (.string l))) : l = x := by
  iterate 22 (rcases j with _ | j; · (injection h with h; subst h; injection h1 with h1; injection h1 with h1; injection h1 with h1; exact h1.symm))
  simp [kwL] at h
theorem u8_of {x : Int} (h : (Lit.int .u8 x).wf = true) : 0 ≤ x ∧ x ≤ 255 := by
  have h' : (decide ((0 : Int) ≤ x) && decide (x ≤ 255)) = true := h
  simpa using h'
theorem glob_s : Tryz.prog.globalNamed (Rows.parseManyRow.named.getD 0 "") = some 0 := by kernel_rfl
theorem glob_k : Tryz.prog.globalNamed (Rows.parseManyRow.named.getD 1 "") = some 1 := by kernel_rfl
theorem glob_d : Tryz.prog.globalNamed (Rows.parseManyRow.named.getD 6 "") = some 7 := by kernel_rfl
theorem ty_s : (Tryz.prog.globals[0]?).map (·.type) = some 179 := by kernel_rfl
theorem ty_k : (Tryz.prog.globals[1]?).map (·.type) = some 184 := by kernel_rfl
theorem ty_d : (Tryz.prog.globals[7]?).map (·.type) = some 216 := by kernel_rfl

theorem of_laid {W : World} (h : laidMetH Tryz.prog doorLaidList W) : Sg W ∧ Kw W ∧ 7 < W.heap.size := by
  rw [MakeChecks.laidMetH_plain _ _ _ (by kernel_rfl)] at h
  obtain ⟨ps, ⟨_, _, _, _, _, _, _, _, _, _, ⟨gd, td, csd, fd, pd, qd, hgd, htd, hvd, hdd, ⟨_, _, _, _, _, _, _, _, _, _, ⟨_, _, _, _, _, _, _, _, _, _, ⟨_, _, _, _, _, _, _, _, _, _, ⟨gk, tk, csk, fk, pk, qk, hgk, htk, hvk, hdk, ⟨gs, ts, css, fs, psx, qs, hgs, hts, hvs, hds, _, _⟩, _⟩, _⟩, _⟩, _⟩, _⟩, _⟩, _, _⟩ := h
  obtain rfl := Option.some.inj (glob_s.symm.trans hgs)
  obtain rfl := Option.some.inj (ty_s.symm.trans hts)
  obtain rfl := Option.some.inj (glob_k.symm.trans hgk)
  obtain rfl := Option.some.inj (ty_k.symm.trans htk)
  obtain rfl := Option.some.inj (glob_d.symm.trans hgd)
  obtain rfl := Option.some.inj (ty_d.symm.trans htd)
  refine ⟨?_, ?_, ?_⟩
  · obtain ⟨xs, m, _, ex, hlen, hl, hel⟩ := DataW.trod_array Tryz.underlying179 hds
    have ex1 := (Prod.mk.inj ex).1
    have key : ∀ j x, signsL[j]? = some x → W.cell? ⟨0, j, none⟩ = some (.string ⟨x.toArray⟩) := by
      intro j x hx
      have hj : j < 14 := (List.getElem?_eq_some_iff.1 hx).1
      have hxj : j < xs.length := by omega
      have h0 := hel j (by omega)
      rw [c9, List.getElem?_eq_getElem hxj] at h0
      obtain ⟨s, e1, e2, _⟩ := DataW.trod_string Tryz.underlying9 h0
      have hk := sign_entries j x s.data.toList hx (by rw [ex1]; simp [hxj, e2])
      have hc := World.var?_cell hgs hvs j
      rw [hc, ← Array.getElem?_toList]
      have h2 : ((css.toList.drop (j * 1)).take 1)[0]? = some (.string s) := by rw [e1]; rfl
      rw [List.getElem?_take_of_lt (by omega), List.getElem?_drop] at h2
      rw [← hk, Lib.mk_data]
      simpa using h2
    exact ⟨cell_lt (key 0 _ rfl), key⟩
  · obtain ⟨xs, m, _, ex, hlen, hl, hel⟩ := DataW.trod_array Tryz.underlying184 hdk
    have ex1 := (Prod.mk.inj ex).1
    have key : ∀ j x, kwL[j]? = some x → W.cell? ⟨1, j, none⟩ = some (.string ⟨x.toArray⟩) := by
      intro j x hx
      have hj : j < 22 := (List.getElem?_eq_some_iff.1 hx).1
      have hxj : j < xs.length := by omega
      have h0 := hel j (by omega)
      rw [c9, List.getElem?_eq_getElem hxj] at h0
      obtain ⟨s, e1, e2, _⟩ := DataW.trod_string Tryz.underlying9 h0
      have hk := kw_entries j x s.data.toList hx (by rw [ex1]; simp [hxj, e2])
      have hc := World.var?_cell hgk hvk j
      rw [hc, ← Array.getElem?_toList]
      have h2 : ((csk.toList.drop (j * 1)).take 1)[0]? = some (.string s) := by rw [e1]; rfl
      rw [List.getElem?_take_of_lt (by omega), List.getElem?_drop] at h2
      rw [← hk, Lib.mk_data]
      simpa using h2
    exact ⟨cell_lt (key 0 _ rfl), key⟩
  · obtain ⟨xs, m, _, ex, hlen, hl, hel⟩ := DataW.trod_array Tryz.underlying216 hdd
    have hc := World.var?_cell hgd hvd 0
    have h0 : csd[0]? ≠ none := by
      rw [← Array.getElem?_toList]
      intro e
      rw [List.getElem?_eq_none_iff] at e
      rw [show Tryz.prog.cellsOf 216 = 64 by kernel_rfl] at hlen
      omega
    cases hx : csd[0]? with
    | none => exact absurd hx h0
    | some v => rw [hx] at hc; exact cell_lt hc
end Go.Proofs.YtnmhcgkccchacaaGreatDoor
