/- Both listed tables read off their condition. -/
import Derived.Test.YthdoihemjndmlaaDoorOpen
import Derived.Test.YthdoihemjndmlaaDoorKw
set_option linter.unusedSimpArgs false
set_option linter.unusedVariables false
namespace Go.Proofs.YthdoihemjndmlaaDoor
open Go.ChangeShapes Go.WideShapes Go.ChangeAt Go.RowKit

def doorLaidList2 : List (String × DataW Unit) := Rows.lexNamesRow.laid
theorem door_met2 (os : Os) (args : Array Value) : laidMetH Tryd.prog doorLaidList2 ((World.doorLaid Tryd.prog 400 os).forCall (fun _ _ => 0) ⟨#[], args, []⟩).memory :=
  laidMetH_of_parts3 (fuel := 8) (laidMet_of_run' 8 (by kernel_rfl) (by kernel_rfl)) (by kernel_rfl) (by kernel_rfl)

theorem door2_g0 : Tryd.prog.globalNamed (Rows.lexNamesRow.named.getD 1 default) = some 0 := by kernel_rfl
theorem door2_t0 : (Tryd.prog.globals[0]?).map (·.type) = some 51 := by kernel_rfl
theorem door2_g1 : Tryd.prog.globalNamed (Rows.lexNamesRow.named.getD 0 default) = some 1 := by kernel_rfl

theorem kw_entries (j : Nat) (x l : List UInt8) (h : kwL[j]? = some x) (h1 : (match (Rows.laid_winnower_lex_keywords : DataW Unit) with | .agg l => l[j]? | _ => none) = some (.lit (.string l))) : l = x := by
  iterate 22 (rcases j with _ | j; · (injection h with h; subst h; injection h1 with h1; injection h1 with h1; injection h1 with h1; exact h1.symm))
  simp [kwL] at h

theorem of_laid2 {W : World} (h : laidMetH Tryd.prog doorLaidList2 W) : Sg W ∧ Kw W := by
  rw [MakeChecks.laidMetH_plain _ _ _ (by kernel_rfl)] at h
  obtain ⟨ps, ⟨g0, t0, cs0, fuel0, p0, q0, hg0, ht0, hv0, hd0, ⟨g, t, cs, fuel, p, q, hg, ht, hv, hd, _, _⟩, _⟩, _, _⟩ := h
  obtain rfl := Option.some.inj (door2_g0.symm.trans hg0)
  obtain rfl := Option.some.inj (door2_t0.symm.trans ht0)
  obtain rfl := Option.some.inj (door2_g1.symm.trans hg)
  obtain rfl := Option.some.inj (door_t.symm.trans ht)
  constructor
  · obtain ⟨xs, m, _, ex, hlen, hl, hel⟩ := DataW.trod_array Tryd.underlying73 hd
    have ex1 := (Prod.mk.inj ex).1
    have key : ∀ j x, signsL[j]? = some x → W.cell? ⟨1, j, none⟩ = some (.string ⟨x.toArray⟩) := by
      intro j x hx
      have hj : j < 14 := (List.getElem?_eq_some_iff.1 hx).1
      have hxj : j < xs.length := by omega
      have h0 := hel j (by omega)
      rw [c9, List.getElem?_eq_getElem hxj] at h0
      obtain ⟨s, e1, e2, _⟩ := DataW.trod_string Tryd.underlying9 h0
      have hk := sign_entries j x s.data.toList hx (by rw [ex1]; simp [hxj, e2])
      have hc := World.var?_cell hg hv j
      rw [hc, ← Array.getElem?_toList]
      have h2 : ((cs.toList.drop (j * 1)).take 1)[0]? = some (.string s) := by rw [e1]; rfl
      rw [List.getElem?_take_of_lt (by omega), List.getElem?_drop] at h2
      rw [← hk, Lib.mk_data]
      simpa using h2
    exact ⟨cell_lt (key 0 _ rfl), key⟩
  · obtain ⟨xs, m, _, ex, hlen, hl, hel⟩ := DataW.trod_array Tryd.underlying51 hd0
    have ex1 := (Prod.mk.inj ex).1
    have key : ∀ j x, kwL[j]? = some x → W.cell? ⟨0, j, none⟩ = some (.string ⟨x.toArray⟩) := by
      intro j x hx
      have hj : j < 22 := (List.getElem?_eq_some_iff.1 hx).1
      have hxj : j < xs.length := by omega
      have h0 := hel j (by omega)
      rw [c9, List.getElem?_eq_getElem hxj] at h0
      obtain ⟨s, e1, e2, _⟩ := DataW.trod_string Tryd.underlying9 h0
      have hk := kw_entries j x s.data.toList hx (by rw [ex1]; simp [hxj, e2])
      have hc := World.var?_cell hg0 hv0 j
      rw [hc, ← Array.getElem?_toList]
      have h2 : ((cs0.toList.drop (j * 1)).take 1)[0]? = some (.string s) := by rw [e1]; rfl
      rw [List.getElem?_take_of_lt (by omega), List.getElem?_drop] at h2
      rw [← hk, Lib.mk_data]
      simpa using h2
    exact ⟨cell_lt (key 0 _ rfl), key⟩
end Go.Proofs.YthdoihemjndmlaaDoor
