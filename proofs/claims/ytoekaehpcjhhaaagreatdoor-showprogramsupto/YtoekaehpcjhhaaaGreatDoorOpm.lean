/- What the laws' rows share: the listed tables read off their condition. -/
import Derived.Test.YtoekaehpcjhhaaaGreatDoorOpd
import Derived.Test.YtoekaehpcjhhaaaGreatDoorNst
import Derived.LaidMore
import Derived.Stop.Joined
import Derived.ChangeMaps5
import Derived.Lib.LaidTab
set_option linter.unusedSimpArgs false
set_option linter.unusedVariables false
namespace Go.Proofs.YtoekaehpcjhhaaaGreatDoor
open Go.ChangeShapes Go.WideShapes Go.ChangeAt Go.RowKit

theorem door_own : ownKnob Tryz.prog.godebug = none := by kernel_rfl
theorem door_laidOut : laidOutB Tryz.prog = true := by kernel_rfl
def laidA : List (String × DataW Unit) := Rows.showProgramsRow.laid
theorem pow_ty : (Tryz.prog.globals[3]?).map (·.type) = some 147 := by kernel_rfl
theorem c_u64 : Tryz.prog.cellsOf 115 = 1 := by kernel_rfl
theorem c_pow : Tryz.prog.cellsOf 147 = 20 := by kernel_rfl
theorem pow_data : (Rows.laid_internal_strconv_uint64pow10 : DataW Unit) = Lib.tabData .u64 Lib.pow10Tab := by kernel_rfl

theorem pow_of {W : World} {fuel : Nat} {cs : Array Value} {p : List MemPlace} {enc : TypeId × Value → Unit} {sp : Nat → Bool} {held : Bool} (hv : W.var? Tryz.prog (Rows.showProgramsRow.named.headD default) = some cs)
    (hd : DataW.trod enc Tryz.prog W 0 sp held fuel 147 cs.toList = some (Rows.laid_internal_strconv_uint64pow10, p)) : Pow W ∧ 3 < W.heap.size := by
  rw [pow_data] at hd
  have h1 := Lib.cells_of_tab Tryz.underlying147 Tryz.underlying115 c_u64 c_pow hd
  have hp : Pow W := by
    unfold Pow Lib.TabIs
    rw [hv, ← h1]
  refine ⟨hp, ?_⟩
  have hc := Lib.TabIs.cell hp pow_g 0 (by decide)
  exact cell_lt hc

theorem of_laidA {W : World} (h : laidMetH Tryz.prog laidA W) : Pow W ∧ 3 < W.heap.size := by
  rw [MakeChecks.laidMetH_plain _ _ _ (by kernel_rfl)] at h
  obtain ⟨ps, ⟨g0, t0, cs0, fuel0, p0, q0, hg0, ht0, hv0, hd0, ⟨g1, t1, cs1, fuel1, p1, q1, hg1, ht1, hv1, hd1, ⟨g, t, cs, fuel, p, q, hg, ht, hv, hd, _, _⟩, _⟩, _⟩, _, _⟩ := h
  obtain rfl := Option.some.inj (pow_g.symm.trans hg)
  obtain rfl := Option.some.inj (pow_ty.symm.trans ht)
  exact pow_of hv hd
end Go.Proofs.YtoekaehpcjhhaaaGreatDoor
