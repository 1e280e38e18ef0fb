/- The reference's one: rows of statements without blocks (printed by mkone.py). -/
import Derived.Test.YtoekaehpcjhhaaaGreatDoorDig
set_option linter.unusedSimpArgs false
set_option linter.unusedVariables false
namespace Go.Proofs.YtoekaehpcjhhaaaGreatDoor
open Go.RowKit

theorem add_run (a b : ByteArray) (h : a.size + b.size ≤ 9223372036854775807) : ∀ W : World, (Op.stringOp .add a b).run Tryz.prog W = .ok (.string (a ++ b)) W := fun W => run_string_add_sum (P := Tryz.prog) W a b h
theorem jn_sz (ag : List ByteArray) (ha : ag.length ≤ 1000 ∧ ∀ a ∈ ag, a.size ≤ 1000) : (jn ag ⟨#[44, 32]⟩).size ≤ 2000000 := by
  have := size_jn_le ag ⟨#[44, 32]⟩ 1000 2 ha.2 (by decide)
  have h3 : ag.length * (1000 + 2) ≤ 1000 * 1002 := Nat.mul_le_mul ha.1 (by omega)
  omega

end Go.Proofs.YtoekaehpcjhhaaaGreatDoor
