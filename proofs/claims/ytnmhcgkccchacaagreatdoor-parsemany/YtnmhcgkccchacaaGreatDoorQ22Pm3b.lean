import Derived.Test.YtnmhcgkccchacaaGreatDoorQ11Pmb

/- Lists as long as may be, one more: the plain parser at all ninety numbers of them, kind 3, part 1. -/
set_option linter.unusedSimpArgs false
set_option linter.unusedVariables false
set_option maxRecDepth 100000
namespace Go.Proofs.YtnmhcgkccchacaaGreatDoor
open Go.RowKit
theorem pm3_1 : ∀ k : Fin 30, pmOk 3 (30 + k.val) = true := by decide +kernel
end Go.Proofs.YtnmhcgkccchacaaGreatDoor
