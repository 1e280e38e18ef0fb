import Derived.Test.YtnmhcgkccchacaaGreatDoorQ11Pmb

/- Lists as long as may be, one more: the plain parser at all ninety numbers of them, kind 1, part 1. -/
set_option linter.unusedSimpArgs false
set_option linter.unusedVariables false
set_option maxRecDepth 100000
namespace Go.Proofs.YtnmhcgkccchacaaGreatDoor
open Go.RowKit
theorem pm1_1 : ∀ k : Fin 45, pmOk 1 (45 + k.val) = true := by decide +kernel
end Go.Proofs.YtnmhcgkccchacaaGreatDoor
