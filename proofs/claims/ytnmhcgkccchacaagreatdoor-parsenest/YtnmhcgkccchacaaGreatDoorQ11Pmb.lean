import Derived.Test.YtnmhcgkccchacaaGreatDoorQ09Whp

/- The texts of lists, and what the parser must tell of them. -/
set_option linter.unusedSimpArgs false
set_option linter.unusedVariables false
set_option maxRecDepth 100000
namespace Go.Proofs.YtnmhcgkccchacaaGreatDoor
open Go.RowKit
def pmH (j : Nat) : List UInt8 := match j with | 0 => [109, 97, 105, 110, 32, 123, 10] | 1 => [109, 97, 105, 110, 32, 123, 10] | 2 => [] | 3 => [99, 108, 97, 115, 115, 32, 65, 32, 123, 10] | _ => [99, 108, 97, 115, 115, 32, 65, 32, 123, 10]
def pmO (j : Nat) : List UInt8 := match j with | 0 => [120, 32, 61, 32, 121, 59, 10] | 1 => [118, 97, 114, 32, 65, 32, 120, 59, 10] | 2 => [99, 108, 97, 115, 115, 32, 65, 32, 123, 32, 125, 10] | 3 => [115, 116, 97, 116, 105, 99, 32, 109, 101, 116, 104, 111, 100, 32, 105, 110, 116, 32, 102, 40, 41, 32, 123, 32, 125, 10] | _ => [115, 116, 97, 116, 105, 99, 32, 105, 110, 116, 32, 102, 59, 10]
def pmT (j : Nat) : List UInt8 := match j with | 0 => [125] | 1 => [125] | 2 => [109, 97, 105, 110, 32, 123, 32, 125] | 3 => [125, 32, 109, 97, 105, 110, 32, 123, 32, 125] | _ => [125, 32, 109, 97, 105, 110, 32, 123, 32, 125]
def pmMost (j : Nat) : Nat := match j with | 2 => 60 | _ => 40
def pmLine (j : Nat) : Nat := match j with | 2 => 61 | _ => 42
def repT : Nat → List UInt8 → List UInt8
  | 0, _ => []
  | n + 1, l => l ++ repT n l
def pmText (j k : Nat) : List UInt8 := pmH j ++ repT k (pmO j) ++ pmT j
def pmOk (j k : Nat) : Bool :=
  let r := pfR (pmText j k)
  if k ≤ pmMost j then decide (r.1 = 0) else decide (r.1 = 13) && decide (r.2.1 = pmLine j) && decide (r.2.2.1 = 1)
end Go.Proofs.YtnmhcgkccchacaaGreatDoor
