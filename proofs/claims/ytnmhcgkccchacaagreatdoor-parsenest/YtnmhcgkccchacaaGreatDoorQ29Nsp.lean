import Derived.Test.YtnmhcgkccchacaaGreatDoorQ12Pmx

/- Blocks in blocks: the texts, and what the plain parser tells of them. -/
set_option linter.unusedSimpArgs false
set_option linter.unusedVariables false
set_option maxRecDepth 100000
namespace Go.Proofs.YtnmhcgkccchacaaGreatDoor
open Go.RowKit

def nsO : List UInt8 := [105, 102, 32, 40, 97, 32, 60, 32, 98, 41, 32, 123]
def nsM : List UInt8 := [120, 32, 61, 32, 121, 59]
def nsText (k : Nat) : List UInt8 := repT k nsO ++ nsM ++ repT k [125]
/-- A choice in a choice .., k deep, with x = y in the last one. -/
def chB : Nat → St → Bool
  | 0, .mk d x y z t f ag n bd ot _ _ => decide (d = 3) && decide (x.data.toList = [120]) && decide (y.data.toList = [121]) && decide (z.data.toList = []) && decide (t.data.toList = []) && decide (f.data.toList = []) && ag.isEmpty && decide (n = 0) && bd.isEmpty && ot.isEmpty
  | k + 1, .mk d x y z t f ag n bd ot _ _ => decide (d = 20) && decide (x.data.toList = []) && decide (y.data.toList = [97]) && decide (z.data.toList = [98]) && decide (t.data.toList = []) && decide (f.data.toList = []) && ag.isEmpty && decide (n = 0) && ot.isEmpty &&
      (match bd with | [s] => chB k s | _ => false)
def nsR (T : List UInt8) : (Nat × Nat × Nat) × St :=
  let a := rs0 (tokR T)
  let r := stmtN a.1 10 a.2
  let f := finish a.1 r.2
  ((f.e, f.fl, f.fc), r.1)
def nsOk (k : Nat) : Bool :=
  let r := nsR (nsText k)
  if k ≤ 8 then decide (r.1.1 = 0) && chB k r.2 else decide (r.1.1 = 13) && decide (r.1.2.1 = 1) && decide (r.1.2.2 = 108)
theorem ns_all : ∀ k : Fin 14, nsOk k.val = true := by decide +kernel
theorem ns_at (k : Nat) (h : k < 14) : nsOk k = true := ns_all ⟨k, h⟩
theorem repT_snoc' (q : Nat) (l : List UInt8) : mk (repT q l) ++ mk l = mk (repT (q + 1) l) := by rw [mk_app, repT_snoc]
end Go.Proofs.YtnmhcgkccchacaaGreatDoor
