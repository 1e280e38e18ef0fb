/-
  No cell of these rows narrows 'for every input' (looked for: loops, veiled, ifaces, maps, wideKeys, modest, calm, conditions, laid).
  DERIVED. THE GIVEN ROWS OF THIS SEAT. 4 by the template 'for every input the law returns true; each argument reads behind the call as it read before'; 0 by the template 'total and deterministic' (their statements: YtjgabnphafkgoaaTotals.lean).
  GIVEN WITH THE SEED: the statements are not yours to turn. If you find one false, say at which input.
  Laid BY PROGRAM, IN A SANDBOX (cutbox-rows.mjs): the forced cells as the released guide's own fill.sh prints them over the translation 83726598641992a8… (all of the seat's roots in one cut). By AI agents, Wed Nov 11 2026. No macro, syntax, notation, axiom, sorry.
-/
import Derived.Test.YtjgabnphafkgoaaChecked
import GoSem.Claim
import GoSem.ClaimJoined
import GoSem.ClaimMapViews
import Derived.JoinedTies
import Derived.KernelRfl
namespace Go.Proofs.Ytjgabnphafkgoaa
/- THE CELL 'sum', in the pinned program and in every row, IS THE sha256 OF THE DUMP (.gsa) THAT YtjgabnphafkgoaaProg.lean LOADS. Nothing in Lean hashes anything: it is a label: what it is worth is what the hold of that sum in a sandbox is worth. -/
noncomputable def Try.pinned : Pinned := { name := "ytjgabnphafkgoaa", sum := "83726598641992a83a0b2edf83ad96c9d22be3a0e8fbfbcc5a6b74ad959a4715", checked := Try.checked }
namespace Rows
def none {H : Type} : Left H := { results := [], args := [] }

/-- 'winnowerlaw02.UnionJoins': WHATEVER THE INPUT: true; the input reads as it did. -/
def unionJoinsSpec : ChangeSpec := { name := "unionJoins", fn := fun _ => fun
  | [d1, d2, d3] => { results := [.lit (.bool true)], args := [d1, d2, d3] }
  | _ => none }
def unionJoinsRow : OpenClaim := { program := "ytjgabnphafkgoaa", sum := "83726598641992a83a0b2edf83ad96c9d22be3a0e8fbfbcc5a6b74ad959a4715", func := "winnower/winnowerlaw02.UnionJoins", spec := "unionJoins", apart := false }
def UnionJoinsSaid : Prop := unionJoinsRow.holds Try.pinned (OpenSpec.ofChange unionJoinsSpec)

/-- ITS FALSE NEIGHBOUR: 'it returns false'. Refute it at one input. -/
def unionJoinsWrong : ChangeSpec := { name := "unionJoins", fn := fun _ => fun
  | [d1, d2, d3] => { results := [.lit (.bool false)], args := [d1, d2, d3] }
  | _ => none }
def UnionJoinsWrongFalsely : Prop := unionJoinsRow.holds Try.pinned (OpenSpec.ofChange unionJoinsWrong)

/-- 'winnowerlaw02.UnionOrder': WHATEVER THE INPUT: true; the input reads as it did. -/
def unionOrderSpec : ChangeSpec := { name := "unionOrder", fn := fun _ => fun
  | [d1, d2] => { results := [.lit (.bool true)], args := [d1, d2] }
  | _ => none }
def unionOrderRow : OpenClaim := { program := "ytjgabnphafkgoaa", sum := "83726598641992a83a0b2edf83ad96c9d22be3a0e8fbfbcc5a6b74ad959a4715", func := "winnower/winnowerlaw02.UnionOrder", spec := "unionOrder", apart := false }
def UnionOrderSaid : Prop := unionOrderRow.holds Try.pinned (OpenSpec.ofChange unionOrderSpec)

/-- ITS FALSE NEIGHBOUR: 'it returns false'. Refute it at one input. -/
def unionOrderWrong : ChangeSpec := { name := "unionOrder", fn := fun _ => fun
  | [d1, d2] => { results := [.lit (.bool false)], args := [d1, d2] }
  | _ => none }
def UnionOrderWrongFalsely : Prop := unionOrderRow.holds Try.pinned (OpenSpec.ofChange unionOrderWrong)

/-- 'winnowerlaw02.UnionAll': WHATEVER THE INPUT: true; the input reads as it did. -/
def unionAllSpec : ChangeSpec := { name := "unionAll", fn := fun _ => fun
  | [d] => { results := [.lit (.bool true)], args := [d] }
  | _ => none }
def unionAllRow : OpenClaim := { program := "ytjgabnphafkgoaa", sum := "83726598641992a83a0b2edf83ad96c9d22be3a0e8fbfbcc5a6b74ad959a4715", func := "winnower/winnowerlaw02.UnionAll", spec := "unionAll", apart := false }
def UnionAllSaid : Prop := unionAllRow.holds Try.pinned (OpenSpec.ofChange unionAllSpec)

/-- ITS FALSE NEIGHBOUR: 'it returns false'. Refute it at one input. -/
def unionAllWrong : ChangeSpec := { name := "unionAll", fn := fun _ => fun
  | [d] => { results := [.lit (.bool false)], args := [d] }
  | _ => none }
def UnionAllWrongFalsely : Prop := unionAllRow.holds Try.pinned (OpenSpec.ofChange unionAllWrong)

/-- 'winnowerlaw02.UnionTwo': WHATEVER THE INPUT: true; the input reads as it did. -/
def unionTwoSpec : ChangeSpec := { name := "unionTwo", fn := fun _ => fun
  | [d1, d2] => { results := [.lit (.bool true)], args := [d1, d2] }
  | _ => none }
def unionTwoRow : OpenClaim := { program := "ytjgabnphafkgoaa", sum := "83726598641992a83a0b2edf83ad96c9d22be3a0e8fbfbcc5a6b74ad959a4715", func := "winnower/winnowerlaw02.UnionTwo", spec := "unionTwo", apart := false }
def UnionTwoSaid : Prop := unionTwoRow.holds Try.pinned (OpenSpec.ofChange unionTwoSpec)

/-- ITS FALSE NEIGHBOUR: 'it returns false'. Refute it at one input. -/
def unionTwoWrong : ChangeSpec := { name := "unionTwo", fn := fun _ => fun
  | [d1, d2] => { results := [.lit (.bool false)], args := [d1, d2] }
  | _ => none }
def UnionTwoWrongFalsely : Prop := unionTwoRow.holds Try.pinned (OpenSpec.ofChange unionTwoWrong)

/- THE SECOND FORM. 'bulk': how many values and letters a reading holds, each counted each time it is reached (what is shared counts as often as it is met; a slice's spare places count too). A statement '..UptoSaid' is the law's where the arguments, and the package variables that the reading takes, are together of bulk at most 1048576: NARROWER than '..Said'. Prove '..Said' where nothing that the law and all that it calls make is longer than what came in: it says more and counts as full. Else prove '..UptoSaid'. A law counts once. -/
mutual
def uptoBulk {H : Type} : DataW H → Nat
  | .lit (.string bytes) => bytes.length + 1
  | .lit _ => 1
  | .nil => 1
  | .ptr d => uptoBulk d + 1
  | .slice elems spare => uptoBulkAll elems + uptoBulkAll spare + 1
  | .agg parts => uptoBulkAll parts + 1
  | .iface _ d => uptoBulk d + 1
  | .map entries => uptoBulkEntries entries + 1
  | .held _ => 1
def uptoBulkAll {H : Type} : List (DataW H) → Nat
  | [] => 0
  | d :: r => uptoBulk d + uptoBulkAll r
def uptoBulkEntries {H : Type} : List (Lit × DataW H) → Nat
  | [] => 0
  | x :: r => uptoBulkEntry x + uptoBulkEntries r
def uptoBulkEntry {H : Type} : Lit × DataW H → Nat
  | (.string bytes, d) => bytes.length + uptoBulk d + 1
  | (_, d) => uptoBulk d + 1
 end
def uptoSmall : (H : Type) → List (DataW H) → Bool := fun _ ds => decide (uptoBulkAll ds ≤ 1048576)
def OpenSpec.upto (s : _root_.Go.ChangeSpec) : _root_.Go.OpenSpec := { _root_.Go.OpenSpec.ofChange s with cond := some uptoSmall }

/-- 'winnowerlaw02.UnionJoins', WHERE WHAT IT READS IS OF BULK AT MOST 1048576: true; the input reads as it did. -/
def unionJoinsUptoRow : OpenClaim := { program := "ytjgabnphafkgoaa", sum := "83726598641992a83a0b2edf83ad96c9d22be3a0e8fbfbcc5a6b74ad959a4715", func := "winnower/winnowerlaw02.UnionJoins", spec := "unionJoins", apart := false, narrowed := true }
def UnionJoinsUptoSaid : Prop := unionJoinsUptoRow.holds Try.pinned (OpenSpec.upto unionJoinsSpec)

/-- 'winnowerlaw02.UnionOrder', WHERE WHAT IT READS IS OF BULK AT MOST 1048576: true; the input reads as it did. -/
def unionOrderUptoRow : OpenClaim := { program := "ytjgabnphafkgoaa", sum := "83726598641992a83a0b2edf83ad96c9d22be3a0e8fbfbcc5a6b74ad959a4715", func := "winnower/winnowerlaw02.UnionOrder", spec := "unionOrder", apart := false, narrowed := true }
def UnionOrderUptoSaid : Prop := unionOrderUptoRow.holds Try.pinned (OpenSpec.upto unionOrderSpec)

/-- 'winnowerlaw02.UnionAll', WHERE WHAT IT READS IS OF BULK AT MOST 1048576: true; the input reads as it did. -/
def unionAllUptoRow : OpenClaim := { program := "ytjgabnphafkgoaa", sum := "83726598641992a83a0b2edf83ad96c9d22be3a0e8fbfbcc5a6b74ad959a4715", func := "winnower/winnowerlaw02.UnionAll", spec := "unionAll", apart := false, narrowed := true }
def UnionAllUptoSaid : Prop := unionAllUptoRow.holds Try.pinned (OpenSpec.upto unionAllSpec)

/-- 'winnowerlaw02.UnionTwo', WHERE WHAT IT READS IS OF BULK AT MOST 1048576: true; the input reads as it did. -/
def unionTwoUptoRow : OpenClaim := { program := "ytjgabnphafkgoaa", sum := "83726598641992a83a0b2edf83ad96c9d22be3a0e8fbfbcc5a6b74ad959a4715", func := "winnower/winnowerlaw02.UnionTwo", spec := "unionTwo", apart := false, narrowed := true }
def UnionTwoUptoSaid : Prop := unionTwoUptoRow.holds Try.pinned (OpenSpec.upto unionTwoSpec)

end Rows
end Go.Proofs.Ytjgabnphafkgoaa
