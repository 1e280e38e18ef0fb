/-
  No cell of these rows narrows 'for every input' (looked for: loops, veiled, ifaces, maps, wideKeys, modest, calm, conditions, laid).
  DERIVED. THE GIVEN ROWS OF THIS SEAT. 3 by the template 'for every input the law returns true; each argument reads behind the call as it read before'; 0 by the template 'total and deterministic' (their statements: YtepkpllfdfbmiaaTotals.lean).
  GIVEN WITH THE SEED: the statements are not yours to turn. If you find one false, say at which input.
  Laid BY PROGRAM, IN A SANDBOX (cutbox-rows.mjs): the forced cells as the released guide's own fill.sh prints them over the translation 88343403bd562fdb… (all of the seat's roots in one cut). By AI agents, Wed Nov 11 2026. No macro, syntax, notation, axiom, sorry.
-/
import Derived.Test.YtepkpllfdfbmiaaChecked
import GoSem.Claim
import GoSem.ClaimJoined
import GoSem.ClaimMapViews
import Derived.JoinedTies
import Derived.KernelRfl
namespace Go.Proofs.Ytepkpllfdfbmiaa
/- THE CELL 'sum', in the pinned program and in every row, IS THE sha256 OF THE DUMP (.gsa) THAT YtepkpllfdfbmiaaProg.lean LOADS. Nothing in Lean hashes anything: it is a label: what it is worth is what the hold of that sum in a sandbox is worth. -/
noncomputable def Try.pinned : Pinned := { name := "ytepkpllfdfbmiaa", sum := "88343403bd562fdbfec0c81e9dceb06a4aba3d41dbe5d2273fd031e4bd5fde0b", checked := Try.checked }
namespace Rows
def none {H : Type} : Left H := { results := [], args := [] }

/-- 'winnowerlaw04.InternIds': WHATEVER THE INPUT: true; the input reads as it did. -/
def internIdsSpec : ChangeSpec := { name := "internIds", fn := fun _ => fun
  | [d1, d2, d3] => { results := [.lit (.bool true)], args := [d1, d2, d3] }
  | _ => none }
def internIdsRow : OpenClaim := { program := "ytepkpllfdfbmiaa", sum := "88343403bd562fdbfec0c81e9dceb06a4aba3d41dbe5d2273fd031e4bd5fde0b", func := "winnower/winnowerlaw04.InternIds", spec := "internIds", plainKeys := false, apart := false }
def InternIdsSaid : Prop := internIdsRow.holds Try.pinned (OpenSpec.ofChange internIdsSpec)

/-- ITS FALSE NEIGHBOUR: 'it returns false'. Refute it at one input. -/
def internIdsWrong : ChangeSpec := { name := "internIds", fn := fun _ => fun
  | [d1, d2, d3] => { results := [.lit (.bool false)], args := [d1, d2, d3] }
  | _ => none }
def InternIdsWrongFalsely : Prop := internIdsRow.holds Try.pinned (OpenSpec.ofChange internIdsWrong)

/-- 'winnowerlaw04.InternTexts': WHATEVER THE INPUT: true; the input reads as it did. -/
def internTextsSpec : ChangeSpec := { name := "internTexts", fn := fun _ => fun
  | [d1, d2] => { results := [.lit (.bool true)], args := [d1, d2] }
  | _ => none }
def internTextsRow : OpenClaim := { program := "ytepkpllfdfbmiaa", sum := "88343403bd562fdbfec0c81e9dceb06a4aba3d41dbe5d2273fd031e4bd5fde0b", func := "winnower/winnowerlaw04.InternTexts", spec := "internTexts", plainKeys := false, apart := false }
def InternTextsSaid : Prop := internTextsRow.holds Try.pinned (OpenSpec.ofChange internTextsSpec)

/-- ITS FALSE NEIGHBOUR: 'it returns false'. Refute it at one input. -/
def internTextsWrong : ChangeSpec := { name := "internTexts", fn := fun _ => fun
  | [d1, d2] => { results := [.lit (.bool false)], args := [d1, d2] }
  | _ => none }
def InternTextsWrongFalsely : Prop := internTextsRow.holds Try.pinned (OpenSpec.ofChange internTextsWrong)

/-- 'winnowerlaw04.InternPads': WHATEVER THE INPUT: true; the input reads as it did. -/
def internPadsSpec : ChangeSpec := { name := "internPads", fn := fun _ => fun
  | [d1, d2] => { results := [.lit (.bool true)], args := [d1, d2] }
  | _ => none }
def internPadsRow : OpenClaim := { program := "ytepkpllfdfbmiaa", sum := "88343403bd562fdbfec0c81e9dceb06a4aba3d41dbe5d2273fd031e4bd5fde0b", func := "winnower/winnowerlaw04.InternPads", spec := "internPads", plainKeys := false, apart := false }
def InternPadsSaid : Prop := internPadsRow.holds Try.pinned (OpenSpec.ofChange internPadsSpec)

/-- ITS FALSE NEIGHBOUR: 'it returns false'. Refute it at one input. -/
def internPadsWrong : ChangeSpec := { name := "internPads", fn := fun _ => fun
  | [d1, d2] => { results := [.lit (.bool false)], args := [d1, d2] }
  | _ => none }
def InternPadsWrongFalsely : Prop := internPadsRow.holds Try.pinned (OpenSpec.ofChange internPadsWrong)

/- THE SECOND FORM. 'bulk': how many values and letters a reading holds, each counted each time it is reached (what is shared counts as often as it is met; a slice's spare places count too). A statement '..UptoSaid' is the law's where the arguments, and the package variables that the reading takes, are together of bulk at most 1048576: NARROWER than '..Said'. Prove '..Said' where nothing that the law and all that it calls make is longer than what came in: it says more and counts as full. Else prove '..UptoSaid'. A law counts once. -/
mutual
def uptoBulk {H : Type} : DataW H → Nat
  | .lit (.string bytes) => bytes.length + 1
  | .lit _ => 1
  | .nil => 1
  | .ptr d => uptoBulk d + 1
  | .slice elems spare => uptoBulkAll elems + uptoBulkAll spare + 1
  | .agg parts => uptoBulkAll parts + 1
  | .iface _ d => uptoBulk d + 1
  | .map entries => uptoBulkEntries entries + 1
  | .held _ => 1
def uptoBulkAll {H : Type} : List (DataW H) → Nat
  | [] => 0
  | d :: r => uptoBulk d + uptoBulkAll r
def uptoBulkEntries {H : Type} : List (Lit × DataW H) → Nat
  | [] => 0
  | x :: r => uptoBulkEntry x + uptoBulkEntries r
def uptoBulkEntry {H : Type} : Lit × DataW H → Nat
  | (.string bytes, d) => bytes.length + uptoBulk d + 1
  | (_, d) => uptoBulk d + 1
 end
def uptoSmall : (H : Type) → List (DataW H) → Bool := fun _ ds => decide (uptoBulkAll ds ≤ 1048576)
def OpenSpec.upto (s : _root_.Go.ChangeSpec) : _root_.Go.OpenSpec := { _root_.Go.OpenSpec.ofChange s with cond := some uptoSmall }

/-- 'winnowerlaw04.InternIds', WHERE WHAT IT READS IS OF BULK AT MOST 1048576: true; the input reads as it did. -/
def internIdsUptoRow : OpenClaim := { program := "ytepkpllfdfbmiaa", sum := "88343403bd562fdbfec0c81e9dceb06a4aba3d41dbe5d2273fd031e4bd5fde0b", func := "winnower/winnowerlaw04.InternIds", spec := "internIds", plainKeys := false, apart := false, narrowed := true }
def InternIdsUptoSaid : Prop := internIdsUptoRow.holds Try.pinned (OpenSpec.upto internIdsSpec)

/-- 'winnowerlaw04.InternTexts', WHERE WHAT IT READS IS OF BULK AT MOST 1048576: true; the input reads as it did. -/
def internTextsUptoRow : OpenClaim := { program := "ytepkpllfdfbmiaa", sum := "88343403bd562fdbfec0c81e9dceb06a4aba3d41dbe5d2273fd031e4bd5fde0b", func := "winnower/winnowerlaw04.InternTexts", spec := "internTexts", plainKeys := false, apart := false, narrowed := true }
def InternTextsUptoSaid : Prop := internTextsUptoRow.holds Try.pinned (OpenSpec.upto internTextsSpec)

/-- 'winnowerlaw04.InternPads', WHERE WHAT IT READS IS OF BULK AT MOST 1048576: true; the input reads as it did. -/
def internPadsUptoRow : OpenClaim := { program := "ytepkpllfdfbmiaa", sum := "88343403bd562fdbfec0c81e9dceb06a4aba3d41dbe5d2273fd031e4bd5fde0b", func := "winnower/winnowerlaw04.InternPads", spec := "internPads", plainKeys := false, apart := false, narrowed := true }
def InternPadsUptoSaid : Prop := internPadsUptoRow.holds Try.pinned (OpenSpec.upto internPadsSpec)

end Rows
end Go.Proofs.Ytepkpllfdfbmiaa
