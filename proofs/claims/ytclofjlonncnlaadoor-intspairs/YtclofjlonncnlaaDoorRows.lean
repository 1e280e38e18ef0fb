/-
  NARROWER THAN 'FOR EVERY INPUT', by the rows' own cells (each row's printed sentence says how): IntsAdds: laid · IntsPairs: laid · IntsMerges: laid · IntsNone: laid · IntsParts: laid.
  DERIVED. THE GIVEN ROWS OF THIS SEAT. 5 by the template 'for every input the law returns true; each argument reads behind the call as it read before'; 0 by the template 'total and deterministic' (their statements: YtclofjlonncnlaaDoorTotals.lean).
  GIVEN WITH THE SEED: the statements are not yours to turn. If you find one false, say at which input.
  Laid BY PROGRAM, IN A SANDBOX (cutbox-rows.mjs): the forced cells as the released guide's own fill.sh prints them over the translation 60a5832c67987d7b… (all of the seat's roots in one cut). By AI agents, Wed Nov 11 2026. No macro, syntax, notation, axiom, sorry.
-/
import Derived.Test.YtclofjlonncnlaaDoorChecked
import GoSem.Claim
import GoSem.ClaimJoined
import GoSem.ClaimMapViews
import Derived.JoinedTies
import Derived.KernelRfl
namespace Go.Proofs.YtclofjlonncnlaaDoor
/- THE CELL 'sum', in the pinned program and in every row, IS THE sha256 OF THE DUMP (.gsa) THAT YtclofjlonncnlaaDoorProg.lean LOADS. Nothing in Lean hashes anything: it is a label: what it is worth is what the hold of that sum in a sandbox is worth. -/
noncomputable def Tryd.pinned : Pinned := { name := "ytclofjlonncnlaadoor", sum := "60a5832c67987d7bdde4cce18395b8fa73cad3d3fa2050d54e3ba825360b1b1f", checked := Tryd.checked }
namespace Rows
def none {H : Type} : Left H := { results := [], args := [] }

/- WHAT THE LISTED PACKAGE-LEVEL VARIABLES READ AS WHEN THE CALL BEGINS. Each datum BY PROGRAM (the guide's laid-datum.mjs) off the statement by which the dump's own 'gosem.cut.vars' lays the variable. In a bare row this is a premise. The card (YtclofjlonncnlaaDoorCards.lean) ties it to the program's text. -/
def laid_math_bits_deBruijn64tab {H : Type} : DataW H := .agg [.lit (.int .u8 0), .lit (.int .u8 1), .lit (.int .u8 56), .lit (.int .u8 2), .lit (.int .u8 57), .lit (.int .u8 49), .lit (.int .u8 28), .lit (.int .u8 3), .lit (.int .u8 61), .lit (.int .u8 58), .lit (.int .u8 42), .lit (.int .u8 50), .lit (.int .u8 38), .lit (.int .u8 29), .lit (.int .u8 17), .lit (.int .u8 4), .lit (.int .u8 62), .lit (.int .u8 47), .lit (.int .u8 59), .lit (.int .u8 36), .lit (.int .u8 45), .lit (.int .u8 43), .lit (.int .u8 51), .lit (.int .u8 22), .lit (.int .u8 53), .lit (.int .u8 39), .lit (.int .u8 33), .lit (.int .u8 30), .lit (.int .u8 24), .lit (.int .u8 18), .lit (.int .u8 12), .lit (.int .u8 5), .lit (.int .u8 63), .lit (.int .u8 55), .lit (.int .u8 48), .lit (.int .u8 27), .lit (.int .u8 60), .lit (.int .u8 41), .lit (.int .u8 37), .lit (.int .u8 16), .lit (.int .u8 46), .lit (.int .u8 35), .lit (.int .u8 44), .lit (.int .u8 21), .lit (.int .u8 52), .lit (.int .u8 32), .lit (.int .u8 23), .lit (.int .u8 11), .lit (.int .u8 54), .lit (.int .u8 26), .lit (.int .u8 40), .lit (.int .u8 15), .lit (.int .u8 34), .lit (.int .u8 20), .lit (.int .u8 31), .lit (.int .u8 10), .lit (.int .u8 25), .lit (.int .u8 14), .lit (.int .u8 19), .lit (.int .u8 9), .lit (.int .u8 13), .lit (.int .u8 8), .lit (.int .u8 7), .lit (.int .u8 6)]

/-- 'winnowerlaw01.IntsAdds': WHATEVER THE INPUT: true; the input reads as it did. -/
def intsAddsSpec : ChangeSpec := { name := "intsAdds", fn := fun _ => fun
  | [d1, d2] => { results := [.lit (.bool true)], args := [d1, d2] }
  | _ => none }
def intsAddsRow : OpenClaim := { program := "ytclofjlonncnlaadoor", sum := "60a5832c67987d7bdde4cce18395b8fa73cad3d3fa2050d54e3ba825360b1b1f", func := "winnower/winnowerlaw01.IntsAdds", spec := "intsAdds", inPlace := ["slices.overlaps[winnower/ints.row]"], unfollowed := true, recurses := true, named := ["math/bits.deBruijn64tab"], apart := false, laid := [("math/bits.deBruijn64tab", laid_math_bits_deBruijn64tab)] }
def IntsAddsSaid : Prop := intsAddsRow.holds Tryd.pinned (OpenSpec.ofChange intsAddsSpec)

/-- ITS FALSE NEIGHBOUR: 'it returns false'. Refute it at one input. -/
def intsAddsWrong : ChangeSpec := { name := "intsAdds", fn := fun _ => fun
  | [d1, d2] => { results := [.lit (.bool false)], args := [d1, d2] }
  | _ => none }
def IntsAddsWrongFalsely : Prop := intsAddsRow.holds Tryd.pinned (OpenSpec.ofChange intsAddsWrong)

/-- 'winnowerlaw01.IntsPairs': WHATEVER THE INPUT: true; the input reads as it did. -/
def intsPairsSpec : ChangeSpec := { name := "intsPairs", fn := fun _ => fun
  | [d1, d2] => { results := [.lit (.bool true)], args := [d1, d2] }
  | _ => none }
def intsPairsRow : OpenClaim := { program := "ytclofjlonncnlaadoor", sum := "60a5832c67987d7bdde4cce18395b8fa73cad3d3fa2050d54e3ba825360b1b1f", func := "winnower/winnowerlaw01.IntsPairs", spec := "intsPairs", inPlace := ["slices.overlaps[winnower/ints.row]"], unfollowed := true, recurses := true, named := ["math/bits.deBruijn64tab"], apart := false, laid := [("math/bits.deBruijn64tab", laid_math_bits_deBruijn64tab)] }
def IntsPairsSaid : Prop := intsPairsRow.holds Tryd.pinned (OpenSpec.ofChange intsPairsSpec)

/-- ITS FALSE NEIGHBOUR: 'it returns false'. Refute it at one input. -/
def intsPairsWrong : ChangeSpec := { name := "intsPairs", fn := fun _ => fun
  | [d1, d2] => { results := [.lit (.bool false)], args := [d1, d2] }
  | _ => none }
def IntsPairsWrongFalsely : Prop := intsPairsRow.holds Tryd.pinned (OpenSpec.ofChange intsPairsWrong)

/-- 'winnowerlaw01.IntsMerges': WHATEVER THE INPUT: true; the input reads as it did. -/
def intsMergesSpec : ChangeSpec := { name := "intsMerges", fn := fun _ => fun
  | [d1, d2] => { results := [.lit (.bool true)], args := [d1, d2] }
  | _ => none }
def intsMergesRow : OpenClaim := { program := "ytclofjlonncnlaadoor", sum := "60a5832c67987d7bdde4cce18395b8fa73cad3d3fa2050d54e3ba825360b1b1f", func := "winnower/winnowerlaw01.IntsMerges", spec := "intsMerges", inPlace := ["slices.overlaps[winnower/ints.row]"], unfollowed := true, recurses := true, named := ["math/bits.deBruijn64tab"], apart := false, laid := [("math/bits.deBruijn64tab", laid_math_bits_deBruijn64tab)] }
def IntsMergesSaid : Prop := intsMergesRow.holds Tryd.pinned (OpenSpec.ofChange intsMergesSpec)

/-- ITS FALSE NEIGHBOUR: 'it returns false'. Refute it at one input. -/
def intsMergesWrong : ChangeSpec := { name := "intsMerges", fn := fun _ => fun
  | [d1, d2] => { results := [.lit (.bool false)], args := [d1, d2] }
  | _ => none }
def IntsMergesWrongFalsely : Prop := intsMergesRow.holds Tryd.pinned (OpenSpec.ofChange intsMergesWrong)

/-- 'winnowerlaw01.IntsNone': WHATEVER THE INPUT: true; the input reads as it did. -/
def intsNoneSpec : ChangeSpec := { name := "intsNone", fn := fun _ => fun
  | [d1, d2] => { results := [.lit (.bool true)], args := [d1, d2] }
  | _ => none }
def intsNoneRow : OpenClaim := { program := "ytclofjlonncnlaadoor", sum := "60a5832c67987d7bdde4cce18395b8fa73cad3d3fa2050d54e3ba825360b1b1f", func := "winnower/winnowerlaw01.IntsNone", spec := "intsNone", inPlace := ["slices.overlaps[winnower/ints.row]"], unfollowed := true, recurses := true, named := ["math/bits.deBruijn64tab"], apart := false, laid := [("math/bits.deBruijn64tab", laid_math_bits_deBruijn64tab)] }
def IntsNoneSaid : Prop := intsNoneRow.holds Tryd.pinned (OpenSpec.ofChange intsNoneSpec)

/-- ITS FALSE NEIGHBOUR: 'it returns false'. Refute it at one input. -/
def intsNoneWrong : ChangeSpec := { name := "intsNone", fn := fun _ => fun
  | [d1, d2] => { results := [.lit (.bool false)], args := [d1, d2] }
  | _ => none }
def IntsNoneWrongFalsely : Prop := intsNoneRow.holds Tryd.pinned (OpenSpec.ofChange intsNoneWrong)

/-- 'winnowerlaw01.IntsParts': WHATEVER THE INPUT: true; the input reads as it did. -/
def intsPartsSpec : ChangeSpec := { name := "intsParts", fn := fun _ => fun
  | [d1, d2] => { results := [.lit (.bool true)], args := [d1, d2] }
  | _ => none }
def intsPartsRow : OpenClaim := { program := "ytclofjlonncnlaadoor", sum := "60a5832c67987d7bdde4cce18395b8fa73cad3d3fa2050d54e3ba825360b1b1f", func := "winnower/winnowerlaw01.IntsParts", spec := "intsParts", inPlace := ["slices.overlaps[winnower/ints.row]"], unfollowed := true, recurses := true, named := ["math/bits.deBruijn64tab"], apart := false, laid := [("math/bits.deBruijn64tab", laid_math_bits_deBruijn64tab)] }
def IntsPartsSaid : Prop := intsPartsRow.holds Tryd.pinned (OpenSpec.ofChange intsPartsSpec)

/-- ITS FALSE NEIGHBOUR: 'it returns false'. Refute it at one input. -/
def intsPartsWrong : ChangeSpec := { name := "intsParts", fn := fun _ => fun
  | [d1, d2] => { results := [.lit (.bool false)], args := [d1, d2] }
  | _ => none }
def IntsPartsWrongFalsely : Prop := intsPartsRow.holds Tryd.pinned (OpenSpec.ofChange intsPartsWrong)

/- THE SECOND FORM. 'bulk': how many values and letters a reading holds, each counted each time it is reached (what is shared counts as often as it is met; a slice's spare places count too). A statement '..UptoSaid' is the law's where the arguments, and the package variables that the reading takes, are together of bulk at most 1048576: NARROWER than '..Said'. Prove '..Said' where nothing that the law and all that it calls make is longer than what came in: it says more and counts as full. Else prove '..UptoSaid'. A law counts once. -/
mutual
def uptoBulk {H : Type} : DataW H → Nat
  | .lit (.string bytes) => bytes.length + 1
  | .lit _ => 1
  | .nil => 1
  | .ptr d => uptoBulk d + 1
  | .slice elems spare => uptoBulkAll elems + uptoBulkAll spare + 1
  | .agg parts => uptoBulkAll parts + 1
  | .iface _ d => uptoBulk d + 1
  | .map entries => uptoBulkEntries entries + 1
  | .held _ => 1
def uptoBulkAll {H : Type} : List (DataW H) → Nat
  | [] => 0
  | d :: r => uptoBulk d + uptoBulkAll r
def uptoBulkEntries {H : Type} : List (Lit × DataW H) → Nat
  | [] => 0
  | x :: r => uptoBulkEntry x + uptoBulkEntries r
def uptoBulkEntry {H : Type} : Lit × DataW H → Nat
  | (.string bytes, d) => bytes.length + uptoBulk d + 1
  | (_, d) => uptoBulk d + 1
 end
def uptoSmall : (H : Type) → List (DataW H) → Bool := fun _ ds => decide (uptoBulkAll ds ≤ 1048576)
def OpenSpec.upto (s : _root_.Go.ChangeSpec) : _root_.Go.OpenSpec := { _root_.Go.OpenSpec.ofChange s with cond := some uptoSmall }

/-- 'winnowerlaw01.IntsAdds', WHERE WHAT IT READS IS OF BULK AT MOST 1048576: true; the input reads as it did. -/
def intsAddsUptoRow : OpenClaim := { program := "ytclofjlonncnlaadoor", sum := "60a5832c67987d7bdde4cce18395b8fa73cad3d3fa2050d54e3ba825360b1b1f", func := "winnower/winnowerlaw01.IntsAdds", spec := "intsAdds", inPlace := ["slices.overlaps[winnower/ints.row]"], unfollowed := true, recurses := true, named := ["math/bits.deBruijn64tab"], apart := false, laid := [("math/bits.deBruijn64tab", laid_math_bits_deBruijn64tab)], narrowed := true }
def IntsAddsUptoSaid : Prop := intsAddsUptoRow.holds Tryd.pinned (OpenSpec.upto intsAddsSpec)

/-- 'winnowerlaw01.IntsPairs', WHERE WHAT IT READS IS OF BULK AT MOST 1048576: true; the input reads as it did. -/
def intsPairsUptoRow : OpenClaim := { program := "ytclofjlonncnlaadoor", sum := "60a5832c67987d7bdde4cce18395b8fa73cad3d3fa2050d54e3ba825360b1b1f", func := "winnower/winnowerlaw01.IntsPairs", spec := "intsPairs", inPlace := ["slices.overlaps[winnower/ints.row]"], unfollowed := true, recurses := true, named := ["math/bits.deBruijn64tab"], apart := false, laid := [("math/bits.deBruijn64tab", laid_math_bits_deBruijn64tab)], narrowed := true }
def IntsPairsUptoSaid : Prop := intsPairsUptoRow.holds Tryd.pinned (OpenSpec.upto intsPairsSpec)

/-- 'winnowerlaw01.IntsMerges', WHERE WHAT IT READS IS OF BULK AT MOST 1048576: true; the input reads as it did. -/
def intsMergesUptoRow : OpenClaim := { program := "ytclofjlonncnlaadoor", sum := "60a5832c67987d7bdde4cce18395b8fa73cad3d3fa2050d54e3ba825360b1b1f", func := "winnower/winnowerlaw01.IntsMerges", spec := "intsMerges", inPlace := ["slices.overlaps[winnower/ints.row]"], unfollowed := true, recurses := true, named := ["math/bits.deBruijn64tab"], apart := false, laid := [("math/bits.deBruijn64tab", laid_math_bits_deBruijn64tab)], narrowed := true }
def IntsMergesUptoSaid : Prop := intsMergesUptoRow.holds Tryd.pinned (OpenSpec.upto intsMergesSpec)

/-- 'winnowerlaw01.IntsNone', WHERE WHAT IT READS IS OF BULK AT MOST 1048576: true; the input reads as it did. -/
def intsNoneUptoRow : OpenClaim := { program := "ytclofjlonncnlaadoor", sum := "60a5832c67987d7bdde4cce18395b8fa73cad3d3fa2050d54e3ba825360b1b1f", func := "winnower/winnowerlaw01.IntsNone", spec := "intsNone", inPlace := ["slices.overlaps[winnower/ints.row]"], unfollowed := true, recurses := true, named := ["math/bits.deBruijn64tab"], apart := false, laid := [("math/bits.deBruijn64tab", laid_math_bits_deBruijn64tab)], narrowed := true }
def IntsNoneUptoSaid : Prop := intsNoneUptoRow.holds Tryd.pinned (OpenSpec.upto intsNoneSpec)

/-- 'winnowerlaw01.IntsParts', WHERE WHAT IT READS IS OF BULK AT MOST 1048576: true; the input reads as it did. -/
def intsPartsUptoRow : OpenClaim := { program := "ytclofjlonncnlaadoor", sum := "60a5832c67987d7bdde4cce18395b8fa73cad3d3fa2050d54e3ba825360b1b1f", func := "winnower/winnowerlaw01.IntsParts", spec := "intsParts", inPlace := ["slices.overlaps[winnower/ints.row]"], unfollowed := true, recurses := true, named := ["math/bits.deBruijn64tab"], apart := false, laid := [("math/bits.deBruijn64tab", laid_math_bits_deBruijn64tab)], narrowed := true }
def IntsPartsUptoSaid : Prop := intsPartsUptoRow.holds Tryd.pinned (OpenSpec.upto intsPartsSpec)

end Rows
end Go.Proofs.YtclofjlonncnlaaDoor
