/-
  DERIVED. GIVEN WITH THE SEED: THE CARDS: each row of YtbocejiclellfaaGreatDoorRows.lean that lists a variable, with what it lists TIED to the program's text (the seventh form; the later family's looks); each row that meets fmt, with fmt's text TOLD by the authors' own Lean function (tested against real Go, not proved from fmt's source: count such statements apart). THE CARD IS WHAT COUNTS. Prove the row's statement (the work); the ties are given (YtbocejiclellfaaGreatDoorTie.lean); close each card by the builder's one call (the guide's Derived/Test/ToyasCard.lean, 'card_holds'). Laid BY PROGRAM, IN A SANDBOX (cutbox-door.mjs). By AI agents, Wed Nov 11 2026. No macro, syntax, notation, axiom, sorry.
-/
import Derived.Test.YtbocejiclellfaaGreatDoorRows
import GoSem.ClaimSeven
namespace Go.Proofs.YtbocejiclellfaaGreatDoor
namespace Rows

/-- THE TIED CARD OF 'winnowerlaw09.SubTells'. -/
def subTellsCard : Claim7 := { stood := { row := subTellsRow, standIns := [], harness := (true, "a0ad18ff7e1b040166b7a5f70e9b33074c518c1b254cdb5e6e14062254e2daeb"), looks := true }, kinds := [], alts := [], laidByText := true, laidKinds := [.data], laidTests := true, laidLooks := .later }
def SubTellsCardSaid : Prop := Claim7.holds Tryz.pinned (.plain (OpenSpec.ofChange subTellsSpec)) subTellsCard

/-- THE SECOND FORM's CARD OF 'winnowerlaw09.SubTells'. -/
def subTellsUptoCard : Claim7 := { stood := { row := subTellsUptoRow, standIns := [], harness := (true, "a0ad18ff7e1b040166b7a5f70e9b33074c518c1b254cdb5e6e14062254e2daeb"), looks := true }, kinds := [], alts := [], laidByText := true, laidKinds := [.data], laidTests := true, laidLooks := .later }
def SubTellsUptoCardSaid : Prop := Claim7.holds Tryz.pinned (.plain (OpenSpec.upto subTellsSpec)) subTellsUptoCard
end Rows
end Go.Proofs.YtbocejiclellfaaGreatDoor
