/-
  DERIVED. GIVEN WITH THE SEED: THE CARDS: each row of YtbocejiclellfaaDoorRows.lean that lists a variable, with what it lists TIED to the program's text (the seventh form; the later family's looks); each row that meets fmt, with fmt's text TOLD by the authors' own Lean function (tested against real Go, not proved from fmt's source: count such statements apart). THE CARD IS WHAT COUNTS. Prove the row's statement (the work); the ties are given (YtbocejiclellfaaDoorTie.lean); close each card by the builder's one call (the guide's Derived/Test/ToyasCard.lean, 'card_holds'). Laid BY PROGRAM, IN A SANDBOX (cutbox-door.mjs). By AI agents, Wed Nov 11 2026. No macro, syntax, notation, axiom, sorry.
-/
import Derived.Test.YtbocejiclellfaaDoorRows
import GoSem.ClaimSeven
namespace Go.Proofs.YtbocejiclellfaaDoor
namespace Rows

/-- THE TIED CARD OF 'winnowerlaw09.SubOrder'. -/
def subOrderCard : Claim7 := { stood := { row := subOrderRow, standIns := [], harness := (true, "0d022799ddc0b8d21ed602f7f809640109bfd5fa08b6896bf2ea4fa9e4da0833"), looks := true }, kinds := [], alts := [], laidByText := true, laidKinds := [.data], laidTests := true, laidLooks := .later }
def SubOrderCardSaid : Prop := Claim7.holds Tryd.pinned (.plain (OpenSpec.ofChange subOrderSpec)) subOrderCard

/-- THE TIED CARD OF 'winnowerlaw09.SubUnder'. -/
def subUnderCard : Claim7 := { stood := { row := subUnderRow, standIns := [], harness := (true, "0d022799ddc0b8d21ed602f7f809640109bfd5fa08b6896bf2ea4fa9e4da0833"), looks := true }, kinds := [], alts := [], laidByText := true, laidKinds := [.data], laidTests := true, laidLooks := .later }
def SubUnderCardSaid : Prop := Claim7.holds Tryd.pinned (.plain (OpenSpec.ofChange subUnderSpec)) subUnderCard

/-- THE TIED CARD OF 'winnowerlaw09.SubArrays'. -/
def subArraysCard : Claim7 := { stood := { row := subArraysRow, standIns := [], harness := (true, "0d022799ddc0b8d21ed602f7f809640109bfd5fa08b6896bf2ea4fa9e4da0833"), looks := true }, kinds := [], alts := [], laidByText := true, laidKinds := [.data], laidTests := true, laidLooks := .later }
def SubArraysCardSaid : Prop := Claim7.holds Tryd.pinned (.plain (OpenSpec.ofChange subArraysSpec)) subArraysCard

/-- THE SECOND FORM's CARD OF 'winnowerlaw09.SubOrder'. -/
def subOrderUptoCard : Claim7 := { stood := { row := subOrderUptoRow, standIns := [], harness := (true, "0d022799ddc0b8d21ed602f7f809640109bfd5fa08b6896bf2ea4fa9e4da0833"), looks := true }, kinds := [], alts := [], laidByText := true, laidKinds := [.data], laidTests := true, laidLooks := .later }
def SubOrderUptoCardSaid : Prop := Claim7.holds Tryd.pinned (.plain (OpenSpec.upto subOrderSpec)) subOrderUptoCard

/-- THE SECOND FORM's CARD OF 'winnowerlaw09.SubUnder'. -/
def subUnderUptoCard : Claim7 := { stood := { row := subUnderUptoRow, standIns := [], harness := (true, "0d022799ddc0b8d21ed602f7f809640109bfd5fa08b6896bf2ea4fa9e4da0833"), looks := true }, kinds := [], alts := [], laidByText := true, laidKinds := [.data], laidTests := true, laidLooks := .later }
def SubUnderUptoCardSaid : Prop := Claim7.holds Tryd.pinned (.plain (OpenSpec.upto subUnderSpec)) subUnderUptoCard

/-- THE SECOND FORM's CARD OF 'winnowerlaw09.SubArrays'. -/
def subArraysUptoCard : Claim7 := { stood := { row := subArraysUptoRow, standIns := [], harness := (true, "0d022799ddc0b8d21ed602f7f809640109bfd5fa08b6896bf2ea4fa9e4da0833"), looks := true }, kinds := [], alts := [], laidByText := true, laidKinds := [.data], laidTests := true, laidLooks := .later }
def SubArraysUptoCardSaid : Prop := Claim7.holds Tryd.pinned (.plain (OpenSpec.upto subArraysSpec)) subArraysUptoCard
end Rows
end Go.Proofs.YtbocejiclellfaaDoor
