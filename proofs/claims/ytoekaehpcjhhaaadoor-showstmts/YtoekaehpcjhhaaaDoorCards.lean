/-
  DERIVED. GIVEN WITH THE SEED: THE CARDS: each row of YtoekaehpcjhhaaaDoorRows.lean that lists a variable, with what it lists TIED to the program's text (the seventh form; the later family's looks); each row that meets fmt, with fmt's text TOLD by the authors' own Lean function (tested against real Go, not proved from fmt's source: count such statements apart). THE CARD IS WHAT COUNTS. Prove the row's statement (the work); the ties are given (YtoekaehpcjhhaaaDoorTie.lean); close each card by the builder's one call (the guide's Derived/Test/ToyasCard.lean, 'card_holds'). Laid BY PROGRAM, IN A SANDBOX (cutbox-door.mjs). By AI agents, Wed Nov 11 2026. No macro, syntax, notation, axiom, sorry.
-/
import Derived.Test.YtoekaehpcjhhaaaDoorRows
import GoSem.ClaimSeven
namespace Go.Proofs.YtoekaehpcjhhaaaDoor
namespace Rows

/-- THE TIED CARD OF 'winnowerlaw06.ShowLines'. -/
def showLinesCard : Claim7 := { stood := { row := showLinesRow, standIns := [], harness := (true, "eae3644e41f4373791b1e145c72aa8c95e017ff598dde109f64496d47ebab2ca"), looks := false }, kinds := [], alts := [], laidByText := true, laidKinds := [.data, .data, .data], laidTests := true, laidLooks := .later }
def ShowLinesCardSaid : Prop := Claim7.holds Tryd.pinned (.plain (OpenSpec.ofChange showLinesSpec)) showLinesCard

/-- THE TIED CARD OF 'winnowerlaw06.ShowStmts'. -/
def showStmtsCard : Claim7 := { stood := { row := showStmtsRow, standIns := [], harness := (true, "eae3644e41f4373791b1e145c72aa8c95e017ff598dde109f64496d47ebab2ca"), looks := false }, kinds := [], alts := [], laidByText := true, laidKinds := [.data, .data, .data, .data, .pinned], laidTests := true, laidLooks := .later }
def ShowStmtsCardSaid : Prop := Claim7.holds Tryd.pinned (.plain (OpenSpec.ofChange showStmtsSpec)) showStmtsCard

/-- THE SECOND FORM's CARD OF 'winnowerlaw06.ShowLines'. -/
def showLinesUptoCard : Claim7 := { stood := { row := showLinesUptoRow, standIns := [], harness := (true, "eae3644e41f4373791b1e145c72aa8c95e017ff598dde109f64496d47ebab2ca"), looks := false }, kinds := [], alts := [], laidByText := true, laidKinds := [.data, .data, .data], laidTests := true, laidLooks := .later }
def ShowLinesUptoCardSaid : Prop := Claim7.holds Tryd.pinned (.plain (OpenSpec.upto showLinesSpec)) showLinesUptoCard

/-- THE SECOND FORM's CARD OF 'winnowerlaw06.ShowStmts'. -/
def showStmtsUptoCard : Claim7 := { stood := { row := showStmtsUptoRow, standIns := [], harness := (true, "eae3644e41f4373791b1e145c72aa8c95e017ff598dde109f64496d47ebab2ca"), looks := false }, kinds := [], alts := [], laidByText := true, laidKinds := [.data, .data, .data, .data, .pinned], laidTests := true, laidLooks := .later }
def ShowStmtsUptoCardSaid : Prop := Claim7.holds Tryd.pinned (.plain (OpenSpec.upto showStmtsSpec)) showStmtsUptoCard
end Rows
end Go.Proofs.YtoekaehpcjhhaaaDoor
