/-
  DERIVED. GIVEN WITH THE SEED: THE CARDS: each row of YtjnphoeifonenaaDoorRows.lean that lists a variable, with what it lists TIED to the program's text (the seventh form; the later family's looks); each row that meets fmt, with fmt's text TOLD by the authors' own Lean function (tested against real Go, not proved from fmt's source: count such statements apart). THE CARD IS WHAT COUNTS. Prove the row's statement (the work); the ties are given (YtjnphoeifonenaaDoorTie.lean); close each card by the builder's one call (the guide's Derived/Test/ToyasCard.lean, 'card_holds'). Laid BY PROGRAM, IN A SANDBOX (cutbox-door.mjs). By AI agents, Wed Nov 11 2026. No macro, syntax, notation, axiom, sorry.
-/
import Derived.Test.YtjnphoeifonenaaDoorRows
import GoSem.ClaimSeven
namespace Go.Proofs.YtjnphoeifonenaaDoor
namespace Rows

/-- THE TIED CARD OF 'winnowerlaw08.HierFaults'. -/
def hierFaultsCard : Claim7 := { stood := { row := hierFaultsRow, standIns := [], harness := (true, "596e51c0a0976ae7c47d9373868b1a487986e43a21f66ff89f1289aab27726ce"), looks := true }, kinds := [], alts := [], laidByText := true, laidKinds := [.data], laidTests := true, laidLooks := .later }
def HierFaultsCardSaid : Prop := Claim7.holds Tryd.pinned (.plain (OpenSpec.ofChange hierFaultsSpec)) hierFaultsCard

/-- THE TIED CARD OF 'winnowerlaw08.HierTells'. -/
def hierTellsCard : Claim7 := { stood := { row := hierTellsRow, standIns := [], harness := (true, "596e51c0a0976ae7c47d9373868b1a487986e43a21f66ff89f1289aab27726ce"), looks := true }, kinds := [], alts := [], laidByText := true, laidKinds := [.data], laidTests := true, laidLooks := .later }
def HierTellsCardSaid : Prop := Claim7.holds Tryd.pinned (.plain (OpenSpec.ofChange hierTellsSpec)) hierTellsCard

/-- THE TIED CARD OF 'winnowerlaw08.HierOrder'. -/
def hierOrderCard : Claim7 := { stood := { row := hierOrderRow, standIns := [], harness := (true, "596e51c0a0976ae7c47d9373868b1a487986e43a21f66ff89f1289aab27726ce"), looks := true }, kinds := [], alts := [], laidByText := true, laidKinds := [.data], laidTests := true, laidLooks := .later }
def HierOrderCardSaid : Prop := Claim7.holds Tryd.pinned (.plain (OpenSpec.ofChange hierOrderSpec)) hierOrderCard

/-- THE TIED CARD OF 'winnowerlaw08.HierRound'. -/
def hierRoundCard : Claim7 := { stood := { row := hierRoundRow, standIns := [], harness := (true, "596e51c0a0976ae7c47d9373868b1a487986e43a21f66ff89f1289aab27726ce"), looks := true }, kinds := [], alts := [], laidByText := true, laidKinds := [.data], laidTests := true, laidLooks := .later }
def HierRoundCardSaid : Prop := Claim7.holds Tryd.pinned (.plain (OpenSpec.ofChange hierRoundSpec)) hierRoundCard

/-- THE TIED CARD OF 'winnowerlaw08.HierBoth'. -/
def hierBothCard : Claim7 := { stood := { row := hierBothRow, standIns := [], harness := (true, "596e51c0a0976ae7c47d9373868b1a487986e43a21f66ff89f1289aab27726ce"), looks := true }, kinds := [], alts := [], laidByText := true, laidKinds := [.data], laidTests := true, laidLooks := .later }
def HierBothCardSaid : Prop := Claim7.holds Tryd.pinned (.plain (OpenSpec.ofChange hierBothSpec)) hierBothCard

/-- THE SECOND FORM's CARD OF 'winnowerlaw08.HierFaults'. -/
def hierFaultsUptoCard : Claim7 := { stood := { row := hierFaultsUptoRow, standIns := [], harness := (true, "596e51c0a0976ae7c47d9373868b1a487986e43a21f66ff89f1289aab27726ce"), looks := true }, kinds := [], alts := [], laidByText := true, laidKinds := [.data], laidTests := true, laidLooks := .later }
def HierFaultsUptoCardSaid : Prop := Claim7.holds Tryd.pinned (.plain (OpenSpec.upto hierFaultsSpec)) hierFaultsUptoCard

/-- THE SECOND FORM's CARD OF 'winnowerlaw08.HierTells'. -/
def hierTellsUptoCard : Claim7 := { stood := { row := hierTellsUptoRow, standIns := [], harness := (true, "596e51c0a0976ae7c47d9373868b1a487986e43a21f66ff89f1289aab27726ce"), looks := true }, kinds := [], alts := [], laidByText := true, laidKinds := [.data], laidTests := true, laidLooks := .later }
def HierTellsUptoCardSaid : Prop := Claim7.holds Tryd.pinned (.plain (OpenSpec.upto hierTellsSpec)) hierTellsUptoCard

/-- THE SECOND FORM's CARD OF 'winnowerlaw08.HierOrder'. -/
def hierOrderUptoCard : Claim7 := { stood := { row := hierOrderUptoRow, standIns := [], harness := (true, "596e51c0a0976ae7c47d9373868b1a487986e43a21f66ff89f1289aab27726ce"), looks := true }, kinds := [], alts := [], laidByText := true, laidKinds := [.data], laidTests := true, laidLooks := .later }
def HierOrderUptoCardSaid : Prop := Claim7.holds Tryd.pinned (.plain (OpenSpec.upto hierOrderSpec)) hierOrderUptoCard

/-- THE SECOND FORM's CARD OF 'winnowerlaw08.HierRound'. -/
def hierRoundUptoCard : Claim7 := { stood := { row := hierRoundUptoRow, standIns := [], harness := (true, "596e51c0a0976ae7c47d9373868b1a487986e43a21f66ff89f1289aab27726ce"), looks := true }, kinds := [], alts := [], laidByText := true, laidKinds := [.data], laidTests := true, laidLooks := .later }
def HierRoundUptoCardSaid : Prop := Claim7.holds Tryd.pinned (.plain (OpenSpec.upto hierRoundSpec)) hierRoundUptoCard

/-- THE SECOND FORM's CARD OF 'winnowerlaw08.HierBoth'. -/
def hierBothUptoCard : Claim7 := { stood := { row := hierBothUptoRow, standIns := [], harness := (true, "596e51c0a0976ae7c47d9373868b1a487986e43a21f66ff89f1289aab27726ce"), looks := true }, kinds := [], alts := [], laidByText := true, laidKinds := [.data], laidTests := true, laidLooks := .later }
def HierBothUptoCardSaid : Prop := Claim7.holds Tryd.pinned (.plain (OpenSpec.upto hierBothSpec)) hierBothUptoCard
end Rows
end Go.Proofs.YtjnphoeifonenaaDoor
