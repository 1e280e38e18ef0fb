/-
  DERIVED. GIVEN WITH THE SEED: THE CARDS: each row of YtnmhcgkccchacaaGreatDoorRows.lean that lists a variable, with what it lists TIED to the program's text (the seventh form; the later family's looks); each row that meets fmt, with fmt's text TOLD by the authors' own Lean function (tested against real Go, not proved from fmt's source: count such statements apart). THE CARD IS WHAT COUNTS. Prove the row's statement (the work); the ties are given (YtnmhcgkccchacaaGreatDoorTie.lean); close each card by the builder's one call (the guide's Derived/Test/ToyasCard.lean, 'card_holds'). Laid BY PROGRAM, IN A SANDBOX (cutbox-door.mjs). By AI agents, Wed Nov 11 2026. No macro, syntax, notation, axiom, sorry.
-/
import Derived.Test.YtnmhcgkccchacaaGreatDoorRows
import GoSem.ClaimSeven
namespace Go.Proofs.YtnmhcgkccchacaaGreatDoor
namespace Rows

/-- THE TIED CARD OF 'winnowerlaw07.ParseAll'. -/
def parseAllCard : Claim7 := { stood := { row := parseAllRow, standIns := [], harness := (true, "1a3cdcf48287c34454f86c0fede455ecaec4c9368e5a5a99bc20d5dac031cf34"), looks := true }, kinds := [], alts := [], laidByText := true, laidKinds := [.data, .data, .data, .sentinel, .sentinel, .data, .data], laidTests := true, laidLooks := .later }
def ParseAllCardSaid : Prop := Claim7.holds Tryz.pinned (.plain (OpenSpec.ofChange parseAllSpec)) parseAllCard

/-- THE TIED CARD OF 'winnowerlaw07.ParseStmts'. -/
def parseStmtsCard : Claim7 := { stood := { row := parseStmtsRow, standIns := [], harness := (true, "1a3cdcf48287c34454f86c0fede455ecaec4c9368e5a5a99bc20d5dac031cf34"), looks := true }, kinds := [], alts := [], laidByText := true, laidKinds := [.data, .data, .data, .sentinel, .sentinel, .data, .data], laidTests := true, laidLooks := .later }
def ParseStmtsCardSaid : Prop := Claim7.holds Tryz.pinned (.plain (OpenSpec.ofChange parseStmtsSpec)) parseStmtsCard

/-- THE TIED CARD OF 'winnowerlaw07.ParseBack'. -/
def parseBackCard : Claim7 := { stood := { row := parseBackRow, standIns := [], harness := (true, "1a3cdcf48287c34454f86c0fede455ecaec4c9368e5a5a99bc20d5dac031cf34"), looks := true }, kinds := [], alts := [], laidByText := true, laidKinds := [.data, .data, .data, .sentinel, .sentinel, .data, .data], laidTests := true, laidLooks := .later }
def ParseBackCardSaid : Prop := Claim7.holds Tryz.pinned (.plain (OpenSpec.ofChange parseBackSpec)) parseBackCard

/-- THE TIED CARD OF 'winnowerlaw07.ParseMany'. -/
def parseManyCard : Claim7 := { stood := { row := parseManyRow, standIns := [], harness := (true, "1a3cdcf48287c34454f86c0fede455ecaec4c9368e5a5a99bc20d5dac031cf34"), looks := true }, kinds := [], alts := [], laidByText := true, laidKinds := [.data, .data, .data, .sentinel, .sentinel, .data, .data], laidTests := true, laidLooks := .later }
def ParseManyCardSaid : Prop := Claim7.holds Tryz.pinned (.plain (OpenSpec.ofChange parseManySpec)) parseManyCard

/-- THE TIED CARD OF 'winnowerlaw07.ParseNest'. -/
def parseNestCard : Claim7 := { stood := { row := parseNestRow, standIns := [], harness := (true, "1a3cdcf48287c34454f86c0fede455ecaec4c9368e5a5a99bc20d5dac031cf34"), looks := true }, kinds := [], alts := [], laidByText := true, laidKinds := [.data, .data, .data, .sentinel, .sentinel, .data, .data], laidTests := true, laidLooks := .later }
def ParseNestCardSaid : Prop := Claim7.holds Tryz.pinned (.plain (OpenSpec.ofChange parseNestSpec)) parseNestCard

/-- THE TIED CARD OF 'winnowerlaw07.ParseBegins'. -/
def parseBeginsCard : Claim7 := { stood := { row := parseBeginsRow, standIns := [], harness := (true, "1a3cdcf48287c34454f86c0fede455ecaec4c9368e5a5a99bc20d5dac031cf34"), looks := true }, kinds := [], alts := [], laidByText := true, laidKinds := [.data, .data, .data, .sentinel, .sentinel, .data, .data], laidTests := true, laidLooks := .later }
def ParseBeginsCardSaid : Prop := Claim7.holds Tryz.pinned (.plain (OpenSpec.ofChange parseBeginsSpec)) parseBeginsCard

/-- THE SECOND FORM's CARD OF 'winnowerlaw07.ParseAll'. -/
def parseAllUptoCard : Claim7 := { stood := { row := parseAllUptoRow, standIns := [], harness := (true, "1a3cdcf48287c34454f86c0fede455ecaec4c9368e5a5a99bc20d5dac031cf34"), looks := true }, kinds := [], alts := [], laidByText := true, laidKinds := [.data, .data, .data, .sentinel, .sentinel, .data, .data], laidTests := true, laidLooks := .later }
def ParseAllUptoCardSaid : Prop := Claim7.holds Tryz.pinned (.plain (OpenSpec.upto parseAllSpec)) parseAllUptoCard

/-- THE SECOND FORM's CARD OF 'winnowerlaw07.ParseStmts'. -/
def parseStmtsUptoCard : Claim7 := { stood := { row := parseStmtsUptoRow, standIns := [], harness := (true, "1a3cdcf48287c34454f86c0fede455ecaec4c9368e5a5a99bc20d5dac031cf34"), looks := true }, kinds := [], alts := [], laidByText := true, laidKinds := [.data, .data, .data, .sentinel, .sentinel, .data, .data], laidTests := true, laidLooks := .later }
def ParseStmtsUptoCardSaid : Prop := Claim7.holds Tryz.pinned (.plain (OpenSpec.upto parseStmtsSpec)) parseStmtsUptoCard

/-- THE SECOND FORM's CARD OF 'winnowerlaw07.ParseBack'. -/
def parseBackUptoCard : Claim7 := { stood := { row := parseBackUptoRow, standIns := [], harness := (true, "1a3cdcf48287c34454f86c0fede455ecaec4c9368e5a5a99bc20d5dac031cf34"), looks := true }, kinds := [], alts := [], laidByText := true, laidKinds := [.data, .data, .data, .sentinel, .sentinel, .data, .data], laidTests := true, laidLooks := .later }
def ParseBackUptoCardSaid : Prop := Claim7.holds Tryz.pinned (.plain (OpenSpec.upto parseBackSpec)) parseBackUptoCard

/-- THE SECOND FORM's CARD OF 'winnowerlaw07.ParseMany'. -/
def parseManyUptoCard : Claim7 := { stood := { row := parseManyUptoRow, standIns := [], harness := (true, "1a3cdcf48287c34454f86c0fede455ecaec4c9368e5a5a99bc20d5dac031cf34"), looks := true }, kinds := [], alts := [], laidByText := true, laidKinds := [.data, .data, .data, .sentinel, .sentinel, .data, .data], laidTests := true, laidLooks := .later }
def ParseManyUptoCardSaid : Prop := Claim7.holds Tryz.pinned (.plain (OpenSpec.upto parseManySpec)) parseManyUptoCard

/-- THE SECOND FORM's CARD OF 'winnowerlaw07.ParseNest'. -/
def parseNestUptoCard : Claim7 := { stood := { row := parseNestUptoRow, standIns := [], harness := (true, "1a3cdcf48287c34454f86c0fede455ecaec4c9368e5a5a99bc20d5dac031cf34"), looks := true }, kinds := [], alts := [], laidByText := true, laidKinds := [.data, .data, .data, .sentinel, .sentinel, .data, .data], laidTests := true, laidLooks := .later }
def ParseNestUptoCardSaid : Prop := Claim7.holds Tryz.pinned (.plain (OpenSpec.upto parseNestSpec)) parseNestUptoCard

/-- THE SECOND FORM's CARD OF 'winnowerlaw07.ParseBegins'. -/
def parseBeginsUptoCard : Claim7 := { stood := { row := parseBeginsUptoRow, standIns := [], harness := (true, "1a3cdcf48287c34454f86c0fede455ecaec4c9368e5a5a99bc20d5dac031cf34"), looks := true }, kinds := [], alts := [], laidByText := true, laidKinds := [.data, .data, .data, .sentinel, .sentinel, .data, .data], laidTests := true, laidLooks := .later }
def ParseBeginsUptoCardSaid : Prop := Claim7.holds Tryz.pinned (.plain (OpenSpec.upto parseBeginsSpec)) parseBeginsUptoCard
end Rows
end Go.Proofs.YtnmhcgkccchacaaGreatDoor
