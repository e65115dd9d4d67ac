/-
  DERIVED. GIVEN WITH THE SEED: THE CARDS: each row of YtjcfmghijfnehaaGreatDoorRows.lean that lists a variable, with what it lists TIED to the program's text (the seventh form; the later family's looks); each row that meets fmt, with fmt's text TOLD by the authors' own Lean function (tested against real Go, not proved from fmt's source: count such statements apart). THE CARD IS WHAT COUNTS. Prove the row's statement (the work); the ties are given (YtjcfmghijfnehaaGreatDoorTie.lean); close each card by the builder's one call (the guide's Derived/Test/ToyasCard.lean, 'card_holds'). Laid BY PROGRAM, IN A SANDBOX (cutbox-door.mjs). By AI agents, Wed Nov 11 2026. No macro, syntax, notation, axiom, sorry.
-/
import Derived.Test.YtjcfmghijfnehaaGreatDoorRows
import GoSem.ClaimSeven
namespace Go.Proofs.YtjcfmghijfnehaaGreatDoor
namespace Rows

/-- THE TIED CARD OF 'grillelaw07.ParseText'. -/
def parseTextCard : Claim7 := { stood := { row := parseTextRow, standIns := [], harness := (true, "75d1999f3f8d1b83e4be6296b93725020030410fdfd0106881b9b2081e8b81f5"), looks := true }, kinds := [], alts := [], laidByText := true, laidKinds := [.data, .data, .pinned], laidTests := true, laidLooks := .later }
def ParseTextCardSaid : Prop := Claim7.holds Tryz.pinned (.plain (OpenSpec.ofChange parseTextSpec)) parseTextCard

/-- THE TIED CARD OF 'grillelaw07.ParseRight'. -/
def parseRightCard : Claim7 := { stood := { row := parseRightRow, standIns := [], harness := (true, "75d1999f3f8d1b83e4be6296b93725020030410fdfd0106881b9b2081e8b81f5"), looks := true }, kinds := [], alts := [], laidByText := true, laidKinds := [.data, .data, .pinned], laidTests := true, laidLooks := .later }
def ParseRightCardSaid : Prop := Claim7.holds Tryz.pinned (.plain (OpenSpec.ofChange parseRightSpec)) parseRightCard

/-- THE TIED CARD OF 'grillelaw07.ParseDocuments'. -/
def parseDocumentsCard : Claim7 := { stood := { row := parseDocumentsRow, standIns := [], harness := (true, "75d1999f3f8d1b83e4be6296b93725020030410fdfd0106881b9b2081e8b81f5"), looks := true }, kinds := [], alts := [], laidByText := true, laidKinds := [.data, .data, .pinned], laidTests := true, laidLooks := .later }
def ParseDocumentsCardSaid : Prop := Claim7.holds Tryz.pinned (.plain (OpenSpec.ofChange parseDocumentsSpec)) parseDocumentsCard

/-- THE TIED CARD OF 'grillelaw07.ParseShift'. -/
def parseShiftCard : Claim7 := { stood := { row := parseShiftRow, standIns := [], harness := (true, "75d1999f3f8d1b83e4be6296b93725020030410fdfd0106881b9b2081e8b81f5"), looks := true }, kinds := [], alts := [], laidByText := true, laidKinds := [.data, .data, .pinned], laidTests := true, laidLooks := .later }
def ParseShiftCardSaid : Prop := Claim7.holds Tryz.pinned (.plain (OpenSpec.ofChange parseShiftSpec)) parseShiftCard

/-- THE TIED CARD OF 'grillelaw07.ParseNested'. -/
def parseNestedCard : Claim7 := { stood := { row := parseNestedRow, standIns := [], harness := (true, "75d1999f3f8d1b83e4be6296b93725020030410fdfd0106881b9b2081e8b81f5"), looks := true }, kinds := [], alts := [], laidByText := true, laidKinds := [.data, .data, .pinned], laidTests := true, laidLooks := .later }
def ParseNestedCardSaid : Prop := Claim7.holds Tryz.pinned (.plain (OpenSpec.ofChange parseNestedSpec)) parseNestedCard

/-- THE TIED CARD OF 'grillelaw07.ParseOne'. -/
def parseOneCard : Claim7 := { stood := { row := parseOneRow, standIns := [], harness := (true, "75d1999f3f8d1b83e4be6296b93725020030410fdfd0106881b9b2081e8b81f5"), looks := true }, kinds := [], alts := [], laidByText := true, laidKinds := [.data, .data, .pinned], laidTests := true, laidLooks := .later }
def ParseOneCardSaid : Prop := Claim7.holds Tryz.pinned (.plain (OpenSpec.ofChange parseOneSpec)) parseOneCard

/-- THE TIED CARD OF 'grillelaw07.ParseRows'. -/
def parseRowsCard : Claim7 := { stood := { row := parseRowsRow, standIns := [], harness := (true, "75d1999f3f8d1b83e4be6296b93725020030410fdfd0106881b9b2081e8b81f5"), looks := true }, kinds := [], alts := [], laidByText := true, laidKinds := [.data, .data, .pinned], laidTests := true, laidLooks := .later }
def ParseRowsCardSaid : Prop := Claim7.holds Tryz.pinned (.plain (OpenSpec.ofChange parseRowsSpec)) parseRowsCard

/-- THE SECOND FORM's CARD OF 'grillelaw07.ParseText'. -/
def parseTextUptoCard : Claim7 := { stood := { row := parseTextUptoRow, standIns := [], harness := (true, "75d1999f3f8d1b83e4be6296b93725020030410fdfd0106881b9b2081e8b81f5"), looks := true }, kinds := [], alts := [], laidByText := true, laidKinds := [.data, .data, .pinned], laidTests := true, laidLooks := .later }
def ParseTextUptoCardSaid : Prop := Claim7.holds Tryz.pinned (.plain (OpenSpec.upto parseTextSpec)) parseTextUptoCard

/-- THE SECOND FORM's CARD OF 'grillelaw07.ParseRight'. -/
def parseRightUptoCard : Claim7 := { stood := { row := parseRightUptoRow, standIns := [], harness := (true, "75d1999f3f8d1b83e4be6296b93725020030410fdfd0106881b9b2081e8b81f5"), looks := true }, kinds := [], alts := [], laidByText := true, laidKinds := [.data, .data, .pinned], laidTests := true, laidLooks := .later }
def ParseRightUptoCardSaid : Prop := Claim7.holds Tryz.pinned (.plain (OpenSpec.upto parseRightSpec)) parseRightUptoCard

/-- THE SECOND FORM's CARD OF 'grillelaw07.ParseDocuments'. -/
def parseDocumentsUptoCard : Claim7 := { stood := { row := parseDocumentsUptoRow, standIns := [], harness := (true, "75d1999f3f8d1b83e4be6296b93725020030410fdfd0106881b9b2081e8b81f5"), looks := true }, kinds := [], alts := [], laidByText := true, laidKinds := [.data, .data, .pinned], laidTests := true, laidLooks := .later }
def ParseDocumentsUptoCardSaid : Prop := Claim7.holds Tryz.pinned (.plain (OpenSpec.upto parseDocumentsSpec)) parseDocumentsUptoCard

/-- THE SECOND FORM's CARD OF 'grillelaw07.ParseShift'. -/
def parseShiftUptoCard : Claim7 := { stood := { row := parseShiftUptoRow, standIns := [], harness := (true, "75d1999f3f8d1b83e4be6296b93725020030410fdfd0106881b9b2081e8b81f5"), looks := true }, kinds := [], alts := [], laidByText := true, laidKinds := [.data, .data, .pinned], laidTests := true, laidLooks := .later }
def ParseShiftUptoCardSaid : Prop := Claim7.holds Tryz.pinned (.plain (OpenSpec.upto parseShiftSpec)) parseShiftUptoCard

/-- THE SECOND FORM's CARD OF 'grillelaw07.ParseNested'. -/
def parseNestedUptoCard : Claim7 := { stood := { row := parseNestedUptoRow, standIns := [], harness := (true, "75d1999f3f8d1b83e4be6296b93725020030410fdfd0106881b9b2081e8b81f5"), looks := true }, kinds := [], alts := [], laidByText := true, laidKinds := [.data, .data, .pinned], laidTests := true, laidLooks := .later }
def ParseNestedUptoCardSaid : Prop := Claim7.holds Tryz.pinned (.plain (OpenSpec.upto parseNestedSpec)) parseNestedUptoCard

/-- THE SECOND FORM's CARD OF 'grillelaw07.ParseOne'. -/
def parseOneUptoCard : Claim7 := { stood := { row := parseOneUptoRow, standIns := [], harness := (true, "75d1999f3f8d1b83e4be6296b93725020030410fdfd0106881b9b2081e8b81f5"), looks := true }, kinds := [], alts := [], laidByText := true, laidKinds := [.data, .data, .pinned], laidTests := true, laidLooks := .later }
def ParseOneUptoCardSaid : Prop := Claim7.holds Tryz.pinned (.plain (OpenSpec.upto parseOneSpec)) parseOneUptoCard

/-- THE SECOND FORM's CARD OF 'grillelaw07.ParseRows'. -/
def parseRowsUptoCard : Claim7 := { stood := { row := parseRowsUptoRow, standIns := [], harness := (true, "75d1999f3f8d1b83e4be6296b93725020030410fdfd0106881b9b2081e8b81f5"), looks := true }, kinds := [], alts := [], laidByText := true, laidKinds := [.data, .data, .pinned], laidTests := true, laidLooks := .later }
def ParseRowsUptoCardSaid : Prop := Claim7.holds Tryz.pinned (.plain (OpenSpec.upto parseRowsSpec)) parseRowsUptoCard
end Rows
end Go.Proofs.YtjcfmghijfnehaaGreatDoor
