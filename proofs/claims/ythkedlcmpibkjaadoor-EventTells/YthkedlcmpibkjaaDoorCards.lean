/-
  DERIVED. GIVEN WITH THE SEED: THE CARDS: each row of YthkedlcmpibkjaaDoorRows.lean that lists a variable, with what it lists TIED to the program's text (the seventh form; the later family's looks); each row that meets fmt, with fmt's text TOLD by the authors' own Lean function (tested against real Go, not proved from fmt's source: count such statements apart). THE CARD IS WHAT COUNTS. Prove the row's statement (the work); the ties are given (YthkedlcmpibkjaaDoorTie.lean); close each card by the builder's one call (the guide's Derived/Test/ToyasCard.lean, 'card_holds'). Laid BY PROGRAM, IN A SANDBOX (cutbox-door.mjs). By AI agents, Wed Nov 11 2026. No macro, syntax, notation, axiom, sorry.
-/
import Derived.Test.YthkedlcmpibkjaaDoorRows
import GoSem.ClaimSeven
namespace Go.Proofs.YthkedlcmpibkjaaDoor
namespace Rows

/-- THE TIED CARD OF 'grillelaw06.EventTells'. -/
def eventTellsCard : Claim7 := { stood := { row := eventTellsRow, standIns := [], harness := (true, "9426953ca49e4bb8b8a68205f32fadfc87191ca128c61a0f1c2af5c0907da066"), looks := false }, kinds := [], alts := [], laidByText := true, laidKinds := [.data, .data, .data, .pinned], laidTests := true, laidLooks := .later }
def EventTellsCardSaid : Prop := Claim7.holds Tryd.pinned (.plain (OpenSpec.ofChange eventTellsSpec)) eventTellsCard

/-- THE TIED CARD OF 'grillelaw06.EventBack'. -/
def eventBackCard : Claim7 := { stood := { row := eventBackRow, standIns := [], harness := (true, "9426953ca49e4bb8b8a68205f32fadfc87191ca128c61a0f1c2af5c0907da066"), looks := false }, kinds := [], alts := [], laidByText := true, laidKinds := [.data, .data, .data, .pinned], laidTests := true, laidLooks := .later }
def EventBackCardSaid : Prop := Claim7.holds Tryd.pinned (.plain (OpenSpec.ofChange eventBackSpec)) eventBackCard

/-- THE TIED CARD OF 'grillelaw06.EventParts'. -/
def eventPartsCard : Claim7 := { stood := { row := eventPartsRow, standIns := [], harness := (true, "9426953ca49e4bb8b8a68205f32fadfc87191ca128c61a0f1c2af5c0907da066"), looks := false }, kinds := [], alts := [], laidByText := true, laidKinds := [.data, .data, .data, .pinned], laidTests := true, laidLooks := .later }
def EventPartsCardSaid : Prop := Claim7.holds Tryd.pinned (.plain (OpenSpec.ofChange eventPartsSpec)) eventPartsCard

/-- THE TIED CARD OF 'grillelaw06.EventWraps'. -/
def eventWrapsCard : Claim7 := { stood := { row := eventWrapsRow, standIns := [], harness := (true, "9426953ca49e4bb8b8a68205f32fadfc87191ca128c61a0f1c2af5c0907da066"), looks := false }, kinds := [], alts := [], laidByText := true, laidKinds := [.data, .data, .data, .pinned], laidTests := true, laidLooks := .later }
def EventWrapsCardSaid : Prop := Claim7.holds Tryd.pinned (.plain (OpenSpec.ofChange eventWrapsSpec)) eventWrapsCard

/-- THE TIED CARD OF 'grillelaw06.EventCut'. -/
def eventCutCard : Claim7 := { stood := { row := eventCutRow, standIns := [], harness := (true, "9426953ca49e4bb8b8a68205f32fadfc87191ca128c61a0f1c2af5c0907da066"), looks := false }, kinds := [], alts := [], laidByText := true, laidKinds := [.data, .data, .data, .pinned], laidTests := true, laidLooks := .later }
def EventCutCardSaid : Prop := Claim7.holds Tryd.pinned (.plain (OpenSpec.ofChange eventCutSpec)) eventCutCard

/-- THE SECOND FORM's CARD OF 'grillelaw06.EventTells'. -/
def eventTellsUptoCard : Claim7 := { stood := { row := eventTellsUptoRow, standIns := [], harness := (true, "9426953ca49e4bb8b8a68205f32fadfc87191ca128c61a0f1c2af5c0907da066"), looks := false }, kinds := [], alts := [], laidByText := true, laidKinds := [.data, .data, .data, .pinned], laidTests := true, laidLooks := .later }
def EventTellsUptoCardSaid : Prop := Claim7.holds Tryd.pinned (.plain (OpenSpec.upto eventTellsSpec)) eventTellsUptoCard

/-- THE SECOND FORM's CARD OF 'grillelaw06.EventBack'. -/
def eventBackUptoCard : Claim7 := { stood := { row := eventBackUptoRow, standIns := [], harness := (true, "9426953ca49e4bb8b8a68205f32fadfc87191ca128c61a0f1c2af5c0907da066"), looks := false }, kinds := [], alts := [], laidByText := true, laidKinds := [.data, .data, .data, .pinned], laidTests := true, laidLooks := .later }
def EventBackUptoCardSaid : Prop := Claim7.holds Tryd.pinned (.plain (OpenSpec.upto eventBackSpec)) eventBackUptoCard

/-- THE SECOND FORM's CARD OF 'grillelaw06.EventParts'. -/
def eventPartsUptoCard : Claim7 := { stood := { row := eventPartsUptoRow, standIns := [], harness := (true, "9426953ca49e4bb8b8a68205f32fadfc87191ca128c61a0f1c2af5c0907da066"), looks := false }, kinds := [], alts := [], laidByText := true, laidKinds := [.data, .data, .data, .pinned], laidTests := true, laidLooks := .later }
def EventPartsUptoCardSaid : Prop := Claim7.holds Tryd.pinned (.plain (OpenSpec.upto eventPartsSpec)) eventPartsUptoCard

/-- THE SECOND FORM's CARD OF 'grillelaw06.EventWraps'. -/
def eventWrapsUptoCard : Claim7 := { stood := { row := eventWrapsUptoRow, standIns := [], harness := (true, "9426953ca49e4bb8b8a68205f32fadfc87191ca128c61a0f1c2af5c0907da066"), looks := false }, kinds := [], alts := [], laidByText := true, laidKinds := [.data, .data, .data, .pinned], laidTests := true, laidLooks := .later }
def EventWrapsUptoCardSaid : Prop := Claim7.holds Tryd.pinned (.plain (OpenSpec.upto eventWrapsSpec)) eventWrapsUptoCard

/-- THE SECOND FORM's CARD OF 'grillelaw06.EventCut'. -/
def eventCutUptoCard : Claim7 := { stood := { row := eventCutUptoRow, standIns := [], harness := (true, "9426953ca49e4bb8b8a68205f32fadfc87191ca128c61a0f1c2af5c0907da066"), looks := false }, kinds := [], alts := [], laidByText := true, laidKinds := [.data, .data, .data, .pinned], laidTests := true, laidLooks := .later }
def EventCutUptoCardSaid : Prop := Claim7.holds Tryd.pinned (.plain (OpenSpec.upto eventCutSpec)) eventCutUptoCard
end Rows
end Go.Proofs.YthkedlcmpibkjaaDoor
