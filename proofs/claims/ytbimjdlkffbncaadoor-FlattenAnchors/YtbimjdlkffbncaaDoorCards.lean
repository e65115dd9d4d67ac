/-
  DERIVED. GIVEN WITH THE SEED: THE CARDS: each row of YtbimjdlkffbncaaDoorRows.lean that lists a variable, with what it lists TIED to the program's text (the seventh form; the later family's looks); each row that meets fmt, with fmt's text TOLD by the authors' own Lean function (tested against real Go, not proved from fmt's source: count such statements apart). THE CARD IS WHAT COUNTS. Prove the row's statement (the work); the ties are given (YtbimjdlkffbncaaDoorTie.lean); close each card by the builder's one call (the guide's Derived/Test/ToyasCard.lean, 'card_holds'). Laid BY PROGRAM, IN A SANDBOX (cutbox-door.mjs). By AI agents, Wed Nov 11 2026. No macro, syntax, notation, axiom, sorry.
-/
import Derived.Test.YtbimjdlkffbncaaDoorRows
import GoSem.ClaimSeven
namespace Go.Proofs.YtbimjdlkffbncaaDoor
namespace Rows

/-- THE TIED CARD OF 'grillelaw09.ComposeTells'. -/
def composeTellsCard : Claim7 := { stood := { row := composeTellsRow, standIns := [], harness := (true, "bbab303b308ba92785cb09b344de7913e10db853ccb98719f06eafa1b621cf45"), looks := false }, kinds := [], alts := [], laidByText := true, laidKinds := [.data, .pinned], laidTests := true, laidLooks := .later }
def ComposeTellsCardSaid : Prop := Claim7.holds Tryd.pinned (.plain (OpenSpec.ofChange composeTellsSpec)) composeTellsCard

/-- THE TIED CARD OF 'grillelaw09.ComposeTags'. -/
def composeTagsCard : Claim7 := { stood := { row := composeTagsRow, standIns := [], harness := (true, "bbab303b308ba92785cb09b344de7913e10db853ccb98719f06eafa1b621cf45"), looks := false }, kinds := [], alts := [], laidByText := true, laidKinds := [.data, .pinned], laidTests := true, laidLooks := .later }
def ComposeTagsCardSaid : Prop := Claim7.holds Tryd.pinned (.plain (OpenSpec.ofChange composeTagsSpec)) composeTagsCard

/-- THE TIED CARD OF 'grillelaw09.ComposeRight'. -/
def composeRightCard : Claim7 := { stood := { row := composeRightRow, standIns := [], harness := (true, "bbab303b308ba92785cb09b344de7913e10db853ccb98719f06eafa1b621cf45"), looks := false }, kinds := [], alts := [], laidByText := true, laidKinds := [.data, .pinned], laidTests := true, laidLooks := .later }
def ComposeRightCardSaid : Prop := Claim7.holds Tryd.pinned (.plain (OpenSpec.ofChange composeRightSpec)) composeRightCard

/-- THE TIED CARD OF 'grillelaw09.ComposeParts'. -/
def composePartsCard : Claim7 := { stood := { row := composePartsRow, standIns := [], harness := (true, "bbab303b308ba92785cb09b344de7913e10db853ccb98719f06eafa1b621cf45"), looks := false }, kinds := [], alts := [], laidByText := true, laidKinds := [.data, .pinned], laidTests := true, laidLooks := .later }
def ComposePartsCardSaid : Prop := Claim7.holds Tryd.pinned (.plain (OpenSpec.ofChange composePartsSpec)) composePartsCard

/-- THE TIED CARD OF 'grillelaw09.ComposeNames'. -/
def composeNamesCard : Claim7 := { stood := { row := composeNamesRow, standIns := [], harness := (true, "bbab303b308ba92785cb09b344de7913e10db853ccb98719f06eafa1b621cf45"), looks := false }, kinds := [], alts := [], laidByText := true, laidKinds := [.data, .pinned], laidTests := true, laidLooks := .later }
def ComposeNamesCardSaid : Prop := Claim7.holds Tryd.pinned (.plain (OpenSpec.ofChange composeNamesSpec)) composeNamesCard

/-- THE TIED CARD OF 'grillelaw10.FlattenSame'. -/
def flattenSameCard : Claim7 := { stood := { row := flattenSameRow, standIns := [], harness := (true, "bbab303b308ba92785cb09b344de7913e10db853ccb98719f06eafa1b621cf45"), looks := false }, kinds := [], alts := [], laidByText := true, laidKinds := [.data, .data, .data, .data, .pinned], laidTests := true, laidLooks := .later }
def FlattenSameCardSaid : Prop := Claim7.holds Tryd.pinned (.plain (OpenSpec.ofChange flattenSameSpec)) flattenSameCard

/-- THE TIED CARD OF 'grillelaw10.FlattenAnchors'. -/
def flattenAnchorsCard : Claim7 := { stood := { row := flattenAnchorsRow, standIns := [], harness := (true, "bbab303b308ba92785cb09b344de7913e10db853ccb98719f06eafa1b621cf45"), looks := false }, kinds := [], alts := [], laidByText := true, laidKinds := [.data, .data, .data, .data, .pinned], laidTests := true, laidLooks := .later }
def FlattenAnchorsCardSaid : Prop := Claim7.holds Tryd.pinned (.plain (OpenSpec.ofChange flattenAnchorsSpec)) flattenAnchorsCard

/-- THE TIED CARD OF 'grillelaw10.FlattenOne'. -/
def flattenOneCard : Claim7 := { stood := { row := flattenOneRow, standIns := [], harness := (true, "bbab303b308ba92785cb09b344de7913e10db853ccb98719f06eafa1b621cf45"), looks := false }, kinds := [], alts := [], laidByText := true, laidKinds := [.data, .data, .data, .data, .pinned], laidTests := true, laidLooks := .later }
def FlattenOneCardSaid : Prop := Claim7.holds Tryd.pinned (.plain (OpenSpec.ofChange flattenOneSpec)) flattenOneCard

/-- THE TIED CARD OF 'grillelaw10.FlattenTag'. -/
def flattenTagCard : Claim7 := { stood := { row := flattenTagRow, standIns := [], harness := (true, "bbab303b308ba92785cb09b344de7913e10db853ccb98719f06eafa1b621cf45"), looks := false }, kinds := [], alts := [], laidByText := true, laidKinds := [.data, .data, .data, .data, .pinned], laidTests := true, laidLooks := .later }
def FlattenTagCardSaid : Prop := Claim7.holds Tryd.pinned (.plain (OpenSpec.ofChange flattenTagSpec)) flattenTagCard

/-- THE SECOND FORM's CARD OF 'grillelaw09.ComposeTells'. -/
def composeTellsUptoCard : Claim7 := { stood := { row := composeTellsUptoRow, standIns := [], harness := (true, "bbab303b308ba92785cb09b344de7913e10db853ccb98719f06eafa1b621cf45"), looks := false }, kinds := [], alts := [], laidByText := true, laidKinds := [.data, .pinned], laidTests := true, laidLooks := .later }
def ComposeTellsUptoCardSaid : Prop := Claim7.holds Tryd.pinned (.plain (OpenSpec.upto composeTellsSpec)) composeTellsUptoCard

/-- THE SECOND FORM's CARD OF 'grillelaw09.ComposeTags'. -/
def composeTagsUptoCard : Claim7 := { stood := { row := composeTagsUptoRow, standIns := [], harness := (true, "bbab303b308ba92785cb09b344de7913e10db853ccb98719f06eafa1b621cf45"), looks := false }, kinds := [], alts := [], laidByText := true, laidKinds := [.data, .pinned], laidTests := true, laidLooks := .later }
def ComposeTagsUptoCardSaid : Prop := Claim7.holds Tryd.pinned (.plain (OpenSpec.upto composeTagsSpec)) composeTagsUptoCard

/-- THE SECOND FORM's CARD OF 'grillelaw09.ComposeRight'. -/
def composeRightUptoCard : Claim7 := { stood := { row := composeRightUptoRow, standIns := [], harness := (true, "bbab303b308ba92785cb09b344de7913e10db853ccb98719f06eafa1b621cf45"), looks := false }, kinds := [], alts := [], laidByText := true, laidKinds := [.data, .pinned], laidTests := true, laidLooks := .later }
def ComposeRightUptoCardSaid : Prop := Claim7.holds Tryd.pinned (.plain (OpenSpec.upto composeRightSpec)) composeRightUptoCard

/-- THE SECOND FORM's CARD OF 'grillelaw09.ComposeParts'. -/
def composePartsUptoCard : Claim7 := { stood := { row := composePartsUptoRow, standIns := [], harness := (true, "bbab303b308ba92785cb09b344de7913e10db853ccb98719f06eafa1b621cf45"), looks := false }, kinds := [], alts := [], laidByText := true, laidKinds := [.data, .pinned], laidTests := true, laidLooks := .later }
def ComposePartsUptoCardSaid : Prop := Claim7.holds Tryd.pinned (.plain (OpenSpec.upto composePartsSpec)) composePartsUptoCard

/-- THE SECOND FORM's CARD OF 'grillelaw09.ComposeNames'. -/
def composeNamesUptoCard : Claim7 := { stood := { row := composeNamesUptoRow, standIns := [], harness := (true, "bbab303b308ba92785cb09b344de7913e10db853ccb98719f06eafa1b621cf45"), looks := false }, kinds := [], alts := [], laidByText := true, laidKinds := [.data, .pinned], laidTests := true, laidLooks := .later }
def ComposeNamesUptoCardSaid : Prop := Claim7.holds Tryd.pinned (.plain (OpenSpec.upto composeNamesSpec)) composeNamesUptoCard

/-- THE SECOND FORM's CARD OF 'grillelaw10.FlattenSame'. -/
def flattenSameUptoCard : Claim7 := { stood := { row := flattenSameUptoRow, standIns := [], harness := (true, "bbab303b308ba92785cb09b344de7913e10db853ccb98719f06eafa1b621cf45"), looks := false }, kinds := [], alts := [], laidByText := true, laidKinds := [.data, .data, .data, .data, .pinned], laidTests := true, laidLooks := .later }
def FlattenSameUptoCardSaid : Prop := Claim7.holds Tryd.pinned (.plain (OpenSpec.upto flattenSameSpec)) flattenSameUptoCard

/-- THE SECOND FORM's CARD OF 'grillelaw10.FlattenAnchors'. -/
def flattenAnchorsUptoCard : Claim7 := { stood := { row := flattenAnchorsUptoRow, standIns := [], harness := (true, "bbab303b308ba92785cb09b344de7913e10db853ccb98719f06eafa1b621cf45"), looks := false }, kinds := [], alts := [], laidByText := true, laidKinds := [.data, .data, .data, .data, .pinned], laidTests := true, laidLooks := .later }
def FlattenAnchorsUptoCardSaid : Prop := Claim7.holds Tryd.pinned (.plain (OpenSpec.upto flattenAnchorsSpec)) flattenAnchorsUptoCard

/-- THE SECOND FORM's CARD OF 'grillelaw10.FlattenOne'. -/
def flattenOneUptoCard : Claim7 := { stood := { row := flattenOneUptoRow, standIns := [], harness := (true, "bbab303b308ba92785cb09b344de7913e10db853ccb98719f06eafa1b621cf45"), looks := false }, kinds := [], alts := [], laidByText := true, laidKinds := [.data, .data, .data, .data, .pinned], laidTests := true, laidLooks := .later }
def FlattenOneUptoCardSaid : Prop := Claim7.holds Tryd.pinned (.plain (OpenSpec.upto flattenOneSpec)) flattenOneUptoCard

/-- THE SECOND FORM's CARD OF 'grillelaw10.FlattenTag'. -/
def flattenTagUptoCard : Claim7 := { stood := { row := flattenTagUptoRow, standIns := [], harness := (true, "bbab303b308ba92785cb09b344de7913e10db853ccb98719f06eafa1b621cf45"), looks := false }, kinds := [], alts := [], laidByText := true, laidKinds := [.data, .data, .data, .data, .pinned], laidTests := true, laidLooks := .later }
def FlattenTagUptoCardSaid : Prop := Claim7.holds Tryd.pinned (.plain (OpenSpec.upto flattenTagSpec)) flattenTagUptoCard
end Rows
end Go.Proofs.YtbimjdlkffbncaaDoor
