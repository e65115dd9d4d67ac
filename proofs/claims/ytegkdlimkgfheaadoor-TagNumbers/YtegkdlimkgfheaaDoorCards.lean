/-
  DERIVED. GIVEN WITH THE SEED: THE CARDS: each row of YtegkdlimkgfheaaDoorRows.lean that lists a variable, with what it lists TIED to the program's text (the seventh form; the later family's looks); each row that meets fmt, with fmt's text TOLD by the authors' own Lean function (tested against real Go, not proved from fmt's source: count such statements apart). THE CARD IS WHAT COUNTS. Prove the row's statement (the work); the ties are given (YtegkdlimkgfheaaDoorTie.lean); close each card by the builder's one call (the guide's Derived/Test/ToyasCard.lean, 'card_holds'). Laid BY PROGRAM, IN A SANDBOX (cutbox-door.mjs). By AI agents, Wed Nov 11 2026. No macro, syntax, notation, axiom, sorry.
-/
import Derived.Test.YtegkdlimkgfheaaDoorRows
import GoSem.ClaimSeven
namespace Go.Proofs.YtegkdlimkgfheaaDoor
namespace Rows

/-- THE TIED CARD OF 'grillelaw03.TagNumbers'. -/
def tagNumbersCard : Claim7 := { stood := { row := tagNumbersRow, standIns := [], harness := (true, "14255e2076d6697d56f0745d48f837ed83b18a595064b9c91c311e7e5423e60d"), looks := false }, kinds := [], alts := [], laidByText := true, laidKinds := [.data, .data, .data, .data, .pinned, .pinned], laidTests := true, laidLooks := .later }
def TagNumbersCardSaid : Prop := Claim7.holds Tryd.pinned (.plain (OpenSpec.ofChange tagNumbersSpec)) tagNumbersCard

/-- THE SECOND FORM's CARD OF 'grillelaw03.TagNumbers'. -/
def tagNumbersUptoCard : Claim7 := { stood := { row := tagNumbersUptoRow, standIns := [], harness := (true, "14255e2076d6697d56f0745d48f837ed83b18a595064b9c91c311e7e5423e60d"), looks := false }, kinds := [], alts := [], laidByText := true, laidKinds := [.data, .data, .data, .data, .pinned, .pinned], laidTests := true, laidLooks := .later }
def TagNumbersUptoCardSaid : Prop := Claim7.holds Tryd.pinned (.plain (OpenSpec.upto tagNumbersSpec)) tagNumbersUptoCard
end Rows
end Go.Proofs.YtegkdlimkgfheaaDoor
