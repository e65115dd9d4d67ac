/-
  DERIVED. GIVEN WITH THE SEED: THE CARDS: each row of YthkedlcmpibkjaaGreatDoorRows.lean that lists a variable, with what it lists TIED to the program's text (the seventh form; the later family's looks); each row that meets fmt, with fmt's text TOLD by the authors' own Lean function (tested against real Go, not proved from fmt's source: count such statements apart). THE CARD IS WHAT COUNTS. Prove the row's statement (the work); the ties are given (YthkedlcmpibkjaaGreatDoorTie.lean); close each card by the builder's one call (the guide's Derived/Test/ToyasCard.lean, 'card_holds'). Laid BY PROGRAM, IN A SANDBOX (cutbox-door.mjs). By AI agents, Wed Nov 11 2026. No macro, syntax, notation, axiom, sorry.
-/
import Derived.Test.YthkedlcmpibkjaaGreatDoorRows
import GoSem.ClaimSeven
namespace Go.Proofs.YthkedlcmpibkjaaGreatDoor
namespace Rows

/-- THE TIED CARD OF 'grillelaw06.EventReads'. -/
def eventReadsCard : Claim7 := { stood := { row := eventReadsRow, standIns := [], harness := (true, "86fc63450da6cc4f6ed3dbe617247039638aa0bb3d39ae9a6637b16c241b1a57"), looks := false }, kinds := [], alts := [], laidByText := true, laidKinds := [.data, .data, .data, .pinned], laidTests := true, laidLooks := .later }
def EventReadsCardSaid : Prop := Claim7.holds Tryz.pinned (.plain (OpenSpec.ofChange eventReadsSpec)) eventReadsCard

/-- THE SECOND FORM's CARD OF 'grillelaw06.EventReads'. -/
def eventReadsUptoCard : Claim7 := { stood := { row := eventReadsUptoRow, standIns := [], harness := (true, "86fc63450da6cc4f6ed3dbe617247039638aa0bb3d39ae9a6637b16c241b1a57"), looks := false }, kinds := [], alts := [], laidByText := true, laidKinds := [.data, .data, .data, .pinned], laidTests := true, laidLooks := .later }
def EventReadsUptoCardSaid : Prop := Claim7.holds Tryz.pinned (.plain (OpenSpec.upto eventReadsSpec)) eventReadsUptoCard
end Rows
end Go.Proofs.YthkedlcmpibkjaaGreatDoor
