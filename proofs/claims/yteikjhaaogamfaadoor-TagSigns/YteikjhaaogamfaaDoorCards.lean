/-
  DERIVED. GIVEN WITH THE SEED: THE CARDS: each row of YteikjhaaogamfaaDoorRows.lean that lists a variable, with what it lists TIED to the program's text (the seventh form; the later family's looks); each row that meets fmt, with fmt's text TOLD by the authors' own Lean function (tested against real Go, not proved from fmt's source: count such statements apart). THE CARD IS WHAT COUNTS. Prove the row's statement (the work); the ties are given (YteikjhaaogamfaaDoorTie.lean); close each card by the builder's one call (the guide's Derived/Test/ToyasCard.lean, 'card_holds'). Laid BY PROGRAM, IN A SANDBOX (cutbox-door.mjs). By AI agents, Wed Nov 11 2026. No macro, syntax, notation, axiom, sorry.
-/
import Derived.Test.YteikjhaaogamfaaDoorRows
import GoSem.ClaimSeven
namespace Go.Proofs.YteikjhaaogamfaaDoor
namespace Rows

/-- THE TIED CARD OF 'grillelaw03.TagSigns'. -/
def tagSignsCard : Claim7 := { stood := { row := tagSignsRow, standIns := [], harness := (true, "a308adc5d50f5c3caff0412b64a17d2fc7e1aca06f306d0126bf81d0fe2f4f89"), looks := false }, kinds := [], alts := [], laidByText := true, laidKinds := [.data, .pinned], laidTests := true, laidLooks := .later }
def TagSignsCardSaid : Prop := Claim7.holds Tryd.pinned (.plain (OpenSpec.ofChange tagSignsSpec)) tagSignsCard

/-- THE SECOND FORM's CARD OF 'grillelaw03.TagSigns'. -/
def tagSignsUptoCard : Claim7 := { stood := { row := tagSignsUptoRow, standIns := [], harness := (true, "a308adc5d50f5c3caff0412b64a17d2fc7e1aca06f306d0126bf81d0fe2f4f89"), looks := false }, kinds := [], alts := [], laidByText := true, laidKinds := [.data, .pinned], laidTests := true, laidLooks := .later }
def TagSignsUptoCardSaid : Prop := Claim7.holds Tryd.pinned (.plain (OpenSpec.upto tagSignsSpec)) tagSignsUptoCard
end Rows
end Go.Proofs.YteikjhaaogamfaaDoor
