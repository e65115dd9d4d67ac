/-
  DERIVED. GIVEN WITH THE SEED: THE CARDS: each row of YtnlbnnnhmdjciaaDoorRows.lean that lists a variable, with what it lists TIED to the program's text (the seventh form; the later family's looks); each row that meets fmt, with fmt's text TOLD by the authors' own Lean function (tested against real Go, not proved from fmt's source: count such statements apart). THE CARD IS WHAT COUNTS. Prove the row's statement (the work); the ties are given (YtnlbnnnhmdjciaaDoorTie.lean); close each card by the builder's one call (the guide's Derived/Test/ToyasCard.lean, 'card_holds'). Laid BY PROGRAM, IN A SANDBOX (cutbox-door.mjs). By AI agents, Wed Nov 11 2026. No macro, syntax, notation, axiom, sorry.
-/
import Derived.Test.YtnlbnnnhmdjciaaDoorRows
import GoSem.ClaimSeven
namespace Go.Proofs.YtnlbnnnhmdjciaaDoor
namespace Rows

/-- THE TIED CARD OF 'grillelaw08.ArenaSame'. -/
def arenaSameCard : Claim7 := { stood := { row := arenaSameRow, standIns := [], harness := (true, "2766a33e2c91d424a4152b928a4df11451873f318f04d89646ce8c86cae9c4a3"), looks := false }, kinds := [], alts := [], laidByText := true, laidKinds := [.data, .data, .data, .data, .data, .pinned], laidTests := true, laidLooks := .later }
def ArenaSameCardSaid : Prop := Claim7.holds Tryd.pinned (.plain (OpenSpec.ofChange arenaSameSpec)) arenaSameCard

/-- THE TIED CARD OF 'grillelaw08.ArenaNormal'. -/
def arenaNormalCard : Claim7 := { stood := { row := arenaNormalRow, standIns := [], harness := (true, "2766a33e2c91d424a4152b928a4df11451873f318f04d89646ce8c86cae9c4a3"), looks := false }, kinds := [], alts := [], laidByText := true, laidKinds := [.data, .data, .data, .data, .data, .pinned], laidTests := true, laidLooks := .later }
def ArenaNormalCardSaid : Prop := Claim7.holds Tryd.pinned (.plain (OpenSpec.ofChange arenaNormalSpec)) arenaNormalCard

/-- THE TIED CARD OF 'grillelaw08.ArenaNumbers'. -/
def arenaNumbersCard : Claim7 := { stood := { row := arenaNumbersRow, standIns := [], harness := (true, "2766a33e2c91d424a4152b928a4df11451873f318f04d89646ce8c86cae9c4a3"), looks := false }, kinds := [], alts := [], laidByText := true, laidKinds := [.data, .data, .data, .data, .data, .pinned], laidTests := true, laidLooks := .later }
def ArenaNumbersCardSaid : Prop := Claim7.holds Tryd.pinned (.plain (OpenSpec.ofChange arenaNumbersSpec)) arenaNumbersCard

/-- THE TIED CARD OF 'grillelaw08.ArenaTurned'. -/
def arenaTurnedCard : Claim7 := { stood := { row := arenaTurnedRow, standIns := [], harness := (true, "2766a33e2c91d424a4152b928a4df11451873f318f04d89646ce8c86cae9c4a3"), looks := false }, kinds := [], alts := [], laidByText := true, laidKinds := [.data, .data, .data, .data, .data, .pinned], laidTests := true, laidLooks := .later }
def ArenaTurnedCardSaid : Prop := Claim7.holds Tryd.pinned (.plain (OpenSpec.ofChange arenaTurnedSpec)) arenaTurnedCard

/-- THE TIED CARD OF 'grillelaw08.ArenaSum'. -/
def arenaSumCard : Claim7 := { stood := { row := arenaSumRow, standIns := [], harness := (true, "2766a33e2c91d424a4152b928a4df11451873f318f04d89646ce8c86cae9c4a3"), looks := false }, kinds := [], alts := [], laidByText := true, laidKinds := [.data, .data, .data, .data, .data, .pinned], laidTests := true, laidLooks := .later }
def ArenaSumCardSaid : Prop := Claim7.holds Tryd.pinned (.plain (OpenSpec.ofChange arenaSumSpec)) arenaSumCard

/-- THE SECOND FORM's CARD OF 'grillelaw08.ArenaSame'. -/
def arenaSameUptoCard : Claim7 := { stood := { row := arenaSameUptoRow, standIns := [], harness := (true, "2766a33e2c91d424a4152b928a4df11451873f318f04d89646ce8c86cae9c4a3"), looks := false }, kinds := [], alts := [], laidByText := true, laidKinds := [.data, .data, .data, .data, .data, .pinned], laidTests := true, laidLooks := .later }
def ArenaSameUptoCardSaid : Prop := Claim7.holds Tryd.pinned (.plain (OpenSpec.upto arenaSameSpec)) arenaSameUptoCard

/-- THE SECOND FORM's CARD OF 'grillelaw08.ArenaNormal'. -/
def arenaNormalUptoCard : Claim7 := { stood := { row := arenaNormalUptoRow, standIns := [], harness := (true, "2766a33e2c91d424a4152b928a4df11451873f318f04d89646ce8c86cae9c4a3"), looks := false }, kinds := [], alts := [], laidByText := true, laidKinds := [.data, .data, .data, .data, .data, .pinned], laidTests := true, laidLooks := .later }
def ArenaNormalUptoCardSaid : Prop := Claim7.holds Tryd.pinned (.plain (OpenSpec.upto arenaNormalSpec)) arenaNormalUptoCard

/-- THE SECOND FORM's CARD OF 'grillelaw08.ArenaNumbers'. -/
def arenaNumbersUptoCard : Claim7 := { stood := { row := arenaNumbersUptoRow, standIns := [], harness := (true, "2766a33e2c91d424a4152b928a4df11451873f318f04d89646ce8c86cae9c4a3"), looks := false }, kinds := [], alts := [], laidByText := true, laidKinds := [.data, .data, .data, .data, .data, .pinned], laidTests := true, laidLooks := .later }
def ArenaNumbersUptoCardSaid : Prop := Claim7.holds Tryd.pinned (.plain (OpenSpec.upto arenaNumbersSpec)) arenaNumbersUptoCard

/-- THE SECOND FORM's CARD OF 'grillelaw08.ArenaTurned'. -/
def arenaTurnedUptoCard : Claim7 := { stood := { row := arenaTurnedUptoRow, standIns := [], harness := (true, "2766a33e2c91d424a4152b928a4df11451873f318f04d89646ce8c86cae9c4a3"), looks := false }, kinds := [], alts := [], laidByText := true, laidKinds := [.data, .data, .data, .data, .data, .pinned], laidTests := true, laidLooks := .later }
def ArenaTurnedUptoCardSaid : Prop := Claim7.holds Tryd.pinned (.plain (OpenSpec.upto arenaTurnedSpec)) arenaTurnedUptoCard

/-- THE SECOND FORM's CARD OF 'grillelaw08.ArenaSum'. -/
def arenaSumUptoCard : Claim7 := { stood := { row := arenaSumUptoRow, standIns := [], harness := (true, "2766a33e2c91d424a4152b928a4df11451873f318f04d89646ce8c86cae9c4a3"), looks := false }, kinds := [], alts := [], laidByText := true, laidKinds := [.data, .data, .data, .data, .data, .pinned], laidTests := true, laidLooks := .later }
def ArenaSumUptoCardSaid : Prop := Claim7.holds Tryd.pinned (.plain (OpenSpec.upto arenaSumSpec)) arenaSumUptoCard
end Rows
end Go.Proofs.YtnlbnnnhmdjciaaDoor
