/-
  NARROWER THAN 'FOR EVERY INPUT', by the rows' own cells (each row's printed sentence says how): LinesParts: laid · LinesBlanks: laid · LinesLiteral: laid · LinesWords: laid · LinesIndents: laid.
  DERIVED. THE GIVEN ROWS OF THIS SEAT. 5 by the template 'for every input the law returns true; each argument reads behind the call as it read before'; 0 by the template 'total and deterministic' (their statements: YtmhakkahclbbjaaGreatDoorTotals.lean).
  GIVEN WITH THE SEED: the statements are not yours to turn. If you find one false, say at which input.
  Laid BY PROGRAM, IN A SANDBOX (cutbox-rows.mjs): the forced cells as the released guide's own fill.sh prints them over the translation 401ffb62ef17f689… (all of the seat's roots in one cut). By AI agents, Wed Nov 11 2026. No macro, syntax, notation, axiom, sorry.
-/
import Derived.Test.YtmhakkahclbbjaaGreatDoorChecked
import GoSem.PinnedTables
import GoSem.Claim
import GoSem.ClaimJoined
import GoSem.ClaimMapViews
import Derived.JoinedTies
import Derived.KernelRfl
namespace Go.Proofs.YtmhakkahclbbjaaGreatDoor
/- THE CELL 'sum', in the pinned program and in every row, IS THE sha256 OF THE DUMP (.gsa) THAT YtmhakkahclbbjaaGreatDoorProg.lean LOADS. Nothing in Lean hashes anything: it is a label: what it is worth is what the hold of that sum in a sandbox is worth. -/
noncomputable def Tryz.pinned : Pinned := { name := "ytmhakkahclbbjaagreatdoor", sum := "401ffb62ef17f6890f325dd7fcbddfd43115e0988f9579750397dd696ab309de", checked := Tryz.checked }
namespace Rows
def none {H : Type} : Left H := { results := [], args := [] }

/- WHAT THE LISTED PACKAGE-LEVEL VARIABLES READ AS WHEN THE CALL BEGINS. Each datum BY PROGRAM (the guide's laid-datum.mjs) off the statement by which the dump's own 'gosem.cut.vars' lays the variable. In a bare row this is a premise. The card (YtmhakkahclbbjaaGreatDoorCards.lean) ties it to the program's text. -/
def laid_unicode_utf8_acceptRanges {H : Type} : DataW H := .agg [.agg [.lit (.int .u8 128), .lit (.int .u8 191)], .agg [.lit (.int .u8 160), .lit (.int .u8 191)], .agg [.lit (.int .u8 128), .lit (.int .u8 159)], .agg [.lit (.int .u8 144), .lit (.int .u8 191)], .agg [.lit (.int .u8 128), .lit (.int .u8 143)], .agg [.lit (.int .u8 0), .lit (.int .u8 0)], .agg [.lit (.int .u8 0), .lit (.int .u8 0)], .agg [.lit (.int .u8 0), .lit (.int .u8 0)], .agg [.lit (.int .u8 0), .lit (.int .u8 0)], .agg [.lit (.int .u8 0), .lit (.int .u8 0)], .agg [.lit (.int .u8 0), .lit (.int .u8 0)], .agg [.lit (.int .u8 0), .lit (.int .u8 0)], .agg [.lit (.int .u8 0), .lit (.int .u8 0)], .agg [.lit (.int .u8 0), .lit (.int .u8 0)], .agg [.lit (.int .u8 0), .lit (.int .u8 0)], .agg [.lit (.int .u8 0), .lit (.int .u8 0)]]
def laid_grille_scalar_named {H : Type} : DataW H := .agg [.agg [.lit (.int .i32 34), .lit (.int .u8 34)], .agg [.lit (.int .i32 92), .lit (.int .u8 92)], .agg [.lit (.int .i32 0), .lit (.int .u8 48)], .agg [.lit (.int .i32 7), .lit (.int .u8 97)], .agg [.lit (.int .i32 8), .lit (.int .u8 98)], .agg [.lit (.int .i32 9), .lit (.int .u8 116)], .agg [.lit (.int .i32 10), .lit (.int .u8 110)], .agg [.lit (.int .i32 11), .lit (.int .u8 118)], .agg [.lit (.int .i32 12), .lit (.int .u8 102)], .agg [.lit (.int .i32 13), .lit (.int .u8 114)], .agg [.lit (.int .i32 27), .lit (.int .u8 101)], .agg [.lit (.int .i32 133), .lit (.int .u8 78)], .agg [.lit (.int .i32 160), .lit (.int .u8 95)], .agg [.lit (.int .i32 8232), .lit (.int .u8 76)], .agg [.lit (.int .i32 8233), .lit (.int .u8 80)]]
/-- One of Go's own tables, pinned by name: the form's constant. -/
def laid_unicode_utf8_first : DataW Unit := Go.Pinned.utf8First

/-- 'grillelaw05.LinesParts': WHATEVER THE INPUT: true; the input reads as it did. -/
def linesPartsSpec : ChangeSpec := { name := "linesParts", fn := fun _ => fun
  | [d1, d2] => { results := [.lit (.bool true)], args := [d1, d2] }
  | _ => none }
def linesPartsRow : OpenClaim := { program := "ytmhakkahclbbjaagreatdoor", sum := "401ffb62ef17f6890f325dd7fcbddfd43115e0988f9579750397dd696ab309de", func := "grille/grillelaw05.LinesParts", spec := "linesParts", inPlace := ["internal/bytealg.CountString", "internal/bytealg.IndexByteString", "internal/bytealg.IndexString", "internal/abi.NoEscape", "internal/bytealg.MakeNoZero"], unfollowed := true, recurses := true, named := ["unicode/utf8.first", "unicode/utf8.acceptRanges", "internal/bytealg.MaxLen", "grille/scalar.named"], apart := false, laid := [("unicode/utf8.acceptRanges", laid_unicode_utf8_acceptRanges), ("grille/scalar.named", laid_grille_scalar_named), ("unicode/utf8.first", laid_unicode_utf8_first)] }
def LinesPartsSaid : Prop := linesPartsRow.holds Tryz.pinned (OpenSpec.ofChange linesPartsSpec)

/-- ITS FALSE NEIGHBOUR: 'it returns false'. Refute it at one input. -/
def linesPartsWrong : ChangeSpec := { name := "linesParts", fn := fun _ => fun
  | [d1, d2] => { results := [.lit (.bool false)], args := [d1, d2] }
  | _ => none }
def LinesPartsWrongFalsely : Prop := linesPartsRow.holds Tryz.pinned (OpenSpec.ofChange linesPartsWrong)

/-- 'grillelaw05.LinesBlanks': WHATEVER THE INPUT: true; the input reads as it did. -/
def linesBlanksSpec : ChangeSpec := { name := "linesBlanks", fn := fun _ => fun
  | [d1, d2, d3] => { results := [.lit (.bool true)], args := [d1, d2, d3] }
  | _ => none }
def linesBlanksRow : OpenClaim := { program := "ytmhakkahclbbjaagreatdoor", sum := "401ffb62ef17f6890f325dd7fcbddfd43115e0988f9579750397dd696ab309de", func := "grille/grillelaw05.LinesBlanks", spec := "linesBlanks", inPlace := ["internal/bytealg.CountString", "internal/bytealg.IndexByteString", "internal/bytealg.IndexString", "internal/abi.NoEscape", "internal/bytealg.MakeNoZero"], unfollowed := true, recurses := true, named := ["unicode/utf8.first", "unicode/utf8.acceptRanges", "internal/bytealg.MaxLen", "grille/scalar.named"], apart := false, laid := [("unicode/utf8.acceptRanges", laid_unicode_utf8_acceptRanges), ("grille/scalar.named", laid_grille_scalar_named), ("unicode/utf8.first", laid_unicode_utf8_first)] }
def LinesBlanksSaid : Prop := linesBlanksRow.holds Tryz.pinned (OpenSpec.ofChange linesBlanksSpec)

/-- ITS FALSE NEIGHBOUR: 'it returns false'. Refute it at one input. -/
def linesBlanksWrong : ChangeSpec := { name := "linesBlanks", fn := fun _ => fun
  | [d1, d2, d3] => { results := [.lit (.bool false)], args := [d1, d2, d3] }
  | _ => none }
def LinesBlanksWrongFalsely : Prop := linesBlanksRow.holds Tryz.pinned (OpenSpec.ofChange linesBlanksWrong)

/-- 'grillelaw05.LinesLiteral': WHATEVER THE INPUT: true; the input reads as it did. -/
def linesLiteralSpec : ChangeSpec := { name := "linesLiteral", fn := fun _ => fun
  | [d1, d2, d3] => { results := [.lit (.bool true)], args := [d1, d2, d3] }
  | _ => none }
def linesLiteralRow : OpenClaim := { program := "ytmhakkahclbbjaagreatdoor", sum := "401ffb62ef17f6890f325dd7fcbddfd43115e0988f9579750397dd696ab309de", func := "grille/grillelaw05.LinesLiteral", spec := "linesLiteral", inPlace := ["internal/bytealg.CountString", "internal/bytealg.IndexByteString", "internal/bytealg.IndexString", "internal/abi.NoEscape", "internal/bytealg.MakeNoZero"], unfollowed := true, recurses := true, named := ["unicode/utf8.first", "unicode/utf8.acceptRanges", "internal/bytealg.MaxLen", "grille/scalar.named"], apart := false, laid := [("unicode/utf8.acceptRanges", laid_unicode_utf8_acceptRanges), ("grille/scalar.named", laid_grille_scalar_named), ("unicode/utf8.first", laid_unicode_utf8_first)] }
def LinesLiteralSaid : Prop := linesLiteralRow.holds Tryz.pinned (OpenSpec.ofChange linesLiteralSpec)

/-- ITS FALSE NEIGHBOUR: 'it returns false'. Refute it at one input. -/
def linesLiteralWrong : ChangeSpec := { name := "linesLiteral", fn := fun _ => fun
  | [d1, d2, d3] => { results := [.lit (.bool false)], args := [d1, d2, d3] }
  | _ => none }
def LinesLiteralWrongFalsely : Prop := linesLiteralRow.holds Tryz.pinned (OpenSpec.ofChange linesLiteralWrong)

/-- 'grillelaw05.LinesWords': WHATEVER THE INPUT: true; the input reads as it did. -/
def linesWordsSpec : ChangeSpec := { name := "linesWords", fn := fun _ => fun
  | [d] => { results := [.lit (.bool true)], args := [d] }
  | _ => none }
def linesWordsRow : OpenClaim := { program := "ytmhakkahclbbjaagreatdoor", sum := "401ffb62ef17f6890f325dd7fcbddfd43115e0988f9579750397dd696ab309de", func := "grille/grillelaw05.LinesWords", spec := "linesWords", inPlace := ["internal/bytealg.CountString", "internal/bytealg.IndexByteString", "internal/bytealg.IndexString", "internal/abi.NoEscape", "internal/bytealg.MakeNoZero"], unfollowed := true, recurses := true, named := ["unicode/utf8.first", "unicode/utf8.acceptRanges", "internal/bytealg.MaxLen", "grille/scalar.named"], apart := false, laid := [("unicode/utf8.acceptRanges", laid_unicode_utf8_acceptRanges), ("grille/scalar.named", laid_grille_scalar_named), ("unicode/utf8.first", laid_unicode_utf8_first)] }
def LinesWordsSaid : Prop := linesWordsRow.holds Tryz.pinned (OpenSpec.ofChange linesWordsSpec)

/-- ITS FALSE NEIGHBOUR: 'it returns false'. Refute it at one input. -/
def linesWordsWrong : ChangeSpec := { name := "linesWords", fn := fun _ => fun
  | [d] => { results := [.lit (.bool false)], args := [d] }
  | _ => none }
def LinesWordsWrongFalsely : Prop := linesWordsRow.holds Tryz.pinned (OpenSpec.ofChange linesWordsWrong)

/-- 'grillelaw05.LinesIndents': WHATEVER THE INPUT: true; the input reads as it did. -/
def linesIndentsSpec : ChangeSpec := { name := "linesIndents", fn := fun _ => fun
  | [d1, d2] => { results := [.lit (.bool true)], args := [d1, d2] }
  | _ => none }
def linesIndentsRow : OpenClaim := { program := "ytmhakkahclbbjaagreatdoor", sum := "401ffb62ef17f6890f325dd7fcbddfd43115e0988f9579750397dd696ab309de", func := "grille/grillelaw05.LinesIndents", spec := "linesIndents", inPlace := ["internal/bytealg.CountString", "internal/bytealg.IndexByteString", "internal/bytealg.IndexString", "internal/abi.NoEscape", "internal/bytealg.MakeNoZero"], unfollowed := true, recurses := true, named := ["unicode/utf8.first", "unicode/utf8.acceptRanges", "internal/bytealg.MaxLen", "grille/scalar.named"], apart := false, laid := [("unicode/utf8.acceptRanges", laid_unicode_utf8_acceptRanges), ("grille/scalar.named", laid_grille_scalar_named), ("unicode/utf8.first", laid_unicode_utf8_first)] }
def LinesIndentsSaid : Prop := linesIndentsRow.holds Tryz.pinned (OpenSpec.ofChange linesIndentsSpec)

/-- ITS FALSE NEIGHBOUR: 'it returns false'. Refute it at one input. -/
def linesIndentsWrong : ChangeSpec := { name := "linesIndents", fn := fun _ => fun
  | [d1, d2] => { results := [.lit (.bool false)], args := [d1, d2] }
  | _ => none }
def LinesIndentsWrongFalsely : Prop := linesIndentsRow.holds Tryz.pinned (OpenSpec.ofChange linesIndentsWrong)

/- THE SECOND FORM. 'bulk': how many values and letters a reading holds, each counted each time it is reached (what is shared counts as often as it is met; a slice's spare places count too). A statement '..UptoSaid' is the law's where the arguments, and the package variables that the reading takes, are together of bulk at most 1048576: NARROWER than '..Said'. Prove '..Said' where nothing that the law and all that it calls make is longer than what came in: it says more and counts as full. Else prove '..UptoSaid'. A law counts once. -/
mutual
def uptoBulk {H : Type} : DataW H → Nat
  | .lit (.string bytes) => bytes.length + 1
  | .lit _ => 1
  | .nil => 1
  | .ptr d => uptoBulk d + 1
  | .slice elems spare => uptoBulkAll elems + uptoBulkAll spare + 1
  | .agg parts => uptoBulkAll parts + 1
  | .iface _ d => uptoBulk d + 1
  | .map entries => uptoBulkEntries entries + 1
  | .held _ => 1
def uptoBulkAll {H : Type} : List (DataW H) → Nat
  | [] => 0
  | d :: r => uptoBulk d + uptoBulkAll r
def uptoBulkEntries {H : Type} : List (Lit × DataW H) → Nat
  | [] => 0
  | x :: r => uptoBulkEntry x + uptoBulkEntries r
def uptoBulkEntry {H : Type} : Lit × DataW H → Nat
  | (.string bytes, d) => bytes.length + uptoBulk d + 1
  | (_, d) => uptoBulk d + 1
 end
def uptoSmall : (H : Type) → List (DataW H) → Bool := fun _ ds => decide (uptoBulkAll ds ≤ 1048576)
def OpenSpec.upto (s : _root_.Go.ChangeSpec) : _root_.Go.OpenSpec := { _root_.Go.OpenSpec.ofChange s with cond := some uptoSmall }

/-- 'grillelaw05.LinesParts', WHERE WHAT IT READS IS OF BULK AT MOST 1048576: true; the input reads as it did. -/
def linesPartsUptoRow : OpenClaim := { program := "ytmhakkahclbbjaagreatdoor", sum := "401ffb62ef17f6890f325dd7fcbddfd43115e0988f9579750397dd696ab309de", func := "grille/grillelaw05.LinesParts", spec := "linesParts", inPlace := ["internal/bytealg.CountString", "internal/bytealg.IndexByteString", "internal/bytealg.IndexString", "internal/abi.NoEscape", "internal/bytealg.MakeNoZero"], unfollowed := true, recurses := true, named := ["unicode/utf8.first", "unicode/utf8.acceptRanges", "internal/bytealg.MaxLen", "grille/scalar.named"], apart := false, laid := [("unicode/utf8.acceptRanges", laid_unicode_utf8_acceptRanges), ("grille/scalar.named", laid_grille_scalar_named), ("unicode/utf8.first", laid_unicode_utf8_first)], narrowed := true }
def LinesPartsUptoSaid : Prop := linesPartsUptoRow.holds Tryz.pinned (OpenSpec.upto linesPartsSpec)

/-- 'grillelaw05.LinesBlanks', WHERE WHAT IT READS IS OF BULK AT MOST 1048576: true; the input reads as it did. -/
def linesBlanksUptoRow : OpenClaim := { program := "ytmhakkahclbbjaagreatdoor", sum := "401ffb62ef17f6890f325dd7fcbddfd43115e0988f9579750397dd696ab309de", func := "grille/grillelaw05.LinesBlanks", spec := "linesBlanks", inPlace := ["internal/bytealg.CountString", "internal/bytealg.IndexByteString", "internal/bytealg.IndexString", "internal/abi.NoEscape", "internal/bytealg.MakeNoZero"], unfollowed := true, recurses := true, named := ["unicode/utf8.first", "unicode/utf8.acceptRanges", "internal/bytealg.MaxLen", "grille/scalar.named"], apart := false, laid := [("unicode/utf8.acceptRanges", laid_unicode_utf8_acceptRanges), ("grille/scalar.named", laid_grille_scalar_named), ("unicode/utf8.first", laid_unicode_utf8_first)], narrowed := true }
def LinesBlanksUptoSaid : Prop := linesBlanksUptoRow.holds Tryz.pinned (OpenSpec.upto linesBlanksSpec)

/-- 'grillelaw05.LinesLiteral', WHERE WHAT IT READS IS OF BULK AT MOST 1048576: true; the input reads as it did. -/
def linesLiteralUptoRow : OpenClaim := { program := "ytmhakkahclbbjaagreatdoor", sum := "401ffb62ef17f6890f325dd7fcbddfd43115e0988f9579750397dd696ab309de", func := "grille/grillelaw05.LinesLiteral", spec := "linesLiteral", inPlace := ["internal/bytealg.CountString", "internal/bytealg.IndexByteString", "internal/bytealg.IndexString", "internal/abi.NoEscape", "internal/bytealg.MakeNoZero"], unfollowed := true, recurses := true, named := ["unicode/utf8.first", "unicode/utf8.acceptRanges", "internal/bytealg.MaxLen", "grille/scalar.named"], apart := false, laid := [("unicode/utf8.acceptRanges", laid_unicode_utf8_acceptRanges), ("grille/scalar.named", laid_grille_scalar_named), ("unicode/utf8.first", laid_unicode_utf8_first)], narrowed := true }
def LinesLiteralUptoSaid : Prop := linesLiteralUptoRow.holds Tryz.pinned (OpenSpec.upto linesLiteralSpec)

/-- 'grillelaw05.LinesWords', WHERE WHAT IT READS IS OF BULK AT MOST 1048576: true; the input reads as it did. -/
def linesWordsUptoRow : OpenClaim := { program := "ytmhakkahclbbjaagreatdoor", sum := "401ffb62ef17f6890f325dd7fcbddfd43115e0988f9579750397dd696ab309de", func := "grille/grillelaw05.LinesWords", spec := "linesWords", inPlace := ["internal/bytealg.CountString", "internal/bytealg.IndexByteString", "internal/bytealg.IndexString", "internal/abi.NoEscape", "internal/bytealg.MakeNoZero"], unfollowed := true, recurses := true, named := ["unicode/utf8.first", "unicode/utf8.acceptRanges", "internal/bytealg.MaxLen", "grille/scalar.named"], apart := false, laid := [("unicode/utf8.acceptRanges", laid_unicode_utf8_acceptRanges), ("grille/scalar.named", laid_grille_scalar_named), ("unicode/utf8.first", laid_unicode_utf8_first)], narrowed := true }
def LinesWordsUptoSaid : Prop := linesWordsUptoRow.holds Tryz.pinned (OpenSpec.upto linesWordsSpec)

/-- 'grillelaw05.LinesIndents', WHERE WHAT IT READS IS OF BULK AT MOST 1048576: true; the input reads as it did. -/
def linesIndentsUptoRow : OpenClaim := { program := "ytmhakkahclbbjaagreatdoor", sum := "401ffb62ef17f6890f325dd7fcbddfd43115e0988f9579750397dd696ab309de", func := "grille/grillelaw05.LinesIndents", spec := "linesIndents", inPlace := ["internal/bytealg.CountString", "internal/bytealg.IndexByteString", "internal/bytealg.IndexString", "internal/abi.NoEscape", "internal/bytealg.MakeNoZero"], unfollowed := true, recurses := true, named := ["unicode/utf8.first", "unicode/utf8.acceptRanges", "internal/bytealg.MaxLen", "grille/scalar.named"], apart := false, laid := [("unicode/utf8.acceptRanges", laid_unicode_utf8_acceptRanges), ("grille/scalar.named", laid_grille_scalar_named), ("unicode/utf8.first", laid_unicode_utf8_first)], narrowed := true }
def LinesIndentsUptoSaid : Prop := linesIndentsUptoRow.holds Tryz.pinned (OpenSpec.upto linesIndentsSpec)

end Rows
end Go.Proofs.YtmhakkahclbbjaaGreatDoor
