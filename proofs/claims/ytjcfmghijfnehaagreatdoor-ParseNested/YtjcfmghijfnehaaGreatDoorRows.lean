/-
  NARROWER THAN 'FOR EVERY INPUT', by the rows' own cells (each row's printed sentence says how): ParseText: laid · ParseRight: laid · ParseDocuments: laid · ParseShift: laid · ParseNested: laid · ParseOne: laid · ParseRows: laid.
  DERIVED. THE GIVEN ROWS OF THIS SEAT. 7 by the template 'for every input the law returns true; each argument reads behind the call as it read before'; 0 by the template 'total and deterministic' (their statements: YtjcfmghijfnehaaGreatDoorTotals.lean).
  GIVEN WITH THE SEED: the statements are not yours to turn. If you find one false, say at which input.
  Laid BY PROGRAM, IN A SANDBOX (cutbox-rows.mjs): the forced cells as the released guide's own fill.sh prints them over the translation 8010a7620ca0b149… (all of the seat's roots in one cut). By AI agents, Wed Nov 11 2026. No macro, syntax, notation, axiom, sorry.
-/
import Derived.Test.YtjcfmghijfnehaaGreatDoorChecked
import GoSem.PinnedTables
import GoSem.Claim
import GoSem.ClaimJoined
import GoSem.ClaimMapViews
import Derived.JoinedTies
import Derived.KernelRfl
namespace Go.Proofs.YtjcfmghijfnehaaGreatDoor
/- THE CELL 'sum', in the pinned program and in every row, IS THE sha256 OF THE DUMP (.gsa) THAT YtjcfmghijfnehaaGreatDoorProg.lean LOADS. Nothing in Lean hashes anything: it is a label: what it is worth is what the hold of that sum in a sandbox is worth. -/
noncomputable def Tryz.pinned : Pinned := { name := "ytjcfmghijfnehaagreatdoor", sum := "8010a7620ca0b1497b65fb2f668a8a7e4ca7a6c9600effef792f2a474f97e0d9", checked := Tryz.checked }
namespace Rows
def none {H : Type} : Left H := { results := [], args := [] }

/- WHAT THE LISTED PACKAGE-LEVEL VARIABLES READ AS WHEN THE CALL BEGINS. Each datum BY PROGRAM (the guide's laid-datum.mjs) off the statement by which the dump's own 'gosem.cut.vars' lays the variable. In a bare row this is a premise. The card (YtjcfmghijfnehaaGreatDoorCards.lean) ties it to the program's text. -/
def laid_unicode_utf8_acceptRanges {H : Type} : DataW H := .agg [.agg [.lit (.int .u8 128), .lit (.int .u8 191)], .agg [.lit (.int .u8 160), .lit (.int .u8 191)], .agg [.lit (.int .u8 128), .lit (.int .u8 159)], .agg [.lit (.int .u8 144), .lit (.int .u8 191)], .agg [.lit (.int .u8 128), .lit (.int .u8 143)], .agg [.lit (.int .u8 0), .lit (.int .u8 0)], .agg [.lit (.int .u8 0), .lit (.int .u8 0)], .agg [.lit (.int .u8 0), .lit (.int .u8 0)], .agg [.lit (.int .u8 0), .lit (.int .u8 0)], .agg [.lit (.int .u8 0), .lit (.int .u8 0)], .agg [.lit (.int .u8 0), .lit (.int .u8 0)], .agg [.lit (.int .u8 0), .lit (.int .u8 0)], .agg [.lit (.int .u8 0), .lit (.int .u8 0)], .agg [.lit (.int .u8 0), .lit (.int .u8 0)], .agg [.lit (.int .u8 0), .lit (.int .u8 0)], .agg [.lit (.int .u8 0), .lit (.int .u8 0)]]
def laid_grille_scalar_named {H : Type} : DataW H := .agg [.agg [.lit (.int .i32 34), .lit (.int .u8 34)], .agg [.lit (.int .i32 92), .lit (.int .u8 92)], .agg [.lit (.int .i32 0), .lit (.int .u8 48)], .agg [.lit (.int .i32 7), .lit (.int .u8 97)], .agg [.lit (.int .i32 8), .lit (.int .u8 98)], .agg [.lit (.int .i32 9), .lit (.int .u8 116)], .agg [.lit (.int .i32 10), .lit (.int .u8 110)], .agg [.lit (.int .i32 11), .lit (.int .u8 118)], .agg [.lit (.int .i32 12), .lit (.int .u8 102)], .agg [.lit (.int .i32 13), .lit (.int .u8 114)], .agg [.lit (.int .i32 27), .lit (.int .u8 101)], .agg [.lit (.int .i32 133), .lit (.int .u8 78)], .agg [.lit (.int .i32 160), .lit (.int .u8 95)], .agg [.lit (.int .i32 8232), .lit (.int .u8 76)], .agg [.lit (.int .i32 8233), .lit (.int .u8 80)]]
/-- One of Go's own tables, pinned by name: the form's constant. -/
def laid_unicode_utf8_first : DataW Unit := Go.Pinned.utf8First

/-- 'grillelaw07.ParseText': WHATEVER THE INPUT: true; the input reads as it did. -/
def parseTextSpec : ChangeSpec := { name := "parseText", fn := fun _ => fun
  | [d] => { results := [.lit (.bool true)], args := [d] }
  | _ => none }
def parseTextRow : OpenClaim := { program := "ytjcfmghijfnehaagreatdoor", sum := "8010a7620ca0b1497b65fb2f668a8a7e4ca7a6c9600effef792f2a474f97e0d9", func := "grille/grillelaw07.ParseText", spec := "parseText", inPlace := ["internal/bytealg.CountString", "internal/bytealg.IndexByteString", "internal/bytealg.IndexString", "internal/abi.NoEscape", "internal/bytealg.MakeNoZero"], unfollowed := true, recurses := true, named := ["unicode/utf8.first", "unicode/utf8.acceptRanges", "internal/bytealg.MaxLen", "grille/scalar.named"], apart := false, laid := [("unicode/utf8.acceptRanges", laid_unicode_utf8_acceptRanges), ("grille/scalar.named", laid_grille_scalar_named), ("unicode/utf8.first", laid_unicode_utf8_first)] }
def ParseTextSaid : Prop := parseTextRow.holds Tryz.pinned (OpenSpec.ofChange parseTextSpec)

/-- ITS FALSE NEIGHBOUR: 'it returns false'. Refute it at one input. -/
def parseTextWrong : ChangeSpec := { name := "parseText", fn := fun _ => fun
  | [d] => { results := [.lit (.bool false)], args := [d] }
  | _ => none }
def ParseTextWrongFalsely : Prop := parseTextRow.holds Tryz.pinned (OpenSpec.ofChange parseTextWrong)

/-- 'grillelaw07.ParseRight': WHATEVER THE INPUT: true; the input reads as it did. -/
def parseRightSpec : ChangeSpec := { name := "parseRight", fn := fun _ => fun
  | [d] => { results := [.lit (.bool true)], args := [d] }
  | _ => none }
def parseRightRow : OpenClaim := { program := "ytjcfmghijfnehaagreatdoor", sum := "8010a7620ca0b1497b65fb2f668a8a7e4ca7a6c9600effef792f2a474f97e0d9", func := "grille/grillelaw07.ParseRight", spec := "parseRight", inPlace := ["internal/bytealg.CountString", "internal/bytealg.IndexByteString", "internal/bytealg.IndexString", "internal/abi.NoEscape", "internal/bytealg.MakeNoZero"], unfollowed := true, recurses := true, named := ["unicode/utf8.first", "unicode/utf8.acceptRanges", "internal/bytealg.MaxLen", "grille/scalar.named"], apart := false, laid := [("unicode/utf8.acceptRanges", laid_unicode_utf8_acceptRanges), ("grille/scalar.named", laid_grille_scalar_named), ("unicode/utf8.first", laid_unicode_utf8_first)] }
def ParseRightSaid : Prop := parseRightRow.holds Tryz.pinned (OpenSpec.ofChange parseRightSpec)

/-- ITS FALSE NEIGHBOUR: 'it returns false'. Refute it at one input. -/
def parseRightWrong : ChangeSpec := { name := "parseRight", fn := fun _ => fun
  | [d] => { results := [.lit (.bool false)], args := [d] }
  | _ => none }
def ParseRightWrongFalsely : Prop := parseRightRow.holds Tryz.pinned (OpenSpec.ofChange parseRightWrong)

/-- 'grillelaw07.ParseDocuments': WHATEVER THE INPUT: true; the input reads as it did. -/
def parseDocumentsSpec : ChangeSpec := { name := "parseDocuments", fn := fun _ => fun
  | [d1, d2] => { results := [.lit (.bool true)], args := [d1, d2] }
  | _ => none }
def parseDocumentsRow : OpenClaim := { program := "ytjcfmghijfnehaagreatdoor", sum := "8010a7620ca0b1497b65fb2f668a8a7e4ca7a6c9600effef792f2a474f97e0d9", func := "grille/grillelaw07.ParseDocuments", spec := "parseDocuments", inPlace := ["internal/bytealg.CountString", "internal/bytealg.IndexByteString", "internal/bytealg.IndexString", "internal/abi.NoEscape", "internal/bytealg.MakeNoZero"], unfollowed := true, recurses := true, named := ["unicode/utf8.first", "unicode/utf8.acceptRanges", "internal/bytealg.MaxLen", "grille/scalar.named"], apart := false, laid := [("unicode/utf8.acceptRanges", laid_unicode_utf8_acceptRanges), ("grille/scalar.named", laid_grille_scalar_named), ("unicode/utf8.first", laid_unicode_utf8_first)] }
def ParseDocumentsSaid : Prop := parseDocumentsRow.holds Tryz.pinned (OpenSpec.ofChange parseDocumentsSpec)

/-- ITS FALSE NEIGHBOUR: 'it returns false'. Refute it at one input. -/
def parseDocumentsWrong : ChangeSpec := { name := "parseDocuments", fn := fun _ => fun
  | [d1, d2] => { results := [.lit (.bool false)], args := [d1, d2] }
  | _ => none }
def ParseDocumentsWrongFalsely : Prop := parseDocumentsRow.holds Tryz.pinned (OpenSpec.ofChange parseDocumentsWrong)

/-- 'grillelaw07.ParseShift': WHATEVER THE INPUT: true; the input reads as it did. -/
def parseShiftSpec : ChangeSpec := { name := "parseShift", fn := fun _ => fun
  | [d1, d2] => { results := [.lit (.bool true)], args := [d1, d2] }
  | _ => none }
def parseShiftRow : OpenClaim := { program := "ytjcfmghijfnehaagreatdoor", sum := "8010a7620ca0b1497b65fb2f668a8a7e4ca7a6c9600effef792f2a474f97e0d9", func := "grille/grillelaw07.ParseShift", spec := "parseShift", inPlace := ["internal/bytealg.CountString", "internal/bytealg.IndexByteString", "internal/bytealg.IndexString", "internal/abi.NoEscape", "internal/bytealg.MakeNoZero"], unfollowed := true, recurses := true, named := ["unicode/utf8.first", "unicode/utf8.acceptRanges", "internal/bytealg.MaxLen", "grille/scalar.named"], apart := false, laid := [("unicode/utf8.acceptRanges", laid_unicode_utf8_acceptRanges), ("grille/scalar.named", laid_grille_scalar_named), ("unicode/utf8.first", laid_unicode_utf8_first)] }
def ParseShiftSaid : Prop := parseShiftRow.holds Tryz.pinned (OpenSpec.ofChange parseShiftSpec)

/-- ITS FALSE NEIGHBOUR: 'it returns false'. Refute it at one input. -/
def parseShiftWrong : ChangeSpec := { name := "parseShift", fn := fun _ => fun
  | [d1, d2] => { results := [.lit (.bool false)], args := [d1, d2] }
  | _ => none }
def ParseShiftWrongFalsely : Prop := parseShiftRow.holds Tryz.pinned (OpenSpec.ofChange parseShiftWrong)

/-- 'grillelaw07.ParseNested': WHATEVER THE INPUT: true; the input reads as it did. -/
def parseNestedSpec : ChangeSpec := { name := "parseNested", fn := fun _ => fun
  | [d1, d2] => { results := [.lit (.bool true)], args := [d1, d2] }
  | _ => none }
def parseNestedRow : OpenClaim := { program := "ytjcfmghijfnehaagreatdoor", sum := "8010a7620ca0b1497b65fb2f668a8a7e4ca7a6c9600effef792f2a474f97e0d9", func := "grille/grillelaw07.ParseNested", spec := "parseNested", inPlace := ["internal/bytealg.CountString", "internal/bytealg.IndexByteString", "internal/bytealg.IndexString", "internal/abi.NoEscape", "internal/bytealg.MakeNoZero"], unfollowed := true, recurses := true, named := ["unicode/utf8.first", "unicode/utf8.acceptRanges", "internal/bytealg.MaxLen", "grille/scalar.named"], apart := false, laid := [("unicode/utf8.acceptRanges", laid_unicode_utf8_acceptRanges), ("grille/scalar.named", laid_grille_scalar_named), ("unicode/utf8.first", laid_unicode_utf8_first)] }
def ParseNestedSaid : Prop := parseNestedRow.holds Tryz.pinned (OpenSpec.ofChange parseNestedSpec)

/-- ITS FALSE NEIGHBOUR: 'it returns false'. Refute it at one input. -/
def parseNestedWrong : ChangeSpec := { name := "parseNested", fn := fun _ => fun
  | [d1, d2] => { results := [.lit (.bool false)], args := [d1, d2] }
  | _ => none }
def ParseNestedWrongFalsely : Prop := parseNestedRow.holds Tryz.pinned (OpenSpec.ofChange parseNestedWrong)

/-- 'grillelaw07.ParseOne': WHATEVER THE INPUT: true; the input reads as it did. -/
def parseOneSpec : ChangeSpec := { name := "parseOne", fn := fun _ => fun
  | [d] => { results := [.lit (.bool true)], args := [d] }
  | _ => none }
def parseOneRow : OpenClaim := { program := "ytjcfmghijfnehaagreatdoor", sum := "8010a7620ca0b1497b65fb2f668a8a7e4ca7a6c9600effef792f2a474f97e0d9", func := "grille/grillelaw07.ParseOne", spec := "parseOne", inPlace := ["internal/bytealg.CountString", "internal/bytealg.IndexByteString", "internal/bytealg.IndexString", "internal/abi.NoEscape", "internal/bytealg.MakeNoZero"], unfollowed := true, recurses := true, named := ["unicode/utf8.first", "unicode/utf8.acceptRanges", "internal/bytealg.MaxLen", "grille/scalar.named"], apart := false, laid := [("unicode/utf8.acceptRanges", laid_unicode_utf8_acceptRanges), ("grille/scalar.named", laid_grille_scalar_named), ("unicode/utf8.first", laid_unicode_utf8_first)] }
def ParseOneSaid : Prop := parseOneRow.holds Tryz.pinned (OpenSpec.ofChange parseOneSpec)

/-- ITS FALSE NEIGHBOUR: 'it returns false'. Refute it at one input. -/
def parseOneWrong : ChangeSpec := { name := "parseOne", fn := fun _ => fun
  | [d] => { results := [.lit (.bool false)], args := [d] }
  | _ => none }
def ParseOneWrongFalsely : Prop := parseOneRow.holds Tryz.pinned (OpenSpec.ofChange parseOneWrong)

/-- 'grillelaw07.ParseRows': WHATEVER THE INPUT: true; the input reads as it did. -/
def parseRowsSpec : ChangeSpec := { name := "parseRows", fn := fun _ => fun
  | [d] => { results := [.lit (.bool true)], args := [d] }
  | _ => none }
def parseRowsRow : OpenClaim := { program := "ytjcfmghijfnehaagreatdoor", sum := "8010a7620ca0b1497b65fb2f668a8a7e4ca7a6c9600effef792f2a474f97e0d9", func := "grille/grillelaw07.ParseRows", spec := "parseRows", inPlace := ["internal/bytealg.CountString", "internal/bytealg.IndexByteString", "internal/bytealg.IndexString", "internal/abi.NoEscape", "internal/bytealg.MakeNoZero"], unfollowed := true, recurses := true, named := ["unicode/utf8.first", "unicode/utf8.acceptRanges", "internal/bytealg.MaxLen", "grille/scalar.named"], apart := false, laid := [("unicode/utf8.acceptRanges", laid_unicode_utf8_acceptRanges), ("grille/scalar.named", laid_grille_scalar_named), ("unicode/utf8.first", laid_unicode_utf8_first)] }
def ParseRowsSaid : Prop := parseRowsRow.holds Tryz.pinned (OpenSpec.ofChange parseRowsSpec)

/-- ITS FALSE NEIGHBOUR: 'it returns false'. Refute it at one input. -/
def parseRowsWrong : ChangeSpec := { name := "parseRows", fn := fun _ => fun
  | [d] => { results := [.lit (.bool false)], args := [d] }
  | _ => none }
def ParseRowsWrongFalsely : Prop := parseRowsRow.holds Tryz.pinned (OpenSpec.ofChange parseRowsWrong)

/- THE SECOND FORM. 'bulk': how many values and letters a reading holds, each counted each time it is reached (what is shared counts as often as it is met; a slice's spare places count too). A statement '..UptoSaid' is the law's where the arguments, and the package variables that the reading takes, are together of bulk at most 1048576: NARROWER than '..Said'. Prove '..Said' where nothing that the law and all that it calls make is longer than what came in: it says more and counts as full. Else prove '..UptoSaid'. A law counts once. -/
mutual
def uptoBulk {H : Type} : DataW H → Nat
  | .lit (.string bytes) => bytes.length + 1
  | .lit _ => 1
  | .nil => 1
  | .ptr d => uptoBulk d + 1
  | .slice elems spare => uptoBulkAll elems + uptoBulkAll spare + 1
  | .agg parts => uptoBulkAll parts + 1
  | .iface _ d => uptoBulk d + 1
  | .map entries => uptoBulkEntries entries + 1
  | .held _ => 1
def uptoBulkAll {H : Type} : List (DataW H) → Nat
  | [] => 0
  | d :: r => uptoBulk d + uptoBulkAll r
def uptoBulkEntries {H : Type} : List (Lit × DataW H) → Nat
  | [] => 0
  | x :: r => uptoBulkEntry x + uptoBulkEntries r
def uptoBulkEntry {H : Type} : Lit × DataW H → Nat
  | (.string bytes, d) => bytes.length + uptoBulk d + 1
  | (_, d) => uptoBulk d + 1
 end
def uptoSmall : (H : Type) → List (DataW H) → Bool := fun _ ds => decide (uptoBulkAll ds ≤ 1048576)
def OpenSpec.upto (s : _root_.Go.ChangeSpec) : _root_.Go.OpenSpec := { _root_.Go.OpenSpec.ofChange s with cond := some uptoSmall }

/-- 'grillelaw07.ParseText', WHERE WHAT IT READS IS OF BULK AT MOST 1048576: true; the input reads as it did. -/
def parseTextUptoRow : OpenClaim := { program := "ytjcfmghijfnehaagreatdoor", sum := "8010a7620ca0b1497b65fb2f668a8a7e4ca7a6c9600effef792f2a474f97e0d9", func := "grille/grillelaw07.ParseText", spec := "parseText", inPlace := ["internal/bytealg.CountString", "internal/bytealg.IndexByteString", "internal/bytealg.IndexString", "internal/abi.NoEscape", "internal/bytealg.MakeNoZero"], unfollowed := true, recurses := true, named := ["unicode/utf8.first", "unicode/utf8.acceptRanges", "internal/bytealg.MaxLen", "grille/scalar.named"], apart := false, laid := [("unicode/utf8.acceptRanges", laid_unicode_utf8_acceptRanges), ("grille/scalar.named", laid_grille_scalar_named), ("unicode/utf8.first", laid_unicode_utf8_first)], narrowed := true }
def ParseTextUptoSaid : Prop := parseTextUptoRow.holds Tryz.pinned (OpenSpec.upto parseTextSpec)

/-- 'grillelaw07.ParseRight', WHERE WHAT IT READS IS OF BULK AT MOST 1048576: true; the input reads as it did. -/
def parseRightUptoRow : OpenClaim := { program := "ytjcfmghijfnehaagreatdoor", sum := "8010a7620ca0b1497b65fb2f668a8a7e4ca7a6c9600effef792f2a474f97e0d9", func := "grille/grillelaw07.ParseRight", spec := "parseRight", inPlace := ["internal/bytealg.CountString", "internal/bytealg.IndexByteString", "internal/bytealg.IndexString", "internal/abi.NoEscape", "internal/bytealg.MakeNoZero"], unfollowed := true, recurses := true, named := ["unicode/utf8.first", "unicode/utf8.acceptRanges", "internal/bytealg.MaxLen", "grille/scalar.named"], apart := false, laid := [("unicode/utf8.acceptRanges", laid_unicode_utf8_acceptRanges), ("grille/scalar.named", laid_grille_scalar_named), ("unicode/utf8.first", laid_unicode_utf8_first)], narrowed := true }
def ParseRightUptoSaid : Prop := parseRightUptoRow.holds Tryz.pinned (OpenSpec.upto parseRightSpec)

/-- 'grillelaw07.ParseDocuments', WHERE WHAT IT READS IS OF BULK AT MOST 1048576: true; the input reads as it did. -/
def parseDocumentsUptoRow : OpenClaim := { program := "ytjcfmghijfnehaagreatdoor", sum := "8010a7620ca0b1497b65fb2f668a8a7e4ca7a6c9600effef792f2a474f97e0d9", func := "grille/grillelaw07.ParseDocuments", spec := "parseDocuments", inPlace := ["internal/bytealg.CountString", "internal/bytealg.IndexByteString", "internal/bytealg.IndexString", "internal/abi.NoEscape", "internal/bytealg.MakeNoZero"], unfollowed := true, recurses := true, named := ["unicode/utf8.first", "unicode/utf8.acceptRanges", "internal/bytealg.MaxLen", "grille/scalar.named"], apart := false, laid := [("unicode/utf8.acceptRanges", laid_unicode_utf8_acceptRanges), ("grille/scalar.named", laid_grille_scalar_named), ("unicode/utf8.first", laid_unicode_utf8_first)], narrowed := true }
def ParseDocumentsUptoSaid : Prop := parseDocumentsUptoRow.holds Tryz.pinned (OpenSpec.upto parseDocumentsSpec)

/-- 'grillelaw07.ParseShift', WHERE WHAT IT READS IS OF BULK AT MOST 1048576: true; the input reads as it did. -/
def parseShiftUptoRow : OpenClaim := { program := "ytjcfmghijfnehaagreatdoor", sum := "8010a7620ca0b1497b65fb2f668a8a7e4ca7a6c9600effef792f2a474f97e0d9", func := "grille/grillelaw07.ParseShift", spec := "parseShift", inPlace := ["internal/bytealg.CountString", "internal/bytealg.IndexByteString", "internal/bytealg.IndexString", "internal/abi.NoEscape", "internal/bytealg.MakeNoZero"], unfollowed := true, recurses := true, named := ["unicode/utf8.first", "unicode/utf8.acceptRanges", "internal/bytealg.MaxLen", "grille/scalar.named"], apart := false, laid := [("unicode/utf8.acceptRanges", laid_unicode_utf8_acceptRanges), ("grille/scalar.named", laid_grille_scalar_named), ("unicode/utf8.first", laid_unicode_utf8_first)], narrowed := true }
def ParseShiftUptoSaid : Prop := parseShiftUptoRow.holds Tryz.pinned (OpenSpec.upto parseShiftSpec)

/-- 'grillelaw07.ParseNested', WHERE WHAT IT READS IS OF BULK AT MOST 1048576: true; the input reads as it did. -/
def parseNestedUptoRow : OpenClaim := { program := "ytjcfmghijfnehaagreatdoor", sum := "8010a7620ca0b1497b65fb2f668a8a7e4ca7a6c9600effef792f2a474f97e0d9", func := "grille/grillelaw07.ParseNested", spec := "parseNested", inPlace := ["internal/bytealg.CountString", "internal/bytealg.IndexByteString", "internal/bytealg.IndexString", "internal/abi.NoEscape", "internal/bytealg.MakeNoZero"], unfollowed := true, recurses := true, named := ["unicode/utf8.first", "unicode/utf8.acceptRanges", "internal/bytealg.MaxLen", "grille/scalar.named"], apart := false, laid := [("unicode/utf8.acceptRanges", laid_unicode_utf8_acceptRanges), ("grille/scalar.named", laid_grille_scalar_named), ("unicode/utf8.first", laid_unicode_utf8_first)], narrowed := true }
def ParseNestedUptoSaid : Prop := parseNestedUptoRow.holds Tryz.pinned (OpenSpec.upto parseNestedSpec)

/-- 'grillelaw07.ParseOne', WHERE WHAT IT READS IS OF BULK AT MOST 1048576: true; the input reads as it did. -/
def parseOneUptoRow : OpenClaim := { program := "ytjcfmghijfnehaagreatdoor", sum := "8010a7620ca0b1497b65fb2f668a8a7e4ca7a6c9600effef792f2a474f97e0d9", func := "grille/grillelaw07.ParseOne", spec := "parseOne", inPlace := ["internal/bytealg.CountString", "internal/bytealg.IndexByteString", "internal/bytealg.IndexString", "internal/abi.NoEscape", "internal/bytealg.MakeNoZero"], unfollowed := true, recurses := true, named := ["unicode/utf8.first", "unicode/utf8.acceptRanges", "internal/bytealg.MaxLen", "grille/scalar.named"], apart := false, laid := [("unicode/utf8.acceptRanges", laid_unicode_utf8_acceptRanges), ("grille/scalar.named", laid_grille_scalar_named), ("unicode/utf8.first", laid_unicode_utf8_first)], narrowed := true }
def ParseOneUptoSaid : Prop := parseOneUptoRow.holds Tryz.pinned (OpenSpec.upto parseOneSpec)

/-- 'grillelaw07.ParseRows', WHERE WHAT IT READS IS OF BULK AT MOST 1048576: true; the input reads as it did. -/
def parseRowsUptoRow : OpenClaim := { program := "ytjcfmghijfnehaagreatdoor", sum := "8010a7620ca0b1497b65fb2f668a8a7e4ca7a6c9600effef792f2a474f97e0d9", func := "grille/grillelaw07.ParseRows", spec := "parseRows", inPlace := ["internal/bytealg.CountString", "internal/bytealg.IndexByteString", "internal/bytealg.IndexString", "internal/abi.NoEscape", "internal/bytealg.MakeNoZero"], unfollowed := true, recurses := true, named := ["unicode/utf8.first", "unicode/utf8.acceptRanges", "internal/bytealg.MaxLen", "grille/scalar.named"], apart := false, laid := [("unicode/utf8.acceptRanges", laid_unicode_utf8_acceptRanges), ("grille/scalar.named", laid_grille_scalar_named), ("unicode/utf8.first", laid_unicode_utf8_first)], narrowed := true }
def ParseRowsUptoSaid : Prop := parseRowsUptoRow.holds Tryz.pinned (OpenSpec.upto parseRowsSpec)

end Rows
end Go.Proofs.YtjcfmghijfnehaaGreatDoor
