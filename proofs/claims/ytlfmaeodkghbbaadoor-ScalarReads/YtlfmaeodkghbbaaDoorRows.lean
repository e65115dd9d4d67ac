/-
  NARROWER THAN 'FOR EVERY INPUT', by the rows' own cells (each row's printed sentence says how): ScalarTells: laid · ScalarReads: laid · ScalarBack: laid · ScalarOnce: laid · ScalarPlain: laid · ScalarSingle: laid · ScalarEnds: laid.
  DERIVED. THE GIVEN ROWS OF THIS SEAT. 7 by the template 'for every input the law returns true; each argument reads behind the call as it read before'; 0 by the template 'total and deterministic' (their statements: YtlfmaeodkghbbaaDoorTotals.lean).
  GIVEN WITH THE SEED: the statements are not yours to turn. If you find one false, say at which input.
  Laid BY PROGRAM, IN A SANDBOX (cutbox-rows.mjs): the forced cells as the released guide's own fill.sh prints them over the translation eec569c968eeca55… (all of the seat's roots in one cut). By AI agents, Wed Nov 11 2026. No macro, syntax, notation, axiom, sorry.
-/
import Derived.Test.YtlfmaeodkghbbaaDoorChecked
import GoSem.PinnedTables
import GoSem.Claim
import GoSem.ClaimJoined
import GoSem.ClaimMapViews
import Derived.JoinedTies
import Derived.KernelRfl
namespace Go.Proofs.YtlfmaeodkghbbaaDoor
/- THE CELL 'sum', in the pinned program and in every row, IS THE sha256 OF THE DUMP (.gsa) THAT YtlfmaeodkghbbaaDoorProg.lean LOADS. Nothing in Lean hashes anything: it is a label: what it is worth is what the hold of that sum in a sandbox is worth. -/
noncomputable def Tryd.pinned : Pinned := { name := "ytlfmaeodkghbbaadoor", sum := "eec569c968eeca556d6b9a46308f1ad6b6ac1f0d658f11791d625e8d73fab1f5", checked := Tryd.checked }
namespace Rows
def none {H : Type} : Left H := { results := [], args := [] }

/- WHAT THE LISTED PACKAGE-LEVEL VARIABLES READ AS WHEN THE CALL BEGINS. Each datum BY PROGRAM (the guide's laid-datum.mjs) off the statement by which the dump's own 'gosem.cut.vars' lays the variable. In a bare row this is a premise. The card (YtlfmaeodkghbbaaDoorCards.lean) ties it to the program's text. -/
def laid_unicode_utf8_acceptRanges {H : Type} : DataW H := .agg [.agg [.lit (.int .u8 128), .lit (.int .u8 191)], .agg [.lit (.int .u8 160), .lit (.int .u8 191)], .agg [.lit (.int .u8 128), .lit (.int .u8 159)], .agg [.lit (.int .u8 144), .lit (.int .u8 191)], .agg [.lit (.int .u8 128), .lit (.int .u8 143)], .agg [.lit (.int .u8 0), .lit (.int .u8 0)], .agg [.lit (.int .u8 0), .lit (.int .u8 0)], .agg [.lit (.int .u8 0), .lit (.int .u8 0)], .agg [.lit (.int .u8 0), .lit (.int .u8 0)], .agg [.lit (.int .u8 0), .lit (.int .u8 0)], .agg [.lit (.int .u8 0), .lit (.int .u8 0)], .agg [.lit (.int .u8 0), .lit (.int .u8 0)], .agg [.lit (.int .u8 0), .lit (.int .u8 0)], .agg [.lit (.int .u8 0), .lit (.int .u8 0)], .agg [.lit (.int .u8 0), .lit (.int .u8 0)], .agg [.lit (.int .u8 0), .lit (.int .u8 0)]]
def laid_grille_scalar_named {H : Type} : DataW H := .agg [.agg [.lit (.int .i32 34), .lit (.int .u8 34)], .agg [.lit (.int .i32 92), .lit (.int .u8 92)], .agg [.lit (.int .i32 0), .lit (.int .u8 48)], .agg [.lit (.int .i32 7), .lit (.int .u8 97)], .agg [.lit (.int .i32 8), .lit (.int .u8 98)], .agg [.lit (.int .i32 9), .lit (.int .u8 116)], .agg [.lit (.int .i32 10), .lit (.int .u8 110)], .agg [.lit (.int .i32 11), .lit (.int .u8 118)], .agg [.lit (.int .i32 12), .lit (.int .u8 102)], .agg [.lit (.int .i32 13), .lit (.int .u8 114)], .agg [.lit (.int .i32 27), .lit (.int .u8 101)], .agg [.lit (.int .i32 133), .lit (.int .u8 78)], .agg [.lit (.int .i32 160), .lit (.int .u8 95)], .agg [.lit (.int .i32 8232), .lit (.int .u8 76)], .agg [.lit (.int .i32 8233), .lit (.int .u8 80)]]
/-- One of Go's own tables, pinned by name: the form's constant. -/
def laid_unicode_utf8_first : DataW Unit := Go.Pinned.utf8First

/-- 'grillelaw02.ScalarTells': WHATEVER THE INPUT: true; the input reads as it did. -/
def scalarTellsSpec : ChangeSpec := { name := "scalarTells", fn := fun _ => fun
  | [d] => { results := [.lit (.bool true)], args := [d] }
  | _ => none }
def scalarTellsRow : OpenClaim := { program := "ytlfmaeodkghbbaadoor", sum := "eec569c968eeca556d6b9a46308f1ad6b6ac1f0d658f11791d625e8d73fab1f5", func := "grille/grillelaw02.ScalarTells", spec := "scalarTells", inPlace := ["internal/bytealg.CountString", "internal/bytealg.IndexByteString", "internal/bytealg.IndexString", "internal/abi.NoEscape", "internal/bytealg.MakeNoZero"], named := ["unicode/utf8.first", "unicode/utf8.acceptRanges", "grille/scalar.named", "internal/bytealg.MaxLen"], apart := false, laid := [("unicode/utf8.acceptRanges", laid_unicode_utf8_acceptRanges), ("grille/scalar.named", laid_grille_scalar_named), ("unicode/utf8.first", laid_unicode_utf8_first)] }
def ScalarTellsSaid : Prop := scalarTellsRow.holds Tryd.pinned (OpenSpec.ofChange scalarTellsSpec)

/-- ITS FALSE NEIGHBOUR: 'it returns false'. Refute it at one input. -/
def scalarTellsWrong : ChangeSpec := { name := "scalarTells", fn := fun _ => fun
  | [d] => { results := [.lit (.bool false)], args := [d] }
  | _ => none }
def ScalarTellsWrongFalsely : Prop := scalarTellsRow.holds Tryd.pinned (OpenSpec.ofChange scalarTellsWrong)

/-- 'grillelaw02.ScalarReads': WHATEVER THE INPUT: true; the input reads as it did. -/
def scalarReadsSpec : ChangeSpec := { name := "scalarReads", fn := fun _ => fun
  | [d] => { results := [.lit (.bool true)], args := [d] }
  | _ => none }
def scalarReadsRow : OpenClaim := { program := "ytlfmaeodkghbbaadoor", sum := "eec569c968eeca556d6b9a46308f1ad6b6ac1f0d658f11791d625e8d73fab1f5", func := "grille/grillelaw02.ScalarReads", spec := "scalarReads", inPlace := ["internal/bytealg.CountString", "internal/bytealg.IndexByteString", "internal/bytealg.IndexString", "internal/abi.NoEscape", "internal/bytealg.MakeNoZero"], named := ["unicode/utf8.first", "unicode/utf8.acceptRanges", "grille/scalar.named", "internal/bytealg.MaxLen"], apart := false, laid := [("unicode/utf8.acceptRanges", laid_unicode_utf8_acceptRanges), ("grille/scalar.named", laid_grille_scalar_named), ("unicode/utf8.first", laid_unicode_utf8_first)] }
def ScalarReadsSaid : Prop := scalarReadsRow.holds Tryd.pinned (OpenSpec.ofChange scalarReadsSpec)

/-- ITS FALSE NEIGHBOUR: 'it returns false'. Refute it at one input. -/
def scalarReadsWrong : ChangeSpec := { name := "scalarReads", fn := fun _ => fun
  | [d] => { results := [.lit (.bool false)], args := [d] }
  | _ => none }
def ScalarReadsWrongFalsely : Prop := scalarReadsRow.holds Tryd.pinned (OpenSpec.ofChange scalarReadsWrong)

/-- 'grillelaw02.ScalarBack': WHATEVER THE INPUT: true; the input reads as it did. -/
def scalarBackSpec : ChangeSpec := { name := "scalarBack", fn := fun _ => fun
  | [d1, d2] => { results := [.lit (.bool true)], args := [d1, d2] }
  | _ => none }
def scalarBackRow : OpenClaim := { program := "ytlfmaeodkghbbaadoor", sum := "eec569c968eeca556d6b9a46308f1ad6b6ac1f0d658f11791d625e8d73fab1f5", func := "grille/grillelaw02.ScalarBack", spec := "scalarBack", inPlace := ["internal/bytealg.CountString", "internal/bytealg.IndexByteString", "internal/bytealg.IndexString", "internal/abi.NoEscape", "internal/bytealg.MakeNoZero"], named := ["unicode/utf8.first", "unicode/utf8.acceptRanges", "grille/scalar.named", "internal/bytealg.MaxLen"], apart := false, laid := [("unicode/utf8.acceptRanges", laid_unicode_utf8_acceptRanges), ("grille/scalar.named", laid_grille_scalar_named), ("unicode/utf8.first", laid_unicode_utf8_first)] }
def ScalarBackSaid : Prop := scalarBackRow.holds Tryd.pinned (OpenSpec.ofChange scalarBackSpec)

/-- ITS FALSE NEIGHBOUR: 'it returns false'. Refute it at one input. -/
def scalarBackWrong : ChangeSpec := { name := "scalarBack", fn := fun _ => fun
  | [d1, d2] => { results := [.lit (.bool false)], args := [d1, d2] }
  | _ => none }
def ScalarBackWrongFalsely : Prop := scalarBackRow.holds Tryd.pinned (OpenSpec.ofChange scalarBackWrong)

/-- 'grillelaw02.ScalarOnce': WHATEVER THE INPUT: true; the input reads as it did. -/
def scalarOnceSpec : ChangeSpec := { name := "scalarOnce", fn := fun _ => fun
  | [d] => { results := [.lit (.bool true)], args := [d] }
  | _ => none }
def scalarOnceRow : OpenClaim := { program := "ytlfmaeodkghbbaadoor", sum := "eec569c968eeca556d6b9a46308f1ad6b6ac1f0d658f11791d625e8d73fab1f5", func := "grille/grillelaw02.ScalarOnce", spec := "scalarOnce", inPlace := ["internal/bytealg.CountString", "internal/bytealg.IndexByteString", "internal/bytealg.IndexString", "internal/abi.NoEscape", "internal/bytealg.MakeNoZero"], named := ["unicode/utf8.first", "unicode/utf8.acceptRanges", "grille/scalar.named", "internal/bytealg.MaxLen"], apart := false, laid := [("unicode/utf8.acceptRanges", laid_unicode_utf8_acceptRanges), ("grille/scalar.named", laid_grille_scalar_named), ("unicode/utf8.first", laid_unicode_utf8_first)] }
def ScalarOnceSaid : Prop := scalarOnceRow.holds Tryd.pinned (OpenSpec.ofChange scalarOnceSpec)

/-- ITS FALSE NEIGHBOUR: 'it returns false'. Refute it at one input. -/
def scalarOnceWrong : ChangeSpec := { name := "scalarOnce", fn := fun _ => fun
  | [d] => { results := [.lit (.bool false)], args := [d] }
  | _ => none }
def ScalarOnceWrongFalsely : Prop := scalarOnceRow.holds Tryd.pinned (OpenSpec.ofChange scalarOnceWrong)

/-- 'grillelaw02.ScalarPlain': WHATEVER THE INPUT: true; the input reads as it did. -/
def scalarPlainSpec : ChangeSpec := { name := "scalarPlain", fn := fun _ => fun
  | [d] => { results := [.lit (.bool true)], args := [d] }
  | _ => none }
def scalarPlainRow : OpenClaim := { program := "ytlfmaeodkghbbaadoor", sum := "eec569c968eeca556d6b9a46308f1ad6b6ac1f0d658f11791d625e8d73fab1f5", func := "grille/grillelaw02.ScalarPlain", spec := "scalarPlain", inPlace := ["internal/bytealg.CountString", "internal/bytealg.IndexByteString", "internal/bytealg.IndexString", "internal/abi.NoEscape", "internal/bytealg.MakeNoZero"], named := ["unicode/utf8.first", "unicode/utf8.acceptRanges", "grille/scalar.named", "internal/bytealg.MaxLen"], apart := false, laid := [("unicode/utf8.acceptRanges", laid_unicode_utf8_acceptRanges), ("grille/scalar.named", laid_grille_scalar_named), ("unicode/utf8.first", laid_unicode_utf8_first)] }
def ScalarPlainSaid : Prop := scalarPlainRow.holds Tryd.pinned (OpenSpec.ofChange scalarPlainSpec)

/-- ITS FALSE NEIGHBOUR: 'it returns false'. Refute it at one input. -/
def scalarPlainWrong : ChangeSpec := { name := "scalarPlain", fn := fun _ => fun
  | [d] => { results := [.lit (.bool false)], args := [d] }
  | _ => none }
def ScalarPlainWrongFalsely : Prop := scalarPlainRow.holds Tryd.pinned (OpenSpec.ofChange scalarPlainWrong)

/-- 'grillelaw02.ScalarSingle': WHATEVER THE INPUT: true; the input reads as it did. -/
def scalarSingleSpec : ChangeSpec := { name := "scalarSingle", fn := fun _ => fun
  | [d] => { results := [.lit (.bool true)], args := [d] }
  | _ => none }
def scalarSingleRow : OpenClaim := { program := "ytlfmaeodkghbbaadoor", sum := "eec569c968eeca556d6b9a46308f1ad6b6ac1f0d658f11791d625e8d73fab1f5", func := "grille/grillelaw02.ScalarSingle", spec := "scalarSingle", inPlace := ["internal/bytealg.CountString", "internal/bytealg.IndexByteString", "internal/bytealg.IndexString", "internal/abi.NoEscape", "internal/bytealg.MakeNoZero"], named := ["unicode/utf8.first", "unicode/utf8.acceptRanges", "grille/scalar.named", "internal/bytealg.MaxLen"], apart := false, laid := [("unicode/utf8.acceptRanges", laid_unicode_utf8_acceptRanges), ("grille/scalar.named", laid_grille_scalar_named), ("unicode/utf8.first", laid_unicode_utf8_first)] }
def ScalarSingleSaid : Prop := scalarSingleRow.holds Tryd.pinned (OpenSpec.ofChange scalarSingleSpec)

/-- ITS FALSE NEIGHBOUR: 'it returns false'. Refute it at one input. -/
def scalarSingleWrong : ChangeSpec := { name := "scalarSingle", fn := fun _ => fun
  | [d] => { results := [.lit (.bool false)], args := [d] }
  | _ => none }
def ScalarSingleWrongFalsely : Prop := scalarSingleRow.holds Tryd.pinned (OpenSpec.ofChange scalarSingleWrong)

/-- 'grillelaw02.ScalarEnds': WHATEVER THE INPUT: true; the input reads as it did. -/
def scalarEndsSpec : ChangeSpec := { name := "scalarEnds", fn := fun _ => fun
  | [d] => { results := [.lit (.bool true)], args := [d] }
  | _ => none }
def scalarEndsRow : OpenClaim := { program := "ytlfmaeodkghbbaadoor", sum := "eec569c968eeca556d6b9a46308f1ad6b6ac1f0d658f11791d625e8d73fab1f5", func := "grille/grillelaw02.ScalarEnds", spec := "scalarEnds", inPlace := ["internal/bytealg.CountString", "internal/bytealg.IndexByteString", "internal/bytealg.IndexString", "internal/abi.NoEscape", "internal/bytealg.MakeNoZero"], named := ["unicode/utf8.first", "unicode/utf8.acceptRanges", "grille/scalar.named", "internal/bytealg.MaxLen"], apart := false, laid := [("unicode/utf8.acceptRanges", laid_unicode_utf8_acceptRanges), ("grille/scalar.named", laid_grille_scalar_named), ("unicode/utf8.first", laid_unicode_utf8_first)] }
def ScalarEndsSaid : Prop := scalarEndsRow.holds Tryd.pinned (OpenSpec.ofChange scalarEndsSpec)

/-- ITS FALSE NEIGHBOUR: 'it returns false'. Refute it at one input. -/
def scalarEndsWrong : ChangeSpec := { name := "scalarEnds", fn := fun _ => fun
  | [d] => { results := [.lit (.bool false)], args := [d] }
  | _ => none }
def ScalarEndsWrongFalsely : Prop := scalarEndsRow.holds Tryd.pinned (OpenSpec.ofChange scalarEndsWrong)

/- THE SECOND FORM. 'bulk': how many values and letters a reading holds, each counted each time it is reached (what is shared counts as often as it is met; a slice's spare places count too). A statement '..UptoSaid' is the law's where the arguments, and the package variables that the reading takes, are together of bulk at most 1048576: NARROWER than '..Said'. Prove '..Said' where nothing that the law and all that it calls make is longer than what came in: it says more and counts as full. Else prove '..UptoSaid'. A law counts once. -/
mutual
def uptoBulk {H : Type} : DataW H → Nat
  | .lit (.string bytes) => bytes.length + 1
  | .lit _ => 1
  | .nil => 1
  | .ptr d => uptoBulk d + 1
  | .slice elems spare => uptoBulkAll elems + uptoBulkAll spare + 1
  | .agg parts => uptoBulkAll parts + 1
  | .iface _ d => uptoBulk d + 1
  | .map entries => uptoBulkEntries entries + 1
  | .held _ => 1
def uptoBulkAll {H : Type} : List (DataW H) → Nat
  | [] => 0
  | d :: r => uptoBulk d + uptoBulkAll r
def uptoBulkEntries {H : Type} : List (Lit × DataW H) → Nat
  | [] => 0
  | x :: r => uptoBulkEntry x + uptoBulkEntries r
def uptoBulkEntry {H : Type} : Lit × DataW H → Nat
  | (.string bytes, d) => bytes.length + uptoBulk d + 1
  | (_, d) => uptoBulk d + 1
 end
def uptoSmall : (H : Type) → List (DataW H) → Bool := fun _ ds => decide (uptoBulkAll ds ≤ 1048576)
def OpenSpec.upto (s : _root_.Go.ChangeSpec) : _root_.Go.OpenSpec := { _root_.Go.OpenSpec.ofChange s with cond := some uptoSmall }

/-- 'grillelaw02.ScalarTells', WHERE WHAT IT READS IS OF BULK AT MOST 1048576: true; the input reads as it did. -/
def scalarTellsUptoRow : OpenClaim := { program := "ytlfmaeodkghbbaadoor", sum := "eec569c968eeca556d6b9a46308f1ad6b6ac1f0d658f11791d625e8d73fab1f5", func := "grille/grillelaw02.ScalarTells", spec := "scalarTells", inPlace := ["internal/bytealg.CountString", "internal/bytealg.IndexByteString", "internal/bytealg.IndexString", "internal/abi.NoEscape", "internal/bytealg.MakeNoZero"], named := ["unicode/utf8.first", "unicode/utf8.acceptRanges", "grille/scalar.named", "internal/bytealg.MaxLen"], apart := false, laid := [("unicode/utf8.acceptRanges", laid_unicode_utf8_acceptRanges), ("grille/scalar.named", laid_grille_scalar_named), ("unicode/utf8.first", laid_unicode_utf8_first)], narrowed := true }
def ScalarTellsUptoSaid : Prop := scalarTellsUptoRow.holds Tryd.pinned (OpenSpec.upto scalarTellsSpec)

/-- 'grillelaw02.ScalarReads', WHERE WHAT IT READS IS OF BULK AT MOST 1048576: true; the input reads as it did. -/
def scalarReadsUptoRow : OpenClaim := { program := "ytlfmaeodkghbbaadoor", sum := "eec569c968eeca556d6b9a46308f1ad6b6ac1f0d658f11791d625e8d73fab1f5", func := "grille/grillelaw02.ScalarReads", spec := "scalarReads", inPlace := ["internal/bytealg.CountString", "internal/bytealg.IndexByteString", "internal/bytealg.IndexString", "internal/abi.NoEscape", "internal/bytealg.MakeNoZero"], named := ["unicode/utf8.first", "unicode/utf8.acceptRanges", "grille/scalar.named", "internal/bytealg.MaxLen"], apart := false, laid := [("unicode/utf8.acceptRanges", laid_unicode_utf8_acceptRanges), ("grille/scalar.named", laid_grille_scalar_named), ("unicode/utf8.first", laid_unicode_utf8_first)], narrowed := true }
def ScalarReadsUptoSaid : Prop := scalarReadsUptoRow.holds Tryd.pinned (OpenSpec.upto scalarReadsSpec)

/-- 'grillelaw02.ScalarBack', WHERE WHAT IT READS IS OF BULK AT MOST 1048576: true; the input reads as it did. -/
def scalarBackUptoRow : OpenClaim := { program := "ytlfmaeodkghbbaadoor", sum := "eec569c968eeca556d6b9a46308f1ad6b6ac1f0d658f11791d625e8d73fab1f5", func := "grille/grillelaw02.ScalarBack", spec := "scalarBack", inPlace := ["internal/bytealg.CountString", "internal/bytealg.IndexByteString", "internal/bytealg.IndexString", "internal/abi.NoEscape", "internal/bytealg.MakeNoZero"], named := ["unicode/utf8.first", "unicode/utf8.acceptRanges", "grille/scalar.named", "internal/bytealg.MaxLen"], apart := false, laid := [("unicode/utf8.acceptRanges", laid_unicode_utf8_acceptRanges), ("grille/scalar.named", laid_grille_scalar_named), ("unicode/utf8.first", laid_unicode_utf8_first)], narrowed := true }
def ScalarBackUptoSaid : Prop := scalarBackUptoRow.holds Tryd.pinned (OpenSpec.upto scalarBackSpec)

/-- 'grillelaw02.ScalarOnce', WHERE WHAT IT READS IS OF BULK AT MOST 1048576: true; the input reads as it did. -/
def scalarOnceUptoRow : OpenClaim := { program := "ytlfmaeodkghbbaadoor", sum := "eec569c968eeca556d6b9a46308f1ad6b6ac1f0d658f11791d625e8d73fab1f5", func := "grille/grillelaw02.ScalarOnce", spec := "scalarOnce", inPlace := ["internal/bytealg.CountString", "internal/bytealg.IndexByteString", "internal/bytealg.IndexString", "internal/abi.NoEscape", "internal/bytealg.MakeNoZero"], named := ["unicode/utf8.first", "unicode/utf8.acceptRanges", "grille/scalar.named", "internal/bytealg.MaxLen"], apart := false, laid := [("unicode/utf8.acceptRanges", laid_unicode_utf8_acceptRanges), ("grille/scalar.named", laid_grille_scalar_named), ("unicode/utf8.first", laid_unicode_utf8_first)], narrowed := true }
def ScalarOnceUptoSaid : Prop := scalarOnceUptoRow.holds Tryd.pinned (OpenSpec.upto scalarOnceSpec)

/-- 'grillelaw02.ScalarPlain', WHERE WHAT IT READS IS OF BULK AT MOST 1048576: true; the input reads as it did. -/
def scalarPlainUptoRow : OpenClaim := { program := "ytlfmaeodkghbbaadoor", sum := "eec569c968eeca556d6b9a46308f1ad6b6ac1f0d658f11791d625e8d73fab1f5", func := "grille/grillelaw02.ScalarPlain", spec := "scalarPlain", inPlace := ["internal/bytealg.CountString", "internal/bytealg.IndexByteString", "internal/bytealg.IndexString", "internal/abi.NoEscape", "internal/bytealg.MakeNoZero"], named := ["unicode/utf8.first", "unicode/utf8.acceptRanges", "grille/scalar.named", "internal/bytealg.MaxLen"], apart := false, laid := [("unicode/utf8.acceptRanges", laid_unicode_utf8_acceptRanges), ("grille/scalar.named", laid_grille_scalar_named), ("unicode/utf8.first", laid_unicode_utf8_first)], narrowed := true }
def ScalarPlainUptoSaid : Prop := scalarPlainUptoRow.holds Tryd.pinned (OpenSpec.upto scalarPlainSpec)

/-- 'grillelaw02.ScalarSingle', WHERE WHAT IT READS IS OF BULK AT MOST 1048576: true; the input reads as it did. -/
def scalarSingleUptoRow : OpenClaim := { program := "ytlfmaeodkghbbaadoor", sum := "eec569c968eeca556d6b9a46308f1ad6b6ac1f0d658f11791d625e8d73fab1f5", func := "grille/grillelaw02.ScalarSingle", spec := "scalarSingle", inPlace := ["internal/bytealg.CountString", "internal/bytealg.IndexByteString", "internal/bytealg.IndexString", "internal/abi.NoEscape", "internal/bytealg.MakeNoZero"], named := ["unicode/utf8.first", "unicode/utf8.acceptRanges", "grille/scalar.named", "internal/bytealg.MaxLen"], apart := false, laid := [("unicode/utf8.acceptRanges", laid_unicode_utf8_acceptRanges), ("grille/scalar.named", laid_grille_scalar_named), ("unicode/utf8.first", laid_unicode_utf8_first)], narrowed := true }
def ScalarSingleUptoSaid : Prop := scalarSingleUptoRow.holds Tryd.pinned (OpenSpec.upto scalarSingleSpec)

/-- 'grillelaw02.ScalarEnds', WHERE WHAT IT READS IS OF BULK AT MOST 1048576: true; the input reads as it did. -/
def scalarEndsUptoRow : OpenClaim := { program := "ytlfmaeodkghbbaadoor", sum := "eec569c968eeca556d6b9a46308f1ad6b6ac1f0d658f11791d625e8d73fab1f5", func := "grille/grillelaw02.ScalarEnds", spec := "scalarEnds", inPlace := ["internal/bytealg.CountString", "internal/bytealg.IndexByteString", "internal/bytealg.IndexString", "internal/abi.NoEscape", "internal/bytealg.MakeNoZero"], named := ["unicode/utf8.first", "unicode/utf8.acceptRanges", "grille/scalar.named", "internal/bytealg.MaxLen"], apart := false, laid := [("unicode/utf8.acceptRanges", laid_unicode_utf8_acceptRanges), ("grille/scalar.named", laid_grille_scalar_named), ("unicode/utf8.first", laid_unicode_utf8_first)], narrowed := true }
def ScalarEndsUptoSaid : Prop := scalarEndsUptoRow.holds Tryd.pinned (OpenSpec.upto scalarEndsSpec)

end Rows
end Go.Proofs.YtlfmaeodkghbbaaDoor
