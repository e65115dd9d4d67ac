/-
  What the listed variables give; a world for the witness.
-/
import Derived.Test.YtegkdlimkgfheaaDoorCards
import Derived.Test.YtegkdlimkgfheaaDoorTie
import Derived.Test.YtegkdlimkgfheaaDoorFp
import Derived.ProofKit
import Derived.OpenShut
import Derived.Deep.DeepHandedRow
import Derived.Lib.LaidTab
import Derived.Lib.LaidU8
import Derived.PinnedBridge
import Derived.DataShut
namespace Go.Proofs.YtegkdlimkgfheaaDoor
open Go.ChangeShapes Go.WideShapes Go.ChangeAt Go.RowKit Go.Lib

theorem own : ownKnob Tryd.prog.godebug = none := by kernel_rfl
/-- the list that the row of this seat bears -/
def laidL : List (String × DataW Unit) := [("math/bits.deBruijn32tab", Rows.laid_math_bits_deBruijn32tab), ("math/bits.deBruijn64tab", Rows.laid_math_bits_deBruijn64tab), ("internal/strconv.optimize", Rows.laid_internal_strconv_optimize), ("internal/strconv.uint64pow10", Rows.laid_internal_strconv_uint64pow10), ("internal/strconv.leftcheats", Rows.laid_internal_strconv_leftcheats), ("internal/strconv.pow10Tab", Rows.laid_internal_strconv_pow10Tab)]
def bruZ : List Int := [0, 1, 56, 2, 57, 49, 28, 3, 61, 58, 42, 50, 38, 29, 17, 4, 62, 47, 59, 36, 45, 43, 51, 22, 53, 39, 33, 30, 24, 18, 12, 5, 63, 55, 48, 27, 60, 41, 37, 16, 46, 35, 44, 21, 52, 32, 23, 11, 54, 26, 40, 15, 34, 20, 31, 10, 25, 14, 19, 9, 13, 8, 7, 6]
theorem bru_eq : (Rows.laid_math_bits_deBruijn64tab : DataW Unit) = tabData .u8 bruZ := by kernel_rfl
theorem pow_eq : (Rows.laid_internal_strconv_uint64pow10 : DataW Unit) = tabData .u64 pow10Tab := by kernel_rfl
theorem gBru : Tryd.prog.globalNamed "math/bits.deBruijn64tab" = some 5 := by kernel_rfl
theorem gTab : Tryd.prog.globalNamed "internal/strconv.pow10Tab" = some 6 := by kernel_rfl
theorem gLeft : Tryd.prog.globalNamed "internal/strconv.leftcheats" = some 7 := by kernel_rfl
theorem tyBru : (Tryd.prog.globals[5]?).map (·.type) = some 106 := by kernel_rfl
theorem tyPow : (Tryd.prog.globals[1]?).map (·.type) = some 64 := by kernel_rfl
theorem tyTab : (Tryd.prog.globals[6]?).map (·.type) = some 109 := by kernel_rfl
theorem tab_of {W : World} {name : String} {k : IntKind} {zs : List Int} {g : Nat} {t e : TypeId} {n : Nat}
    (hg : Tryd.prog.globalNamed name = some g) (hty : (Tryd.prog.globals[g]?).map (·.type) = some t) (ht : Tryd.prog.underlying t = some (.array n e)) (he : Tryd.prog.underlying e = some (.int k)) (hce : Tryd.prog.cellsOf e = 1) (hct : Tryd.prog.cellsOf t = n)
    (h : VarReads Tryd.prog W name (tabData k zs)) : TabIs Tryd.prog W name k zs := by
  obtain ⟨g', t', cs, fuel, p, hg', ht', hvar, hd⟩ := h
  obtain rfl := Option.some.inj (hg.symm.trans hg')
  obtain rfl := Option.some.inj (hty.symm.trans ht')
  unfold TabIs
  rw [hvar, ← cells_of_tab ht he hce hct hd]
theorem u64_of_wf {n : Int} (h : (Lit.int .u64 n).wf = true) : U64 n := by
  have := (Lit.wf_int_iff .u64 n).1 h
  exact this
theorem p10_of {W : World} (h : VarReads Tryd.prog W "internal/strconv.pow10Tab" Rows.laid_internal_strconv_pow10Tab) : P10 W := by
  obtain ⟨g, t, cs, fuel, p, hg, hty, hvar, hd⟩ := h
  obtain rfl := Option.some.inj (gTab.symm.trans hg)
  obtain rfl := Option.some.inj (tyTab.symm.trans hty)
  obtain ⟨ds, hds⟩ : ∃ ds, Rows.laid_internal_strconv_pow10Tab = (.agg ds : DataW Unit) := ⟨_, rfl⟩
  rw [hds] at hd
  have c108 : Tryd.prog.cellsOf 108 = 2 := by kernel_rfl
  have c25 : Tryd.prog.cellsOf 25 = 1 := by kernel_rfl
  intro i hi
  obtain ⟨fuel', d, q, hdi, he⟩ := array_elem Tryd.underlying109 hd i hi
  rw [c108] at he
  obtain ⟨y0, y1, n, hx, hl, hy0, hy1⟩ := trod_struct2 Tryd.underlying108 he
  rw [c25] at hy0 hy1
  obtain ⟨z0, e0, _, w0⟩ := DataW.trod_int Tryd.underlying25 hy0
  obtain ⟨z1, e1, _, w1⟩ := DataW.trod_int Tryd.underlying25 hy1
  have e0 := congrArg (·[0]?) e0
  have e1 := congrArg (·[0]?) e1
  simp [List.getElem?_drop] at e0 e1
  have v0 := World.var?_cell hg hvar (i * 2)
  have v1 := World.var?_cell hg hvar (i * 2 + 1)
  rw [e0] at v0
  rw [e1] at v1
  exact ⟨z0, z1, u64_of_wf w0, u64_of_wf w1, v0, v1⟩
theorem env_of_laid {W : World} (h : laidMetH Tryd.prog laidL W) : Env W := by
  have h' : laidMet Tryd.prog laidL W := h
  have hb := laidMet.reads h' (n := "math/bits.deBruijn64tab") (d := Rows.laid_math_bits_deBruijn64tab) (by simp [laidL])
  have hp := laidMet.reads h' (n := "internal/strconv.uint64pow10") (d := Rows.laid_internal_strconv_uint64pow10) (by simp [laidL])
  have ht := laidMet.reads h' (n := "internal/strconv.pow10Tab") (d := Rows.laid_internal_strconv_pow10Tab) (by simp [laidL])
  have hl := laidMet.reads h' (n := "internal/strconv.leftcheats") (d := Rows.laid_internal_strconv_leftcheats) (by simp [laidL])
  rw [bru_eq] at hb
  rw [pow_eq] at hp
  have tb := tab_of gBru tyBru Tryd.underlying106 Tryd.underlying5 (by kernel_rfl) (by kernel_rfl) hb
  have tp := tab_of gPow tyPow Tryd.underlying64 Tryd.underlying25 (by kernel_rfl) (by kernel_rfl) hp
  refine ⟨p10_of ht, ⟨tp, TabIs.cell tp gPow 0 (by decide)⟩, TabIs.cell tb gBru 15 (by decide), TabIs.cell tb gBru 7 (by decide), ?_⟩
  obtain ⟨g, t, cs, fuel, p, hg, hty, hvar, hd⟩ := hl
  obtain rfl := Option.some.inj (gLeft.symm.trans hg)
  unfold World.var? at hvar
  rw [hg] at hvar
  simp only [Option.bind_some] at hvar
  rcases Nat.lt_or_ge 7 W.heap.size with hlt | hge
  · omega
  · exfalso
    rw [Array.getElem?_eq_none hge] at hvar
    cases hvar
end Go.Proofs.YtegkdlimkgfheaaDoor
