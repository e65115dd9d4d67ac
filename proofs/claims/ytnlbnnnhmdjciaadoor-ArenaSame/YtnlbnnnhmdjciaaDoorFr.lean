/-
  The frame that all laws of this seat share: what the listed variables give, and a world for the witness.
-/
import Derived.Test.YtnlbnnnhmdjciaaDoorCards
import Derived.Test.YtnlbnnnhmdjciaaDoorTie
import Derived.Test.YtnlbnnnhmdjciaaDoorEn
import Derived.Lib.LaidU8T
import Derived.ProofKit
import Derived.OpenShut
import Derived.Deep.DeepHandedRow
import Derived.Lib.LaidTab
import Derived.Lib.LaidU8
import Derived.PinnedBridge
namespace Go.Proofs.YtnlbnnnhmdjciaaDoor
open Go.ChangeShapes Go.WideShapes Go.ChangeAt Go.RowKit Go.Lib

theorem own : ownKnob Tryd.prog.godebug = none := by kernel_rfl
/-- the list that every row of this seat bears -/
def laidL : List (String × DataW Unit) := [("math/bits.deBruijn32tab", Rows.laid_math_bits_deBruijn32tab), ("math/bits.deBruijn64tab", Rows.laid_math_bits_deBruijn64tab), ("internal/strconv.uint64pow10", Rows.laid_internal_strconv_uint64pow10), ("unicode/utf8.acceptRanges", Rows.laid_unicode_utf8_acceptRanges), ("grille/scalar.named", Rows.laid_grille_scalar_named), ("unicode/utf8.first", Rows.laid_unicode_utf8_first)]
theorem accept_eq : (Rows.laid_unicode_utf8_acceptRanges : DataW Unit) = acceptData := by kernel_rfl
theorem gNamed : Tryd.prog.globalNamed "grille/scalar.named" = some 2 := by kernel_rfl
theorem gNamedType : (Tryd.prog.globals[2]?).map (·.type) = some 86 := by kernel_rfl
theorem cells64 : Tryd.prog.cellsOf 85 = 2 := by kernel_rfl
theorem cells65 : Tryd.prog.cellsOf 86 = 30 := by kernel_rfl
theorem cells21 : Tryd.prog.cellsOf 21 = 1 := by kernel_rfl
theorem cells5 : Tryd.prog.cellsOf 5 = 1 := by kernel_rfl
theorem u8x : U8Extra Tryd.prog Tryd.lays196_ren where
  n3 := by kernel_rfl
  n4 := by kernel_rfl
  y3 := by kernel_rfl
  y4 := by kernel_rfl
  c5 := by kernel_rfl
  c119 := by kernel_rfl
  c138 := by kernel_rfl

theorem named_data (i : Nat) (hi : i < 15) : ∃ c b : Int, (namedCells.toList[2 * i]? = some (.int .i32 c) ∧ namedCells.toList[2 * i + 1]? = some (.int .u8 b)) ∧
    ∀ ds : List (DataW Unit), Rows.laid_grille_scalar_named = (.agg ds : DataW Unit) → ds[i]? = some (.agg [.lit (.int .i32 c), .lit (.int .u8 b)]) := by
  match i, hi with
  | 0, _ => exact ⟨34, 34, ⟨rfl, rfl⟩, fun ds h => by cases h; rfl⟩
  | 1, _ => exact ⟨92, 92, ⟨rfl, rfl⟩, fun ds h => by cases h; rfl⟩
  | 2, _ => exact ⟨0, 48, ⟨rfl, rfl⟩, fun ds h => by cases h; rfl⟩
  | 3, _ => exact ⟨7, 97, ⟨rfl, rfl⟩, fun ds h => by cases h; rfl⟩
  | 4, _ => exact ⟨8, 98, ⟨rfl, rfl⟩, fun ds h => by cases h; rfl⟩
  | 5, _ => exact ⟨9, 116, ⟨rfl, rfl⟩, fun ds h => by cases h; rfl⟩
  | 6, _ => exact ⟨10, 110, ⟨rfl, rfl⟩, fun ds h => by cases h; rfl⟩
  | 7, _ => exact ⟨11, 118, ⟨rfl, rfl⟩, fun ds h => by cases h; rfl⟩
  | 8, _ => exact ⟨12, 102, ⟨rfl, rfl⟩, fun ds h => by cases h; rfl⟩
  | 9, _ => exact ⟨13, 114, ⟨rfl, rfl⟩, fun ds h => by cases h; rfl⟩
  | 10, _ => exact ⟨27, 101, ⟨rfl, rfl⟩, fun ds h => by cases h; rfl⟩
  | 11, _ => exact ⟨133, 78, ⟨rfl, rfl⟩, fun ds h => by cases h; rfl⟩
  | 12, _ => exact ⟨160, 95, ⟨rfl, rfl⟩, fun ds h => by cases h; rfl⟩
  | 13, _ => exact ⟨8232, 76, ⟨rfl, rfl⟩, fun ds h => by cases h; rfl⟩
  | 14, _ => exact ⟨8233, 80, ⟨rfl, rfl⟩, fun ds h => by cases h; rfl⟩

theorem named_cells {W : World} (h : VarReads Tryd.prog W "grille/scalar.named" Rows.laid_grille_scalar_named) : ∃ t fr, W.heap[2]? = some (.cells namedCells t fr) := by
  obtain ⟨g, t, cs, fuel, p, hg, hty, hvar, hd⟩ := h
  obtain rfl := Option.some.inj (gNamed.symm.trans hg)
  obtain rfl := Option.some.inj (gNamedType.symm.trans hty)
  obtain ⟨ds, hds⟩ : ∃ ds, Rows.laid_grille_scalar_named = (.agg ds : DataW Unit) := ⟨_, rfl⟩
  rw [hds] at hd
  have hlen : cs.toList.length = 30 := by
    cases fuel with
    | zero => simp [DataW.trod] at hd
    | succ fuel =>
      simp only [DataW.trod, Tryd.underlying86, cells65] at hd
      split at hd
      · assumption
      · cases hd
  have hcs : cs.toList = namedCells.toList := by
    apply List.ext_getElem?
    intro j
    by_cases hj : j < 30
    · obtain ⟨c, b, ⟨n1, n2⟩, hdat⟩ := named_data (j / 2) (by omega)
      obtain ⟨fuel', d, q, hdi, he⟩ := array_elem Tryd.underlying86 hd (j / 2) (by omega)
      rw [hdat ds hds] at hdi
      cases hdi
      rw [cells64] at he
      obtain ⟨y0, y1, n, hx, hl, hy0, hy1⟩ := trod_struct2 Tryd.underlying85 he
      rw [cells21] at hy0
      rw [cells5] at hy1
      obtain ⟨z0, e0, rfl, _⟩ := DataW.trod_int Tryd.underlying21 hy0
      obtain ⟨z1, e1, rfl, _⟩ := DataW.trod_int Tryd.underlying5 hy1
      simp at hx
      obtain ⟨⟨rfl, rfl⟩, _⟩ := hx
      have e0 := congrArg (·[0]?) e0
      have e1 := congrArg (·[0]?) e1
      simp [List.getElem?_drop] at e0 e1
      rcases Nat.mod_two_eq_zero_or_one j with hm | hm
      · rw [show j / 2 * 2 = j by omega] at e0
        rw [show 2 * (j / 2) = j by omega] at n1
        rw [n1, Array.getElem?_toList, e0]
      · rw [show j / 2 * 2 + 1 = j by omega] at e1
        rw [show 2 * (j / 2) + 1 = j by omega] at n2
        rw [n2, Array.getElem?_toList, e1]
    · rw [List.getElem?_eq_none (by omega), List.getElem?_eq_none (by show 30 ≤ j; omega)]
  have hcs' : cs = namedCells := by
    rw [← Array.toArray_toList (xs := cs), hcs]
  subst hcs'
  unfold World.var? at hvar
  rw [hg] at hvar
  simp only [Option.bind_some] at hvar
  cases hh : W.heap[2]? with
  | none => rw [hh] at hvar; cases hvar
  | some o =>
    rw [hh] at hvar
    cases o with
    | cells c t fr => cases hvar; exact ⟨t, fr, rfl⟩
    | _ => cases hvar

theorem pow_eq : (Rows.laid_internal_strconv_uint64pow10 : DataW Unit) = tabData .u64 pow10Tab := by kernel_rfl
theorem tyPow : (Tryd.prog.globals[3]?).map (·.type) = some 112 := by kernel_rfl
theorem tab_of {W : World} {name : String} {k : IntKind} {zs : List Int} {g : Nat} {t e : TypeId} {n : Nat}
    (hg : Tryd.prog.globalNamed name = some g) (hty : (Tryd.prog.globals[g]?).map (·.type) = some t) (ht : Tryd.prog.underlying t = some (.array n e)) (he : Tryd.prog.underlying e = some (.int k)) (hce : Tryd.prog.cellsOf e = 1) (hct : Tryd.prog.cellsOf t = n)
    (h : VarReads Tryd.prog W name (tabData k zs)) : TabIs Tryd.prog W name k zs := by
  obtain ⟨g', t', cs, fuel, p, hg', ht', hvar, hd⟩ := h
  obtain rfl := Option.some.inj (hg.symm.trans hg')
  obtain rfl := Option.some.inj (hty.symm.trans ht')
  unfold TabIs
  rw [hvar, ← cells_of_tab ht he hce hct hd]
theorem env_of_laid {W : World} (h : laidMetH Tryd.prog laidL W) (_ : W.ShapedOpen Tryd.prog) : Env W := by
  have h' : laidMet Tryd.prog laidL W := h
  refine ⟨?_, ?_, ?_⟩
  · have h3 := laidMet.reads h' (n := "unicode/utf8.first") (d := Rows.laid_unicode_utf8_first) (by simp [laidL])
    have h4 := laidMet.reads h' (n := "unicode/utf8.acceptRanges") (d := Rows.laid_unicode_utf8_acceptRanges) (by simp [laidL])
    unfold Rows.laid_unicode_utf8_first at h3
    rw [Pinned.utf8First_eq] at h3
    rw [accept_eq] at h4
    exact utf8Tabs_of_readsT (U8Types.of196 Tryd.lays196) u8x h3 h4
  · exact named_cells (laidMet.reads h' (by simp [laidL]))
  · have hp := laidMet.reads h' (n := "internal/strconv.uint64pow10") (d := Rows.laid_internal_strconv_uint64pow10) (by simp [laidL])
    rw [pow_eq] at hp
    exact tab_of powG tyPow Tryd.underlying112 Tryd.underlying81 (by kernel_rfl) (by kernel_rfl) hp

/-- a block of cells, holding others -/
def refill (cs : Array Value) : Obj → Obj
  | .cells _ t frozen => .cells cs t frozen
  | o => o
/-- a listed table's cells -/
def dataCells : DataW Unit → Array Value
  | .agg ds => (ds.map fun | .lit (.int k n) => Value.int k n | _ => .int .u8 0).toArray
  | _ => #[]
def firstCells : Array Value := (Go.Pinned.utf8FirstZ.map fun (n : Nat) => Value.int .u8 (n : Int)).toArray
def acceptCells : Array Value := #[.int .u8 128, .int .u8 191, .int .u8 160, .int .u8 191, .int .u8 128, .int .u8 159, .int .u8 144, .int .u8 191, .int .u8 128, .int .u8 143, .int .u8 0, .int .u8 0, .int .u8 0, .int .u8 0, .int .u8 0, .int .u8 0, .int .u8 0, .int .u8 0, .int .u8 0, .int .u8 0, .int .u8 0, .int .u8 0, .int .u8 0, .int .u8 0, .int .u8 0, .int .u8 0, .int .u8 0, .int .u8 0, .int .u8 0, .int .u8 0, .int .u8 0, .int .u8 0]
/-- A WORLD FOR THE WITNESS: the settled one, the tables holding what their initialisers lay. -/
noncomputable def laidWorld (os : Os) : World :=
  { World.holding Tryd.prog os ⟨#[], #[], []⟩ with heap := ((((((World.holding Tryd.prog os ⟨#[], #[], []⟩).heap.modify 0 (refill firstCells)).modify 1 (refill acceptCells)).modify 2 (refill namedCells)).modify 3 (refill (dataCells Rows.laid_internal_strconv_uint64pow10))).modify 4 (refill (dataCells Rows.laid_math_bits_deBruijn32tab))).modify 5 (refill (dataCells Rows.laid_math_bits_deBruijn64tab)) }
theorem laid_met (os : Os) : laidMet Tryd.prog laidL ((laidWorld os).forCall (fun _ _ => 0) ⟨#[], #[.string ⟨#[]⟩], []⟩).memory :=
  laidMet_of_run' 8 (by kernel_rfl) (by kernel_rfl)
end Go.Proofs.YtnlbnnnhmdjciaaDoor
