/-
  A world for the witness: the listed tables hold what their initialisers lay. The great table is read by proof, the others by the kernel's run.
-/
import Derived.Test.YtegkdlimkgfheaaDoorFw
import Derived.Lib.LaidIn
import Derived.Deep.DeepWitnessRowRef
namespace Go.Proofs.YtegkdlimkgfheaaDoor
open Go.ChangeShapes Go.WideShapes Go.ChangeAt Go.RowKit Go.Lib

/-- a block of cells, holding others -/
def refill (cs : Array Value) : Obj → Obj
  | .cells _ t frozen => .cells cs t frozen
  | o => o
def u8s (l : List Int) : Array Value := (l.map fun n => Value.int .u8 n).toArray
def bru32Z : List Int := [0, 1, 28, 2, 29, 14, 24, 3, 30, 22, 20, 15, 25, 17, 4, 8, 31, 27, 13, 23, 21, 19, 16, 7, 26, 12, 18, 6, 11, 5, 10, 9]
def powCells : Array Value := (pow10Tab.map fun n => Value.int .u64 n).toArray
def pairCells (x : Nat × Nat) : List Value := [.int .u64 x.1, .int .u64 x.2]
def tabCells : Array Value := (Go.Pinned.pow10Rows.flatMap pairCells).toArray
def leftCells : Array Value := (Go.Pinned.cheatRows.flatMap fun x => [Value.int .i64 x.1, Value.string ⟨x.2.toArray⟩]).toArray
noncomputable def low : Nat := (World.holding Tryd.prog default ⟨#[], #[], []⟩).heap.size
noncomputable def laidWorld (os : Os) : World :=
  let w0 := World.holding Tryd.prog os ⟨#[.cells leftCells 115], #[], []⟩
  { w0 with heap := (((((w0.heap.modify 1 (refill powCells)).modify 2 (refill #[.bool true])).modify 4 (refill (u8s bru32Z))).modify 5 (refill (u8s bruZ))).modify 6 (refill tabCells)).modify 7 (refill #[.slice (some ⟨low, 0, none⟩) 61 61]) }
abbrev wargs : Array Value := #[.int .i64 0, .float .f64 0, .int .u8 0]
noncomputable abbrev metWorld (os : Os) : World := ((laidWorld os).forCall (fun _ _ => 0) ⟨#[], wargs, []⟩).memory

def smallL : List (String × DataW Unit) := [("math/bits.deBruijn32tab", Rows.laid_math_bits_deBruijn32tab), ("math/bits.deBruijn64tab", Rows.laid_math_bits_deBruijn64tab), ("internal/strconv.optimize", Rows.laid_internal_strconv_optimize), ("internal/strconv.uint64pow10", Rows.laid_internal_strconv_uint64pow10), ("internal/strconv.leftcheats", Rows.laid_internal_strconv_leftcheats)]

theorem low_eq : low = (World.holding Tryd.prog default ⟨#[], #[], []⟩).heap.size := rfl
theorem small_in (os : Os) : LaidIn Tryd.prog (metWorld os) smallL [4, 5, 2, 1, 7, low] :=
  LaidIn.of_run _ 8 (by kernel_rfl) (by kernel_rfl) (by kernel_rfl) (by kernel_rfl)
theorem mapM_some' {α β : Type} (g : α → Option β) (h : α → β) : ∀ (l : List α), (∀ a ∈ l, g a = some (h a)) → l.mapM g = some (l.map h)
  | [], _ => rfl
  | x :: r, given => by
    rw [List.mapM_cons, given x (.head r), mapM_some' g h r fun a ha => given a (.tail x ha)]
    rfl
theorem flat_pair : ∀ (l : List (Nat × Nat)) (i : Nat) (x : Nat × Nat), l[i]? = some x → ((l.flatMap pairCells).drop (i * 2)).take 2 = pairCells x
  | [], i, x, h => by simp at h
  | y :: t, 0, x, h => by
    simp at h
    subst h
    simp [List.flatMap_cons, pairCells]
  | y :: t, i + 1, x, h => by
    simp at h
    have e : (i + 1) * 2 = i * 2 + 1 + 1 := by omega
    rw [List.flatMap_cons, e]
    simp only [pairCells, List.cons_append, List.nil_append, List.drop_succ_cons]
    exact flat_pair t i x h
theorem flat_len : ∀ (l : List (Nat × Nat)), (l.flatMap pairCells).length = l.length * 2
  | [] => rfl
  | y :: t => by
    rw [List.flatMap_cons, List.length_append, flat_len t, List.length_cons]
    simp only [pairCells, List.length_cons, List.length_nil]
    omega
theorem range_map {α β : Type} (f : α → β) (d : α) (l : List α) (n : Nat) (h : l.length = n) : ((List.range n).map fun i => f (l.getD i d)) = l.map f := by
  subst h
  apply List.ext_getElem?
  intro i
  by_cases hi : i < l.length
  · simp [hi]
  · simp [hi]
def pairData (x : Nat × Nat) : DataW Unit := .agg [.lit (.int .u64 x.1), .lit (.int .u64 x.2)]
set_option maxRecDepth 100000 in
theorem rows_len : Go.Pinned.pow10Rows.length = 696 := by kernel_rfl
set_option maxRecDepth 100000 in
theorem rows_wf : (Go.Pinned.pow10Rows.all fun x => (Lit.int .u64 x.1).wf && (Lit.int .u64 x.2).wf) = true := by kernel_rfl
theorem fields108 : ∃ fs, Tryd.prog.underlying 108 = some (.struct fs) ∧ fs.toList.map (fun f => (f.type, f.offset)) = [(25, 0), (25, 1)] := ⟨_, Tryd.underlying108, by kernel_rfl⟩
theorem pair_reads (w : World) (x : Nat × Nat) (w0 : (Lit.int .u64 x.1).wf = true) (w1 : (Lit.int .u64 x.2).wf = true) (fuel : Nat) :
    DataW.trod (fun _ => ()) Tryd.prog w 0 (fun _ => true) false (fuel + 2) 108 (pairCells x) = some (pairData x, []) := by
  have c108 : Tryd.prog.cellsOf 108 = 2 := by kernel_rfl
  have c25 : Tryd.prog.cellsOf 25 = 1 := by kernel_rfl
  simp [DataW.trod, Tryd.underlying108, Tryd.underlying25, c108, c25, pairCells, pairData, w0, w1]
theorem tab_reads (w : World) : DataW.trod (fun _ => ()) Tryd.prog w 0 (fun _ => true) false 3 109 tabCells.toList = some (Rows.laid_internal_strconv_pow10Tab, []) := by
  have c109 : Tryd.prog.cellsOf 109 = 1392 := by kernel_rfl
  have c108 : Tryd.prog.cellsOf 108 = 2 := by kernel_rfl
  have hl : tabCells.toList = Go.Pinned.pow10Rows.flatMap pairCells := rfl
  have hlen : tabCells.toList.length = 1392 := by rw [hl, flat_len, rows_len]
  have helem : ∀ i ∈ List.range 696, (fun i => DataW.trod (fun _ => ()) Tryd.prog w 0 (fun _ => true) false 2 108 ((tabCells.toList.drop (i * Tryd.prog.cellsOf 108)).take (Tryd.prog.cellsOf 108))) i = some ((fun i => (pairData (Go.Pinned.pow10Rows.getD i (0, 0)), ([] : List MemPlace))) i) := by
    intro i hi
    have hi' := List.mem_range.1 hi
    have hx : Go.Pinned.pow10Rows[i]? = some (Go.Pinned.pow10Rows.getD i (0, 0)) := by
      rw [List.getD_eq_getElem?_getD, List.getElem?_eq_getElem (by rw [rows_len]; exact hi')]
      rfl
    have hm : Go.Pinned.pow10Rows.getD i (0, 0) ∈ Go.Pinned.pow10Rows := List.mem_of_getElem? hx
    have hw := List.all_eq_true.1 rows_wf _ hm
    rw [Bool.and_eq_true] at hw
    show DataW.trod _ _ _ _ _ _ _ _ _ = _
    rw [c108, hl, flat_pair _ i _ hx]
    exact pair_reads w _ hw.1 hw.2 0
  show DataW.trod _ _ _ _ _ _ (2 + 1) _ _ = _
  unfold DataW.trod
  simp only [Tryd.underlying109]
  rw [if_pos (by rw [hlen, c109]), mapM_some' _ _ _ helem]
  simp only [Option.map_some, List.map_map, Option.some.injEq, Prod.mk.injEq]
  constructor
  · show DataW.agg _ = DataW.agg (Go.Pinned.pow10Rows.map pairData)
    exact congrArg DataW.agg (range_map pairData (0, 0) Go.Pinned.pow10Rows 696 rows_len)
  · simp [List.flatMap_map]
theorem tab_block (os : Os) : (metWorld os).heap[6]? = some (.cells tabCells 109 (0, 0)) := by kernel_rfl
theorem tab_cell_no (os : Os) (i : Nat) (u : TypeId) (v : Value) : (metWorld os).cell? ⟨6, i, none⟩ ≠ some (.iface u v) := by
  intro h
  rw [Lib.cell_of_heap (tab_block os)] at h
  have hm : Value.iface u v ∈ tabCells.toList := by
    have := Array.mem_of_getElem? h
    exact Array.mem_toList_iff.2 this
  have hl : tabCells.toList = Go.Pinned.pow10Rows.flatMap pairCells := rfl
  rw [hl] at hm
  obtain ⟨x, _, hx⟩ := List.mem_flatMap.1 hm
  simp [pairCells] at hx
theorem tab_size : tabCells.size = 1392 := by
  have hl : tabCells.toList = Go.Pinned.pow10Rows.flatMap pairCells := rfl
  rw [← Array.length_toList, hl, flat_len, rows_len]
theorem rows_fit {P : Program} {W : World} {g : Nat} {c : Array Value} {t : TypeId} (n : Nat) (h1 : W.heap[g]? = some (.cells c t (0, 0))) (h2 : ∀ (i : Nat) (u : TypeId) (v : Value), W.cell? ⟨g, i, none⟩ ≠ some (.iface u v)) : RowsFit P W (MemPlace.row ⟨g, 0, none⟩ n) := by
  intro b off hp
  obtain ⟨i, _, e⟩ := MemPlace.mem_row.1 hp
  cases e
  exact ⟨⟨_, _, h1⟩, fun u v hc => absurd hc (h2 _ u v)⟩
theorem tab_in (os : Os) : LaidIn Tryd.prog (metWorld os) [("internal/strconv.pow10Tab", Rows.laid_internal_strconv_pow10Tab)] [6] := by
  refine LaidIn.one (fuel := 3) (p := []) (cs := tabCells) [6] gTab tyTab ?_ (tab_reads _) ?_ ?_ ?_
  · unfold World.var?
    rw [gTab]
    simp only [Option.bind_some]
    rw [tab_block os]
  · rw [List.append_nil]
    exact rowP_nodup _ _
  · rw [List.append_nil]
    exact rows_fit _ (tab_block os) (tab_cell_no os)
  · intro x hx
    rw [List.append_nil] at hx
    obtain ⟨i, _, rfl⟩ := MemPlace.mem_row.1 hx
    simp [MemPlace.block]
theorem apart6 : ([4, 5, 2, 1, 7, low].all fun b => !([6].contains b)) = true := by kernel_rfl
theorem laid_met (os : Os) : laidMet Tryd.prog laidL (metWorld os) := ((small_in os).append (tab_in os) apart6).met
end Go.Proofs.YtegkdlimkgfheaaDoor
