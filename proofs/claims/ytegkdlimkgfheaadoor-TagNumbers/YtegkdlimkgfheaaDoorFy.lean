/-
  The witness' world is shaped as the program's variables are.
-/
import Derived.Test.YtegkdlimkgfheaaDoorFx
namespace Go.Proofs.YtegkdlimkgfheaaDoor
open Go.ChangeShapes Go.WideShapes Go.ChangeAt Go.RowKit Go.Lib

theorem three {P : Program} {W : World} {base : Nat} {t0 t1 t2 : TypeId} {v0 v1 v2 : Value} (hval : ∀ (j : Nat) t v, (#[t0, t1, t2] : Array TypeId)[j]? = some t → (#[v0, v1, v2])[j]? = some v → Value.okWide P W .any base t v) :
    Value.okWide P W .any base t0 v0 ∧ Value.okWide P W .any base t1 v1 ∧ Value.okWide P W .any base t2 v2 := ⟨hval 0 t0 v0 rfl rfl, hval 1 t1 v1 rfl rfl, hval 2 t2 v2 rfl rfl⟩
theorem cell_ok (w : World) (x : Nat) (h : (Lit.int .u64 x).wf = true) : Cell.ok Tryd.prog w .any 0 25 (.int .u64 x) := by
  unfold Cell.ok
  rw [Tryd.underlying25]
  have := u64_of_wf h
  exact ⟨rfl, this⟩
theorem tab_types : Tryd.prog.cellTypes Tryd.prog.depth 109 = some (List.replicate 1392 25) := by kernel_rfl
theorem both_at {α : Type} {p q : α → Bool} {l : List α} (h : (l.all fun x => p x && q x) = true) (x : α) (hx : x ∈ l) : p x = true ∧ q x = true := by
  have := List.all_eq_true.1 h x hx
  rwa [Bool.and_eq_true] at this
theorem rows_wf_at (x : Nat × Nat) (hx : x ∈ Go.Pinned.pow10Rows) : (Lit.int .u64 x.1).wf = true ∧ (Lit.int .u64 x.2).wf = true := both_at rows_wf x hx
theorem pair_all {l : List (Nat × Nat)} {Q : Value → Prop} (h : ∀ x ∈ l, Q (.int .u64 x.1) ∧ Q (.int .u64 x.2)) (v : Value) (hv : v ∈ l.flatMap pairCells) : Q v := by
  obtain ⟨x, hxm, hx⟩ := List.mem_flatMap.1 hv
  simp only [pairCells, List.mem_cons, List.not_mem_nil, or_false] at hx
  rcases hx with rfl | rfl
  · exact (h x hxm).1
  · exact (h x hxm).2
set_option maxRecDepth 100000 in
theorem tab_row_ok (w : World) : Row.ok Tryd.prog w .any 0 109 tabCells := by
  refine ⟨_, tab_types, ⟨1, by rw [tab_size, List.length_replicate]⟩, ?_⟩
  intro i v hv
  have hi : i % 1392 < 1392 := Nat.mod_lt _ (by decide)
  refine ⟨25, by rw [List.length_replicate, List.getElem?_replicate, if_pos hi], ?_⟩
  have hm : v ∈ tabCells.toList := Array.mem_toList_iff.2 (Array.mem_of_getElem? hv)
  have hl : tabCells.toList = Go.Pinned.pow10Rows.flatMap pairCells := rfl
  rw [hl] at hm
  exact pair_all (Q := fun v => Cell.ok Tryd.prog w .any 0 25 v) (fun x hx => ⟨cell_ok w _ (rows_wf_at x hx).1, cell_ok w _ (rows_wf_at x hx).2⟩) v hm
noncomputable abbrev beginW : World := (begin Tryd.prog (fun _ _ => 0) default).world
noncomputable abbrev callW (os : Os) : World := (laidWorld os).forCall (fun _ _ => 0) ⟨#[], wargs, []⟩
theorem tab_zero : ((beginW.heap[6]?).bind Obj.row?).map (fun x => (x.1.size, x.2)) = some (1392, 109) := by kernel_rfl
theorem tab_blockC (os : Os) : (callW os).heap[6]? = some (.cells tabCells 109 (0, 0)) := by kernel_rfl
/-- a variable is shaped, the great table left out -/
noncomputable def varOk (w : World) (g : Nat) : Bool :=
  match (beginW.heap[g]?).bind Obj.row? with
    | none => true
    | some (zero, t) =>
      match w.heap[g]? with
      | some (.cells cs t' frozen) => decide (t' = t) && decide (frozen = (0, 0)) && cs.size == zero.size && (!Tryd.prog.buildable t || Row.okRefB Tryd.prog w t cs)
      | _ => false
theorem others_ok (os : Os) : ((List.range Tryd.prog.globals.size).all fun g => g == 6 || varOk (callW os) g) = true := by kernel_rfl
theorem shaped (os : Os) (hr : ((callW os).heap.toList.drop Tryd.prog.globals.size).take (beginW.heap.size - Tryd.prog.globals.size) = beginW.heap.toList.drop Tryd.prog.globals.size) : (callW os).Shaped Tryd.prog := by
  refine ⟨fun g zero t hg hz => ?_, fun k h1 h2 => ?_⟩
  case refine_2 =>
    have := congrArg (·[k - Tryd.prog.globals.size]?) hr
    simp only [List.getElem?_take, List.getElem?_drop, Array.getElem?_toList] at this
    rw [if_pos (Nat.sub_lt_sub_right h1 h2), Nat.add_sub_cancel' h1] at this
    exact this
  by_cases h6 : g = 6
  · subst h6
    have hz' := tab_zero
    rw [hz] at hz'
    simp only [Option.map_some, Option.some.injEq, Prod.mk.injEq] at hz'
    obtain ⟨hs, rfl⟩ := hz'
    exact ⟨tabCells, tab_blockC os, by rw [tab_size, hs], fun _ => tab_row_ok _⟩
  have := List.all_eq_true.1 (others_ok os) g (List.mem_range.2 hg)
  rw [Bool.or_eq_true] at this
  rcases this with this | this
  · exact absurd (by simpa using this) h6
  unfold varOk at this
  rw [hz] at this
  simp only at this
  split at this
  · rename_i cs t' fr hw
    simp only [Bool.and_eq_true, decide_eq_true_eq, beq_iff_eq, Bool.or_eq_true, Bool.not_eq_true'] at this
    obtain ⟨⟨⟨rfl, rfl⟩, hs⟩, hb⟩ := this
    refine ⟨cs, hw, hs, fun hbuild => ?_⟩
    rcases hb with hb | hb
    · rw [hbuild] at hb; cases hb
    · exact Row.ok_of_okRefB hb
  · cases this
theorem rest_same (os : Os) : ((callW os).heap.toList.drop Tryd.prog.globals.size).take (beginW.heap.size - Tryd.prog.globals.size) = beginW.heap.toList.drop Tryd.prog.globals.size := by kernel_rfl
end Go.Proofs.YtegkdlimkgfheaaDoor
