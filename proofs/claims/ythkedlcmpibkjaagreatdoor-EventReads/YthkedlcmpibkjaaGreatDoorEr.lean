/-
  'append' of a whole row of events; the walk of EventParts.
-/
import Derived.Test.YthkedlcmpibkjaaGreatDoorEq
import Derived.Laws.AppendOwnNone
namespace Go.Proofs.YthkedlcmpibkjaaGreatDoor
namespace Ev
theorem kinds_app (a b : List E) : kinds (a ++ b) = kinds a ++ kinds b := by unfold kinds; rw [List.map_append]
theorem right_parts (a : List E) (h : right a = true) : dmax (kinds a) ≤ 40 ∧ a.all filled = true ∧ nested (kinds a) = true := by
  unfold right at h
  simp only [Bool.and_eq_true, decide_eq_true_eq] at h
  exact ⟨h.1, h.2.1, h.2.2⟩
theorem right_app (a b : List E) (h : right a = true) : right (a ++ b) = right b := by
  obtain ⟨h1, h2, h3⟩ := right_parts a h
  unfold right
  rw [kinds_app, dmax_nested _ _ h3, nested_app _ _ h3, List.all_append, h2, Bool.true_and]
  congr 1
  have : (max (dmax (kinds a)) (dmax (kinds b)) ≤ 40) = (dmax (kinds b) ≤ 40) := propext (by omega)
  simp only [this]
theorem print_app (a b : List E) (h : right a = true) (hb : right b = true) : print (a ++ b) = print a ++ print b := by
  unfold print
  rw [right_app a b h, hb, h, if_pos rfl, if_pos rfl, if_pos rfl, List.flatMap_append]
theorem light_small (es : List E) (h : heavy es = false) : ∀ x ∈ es, Small x := fun x hx => by
  have := (light es h).2 x hx
  exact ⟨by omega, by omega, by omega⟩
theorem flat_len (es : List E) (h : ∀ x ∈ es, Small x) : (es.flatMap lineN).length ≤ 700001 * es.length := by
  induction es with
  | nil => simp
  | cons x t ih =>
    have h1 := line_len x (h x (by simp))
    have h2 := ih (fun y hy => h y (by simp [hy]))
    rw [List.flatMap_cons, List.length_append, List.length_cons]
    unfold lineN at h2 ⊢
    rw [List.length_append, List.length_singleton]
    omega
theorem print_len (es : List E) (h : ∀ x ∈ es, Small x) : (print es).length ≤ 700001 * es.length := by
  unfold print
  split
  · exact flat_len es h
  · simp
end Ev
open Go.RowKit
theorem evsCells_len (es : List Ev.E) : (evsCells es).length = es.length * 5 := by
  induction es with
  | nil => rfl
  | cons x t ih =>
    have e : evsCells (x :: t) = evCells x ++ evsCells t := rfl
    rw [e, List.length_append, ih]; simp [evCells]; omega
theorem evsCells_app (a b : List Ev.E) : evsCells (a ++ b) = evsCells a ++ evsCells b := by unfold evsCells; rw [List.flatMap_append]
theorem evsCells_one (es : List Ev.E) : ∀ u ∈ evsCells es, u.oneCell' = true := by
  intro u hu
  unfold evsCells at hu
  rw [List.mem_flatMap] at hu
  obtain ⟨p, _, hu⟩ := hu
  unfold evCells at hu
  simp only [List.mem_cons, List.not_mem_nil, or_false] at hu
  rcases hu with rfl | rfl | rfl | rfl | rfl <;> rfl
/-- append(x, y...), as an equation of its run -/
theorem run_appE (w : World) (ty : TypeId) (B B' : Nat) (v u : Value) (xs ys : List Ev.E) (hv : OwnE w B v xs) (hu : OwnE w B' u ys) (hl : xs.length + ys.length ≤ 1000000000) (hB : B ≤ w.heap.size) :
    ∃ v' w', (Builtin.append_ #[23, 23] ty #[v, u]).run Tryz.prog w = .ok v' w' ∧ OwnE w' B v' (xs ++ ys) ∧ Below B w w' ∧ ∀ k, k < w.heap.size → v.ownBlock ≠ some k → w'.heap[k]? = w.heap[k]? := by
  obtain ⟨i0, hi, hz0, hz1, hz2⟩ := info_parts infoE
  have hu' := hu
  rcases hu.2 with ⟨e, h0⟩ | ⟨g, c, cur, e, _, _⟩
  · subst e
    have : ys = [] := List.length_eq_zero_iff.1 h0
    subst this
    refine ⟨v, w, run_append_owned_none (P := Tryz.prog) (w := w) B 23 ty 34 i0 5 Tryz.underlying23 hi v xs.length (evsCells xs) hv, ?_, Below.refl B w, fun _ _ _ => rfl⟩
    rw [List.append_nil]; exact hv
  subst e
  obtain ⟨v', w', hr, h2, h3, _, _⟩ := run_append_own_at (P := Tryz.prog) w B 23 ty 34 i0 _ 5 64 Tryz.underlying23 hi hz0 hz1 hz2 rfl (by decide) v xs.length (evsCells xs) hv ⟨g, 0, none⟩ ys.length c (evsCells ys) (evsCells_len ys) (World.ownsRow.cells hu' (g := g) rfl) (evsCells_one ys) (by simp only [maxLen]; omega) (by omega) hB
  refine ⟨v', w', hr, ?_, (Below.refl B w).grown h3 hB (fun k hk => (World.ownsRow.lt hv k hk).1), fun k hk hne => h3.block k hk hne.symm⟩
  unfold OwnE
  rw [List.length_append, evsCells_app]; exact h2
theorem wpList_appE {ops : Array Oper} {rest : List Oper} {o : Oper} {a : Act} {Q : Exit → Act → World → Prop} {w : World} (hgd : o.guard = none) (s x : Operand)
    (ho : o.op = .call { callee := .builtin .append, args := #[s, x], argTypes := #[23, 23] }) (B B' : Nat) (v u : Value) (xs ys : List Ev.E) (hs : a.eval s = v) (hx : a.eval x = u)
    (hv : OwnE w B v xs) (hu : OwnE w B' u ys) (hl : xs.length + ys.length ≤ 1000000000) (hB : B ≤ w.heap.size)
    (h : ∀ v' w', OwnE w' B v' (xs ++ ys) → Below B w w' → (∀ k, k < w.heap.size → v.ownBlock ≠ some k → w'.heap[k]? = w.heap[k]?) → wpList Tryz.prog ops Q rest (a.put o.dst v') w') : wpList Tryz.prog ops Q (o :: rest) a w := by
  obtain ⟨v', w', hr, h2, h3, h4⟩ := run_appE w o.type B B' v u xs ys hv hu hl hB
  refine wpList_plain hgd fun K hK => ?_
  unfold Oper.wp execOp
  simp only [ho, resolve, invoke, builtin, Sem.run_bind, Sem.run_pure, Result.andThen_ok, List.map_toArray, List.map_cons, List.map_nil, hs, hx, hr]
  exact hK _ _ (h v' w' h2 h3 h4)
end Go.Proofs.YthkedlcmpibkjaaGreatDoor
