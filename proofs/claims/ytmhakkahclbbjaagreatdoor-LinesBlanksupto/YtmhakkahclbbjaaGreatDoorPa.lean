/-
  'append' of a whole row of lines onto lines that the call owns.
-/
import Derived.Test.YtmhakkahclbbjaaGreatDoorOb
import Derived.Test.YtmhakkahclbbjaaGreatDoorMp
import Derived.Laws.AppendOwnNone
import Derived.BigFrame
namespace Go.Proofs.YtmhakkahclbbjaaGreatDoor
open Go.RowKit

theorem lineCells_app (a b : List (Lx.Ln × Value)) : lineCells (a ++ b) = lineCells a ++ lineCells b := by
  unfold lineCells; rw [List.flatMap_append]
theorem lineCells_len (ps : List (Lx.Ln × Value)) : (lineCells ps).length = ps.length * 4 := by
  induction ps with
  | nil => rfl
  | cons x t ih =>
    have e : lineCells (x :: t) = [.int .i64 x.1.mark, .int .i64 x.1.indent, x.2, .string (str x.1.text)] ++ lineCells t := rfl
    rw [e, List.length_append, ih]; simp; omega
theorem OwnL.base {w : World} {B B' : Nat} {v : Value} {ls : List Lx.Ln} (h : OwnL w B v ls) (hB : B' ≤ B) : OwnL w B' v ls := by
  obtain ⟨ps, h1, h2, h3⟩ := h
  exact ⟨ps, h1, row_base h2 hB, fun p hp => row_base (h3 p hp) hB⟩
theorem OwnL.form {w : World} {B : Nat} {v : Value} {ls : List Lx.Ln} (h : OwnL w B v ls) : ∃ a c, v = .slice a ls.length c := by
  obtain ⟨ps, h1, h2, h3⟩ := h
  exact own_slice h2
theorem OwnL.lt {w : World} {B : Nat} {v : Value} {ls : List Lx.Ln} (h : OwnL w B v ls) (k : Nat) (hk : v.ownBlock = some k) : k < w.heap.size := by
  obtain ⟨ps, h1, h2, h3⟩ := h
  exact (World.ownsRow.lt h2 k hk).2
theorem OwnLR.kept {w w' : World} {B : Nat} {v : Value} {ls : List Lx.Ln} (h : OwnLR w B v ls) (hk : ∀ k, B ≤ k → k < w.heap.size → w'.heap[k]? = w.heap[k]?) : OwnLR w' B v ls := by
  obtain ⟨ps, h1, h2, h3⟩ := h
  have key : ∀ {e z n : Nat} {q : Value} {zs : List Value}, w.ownsRow B e z q n zs → w'.ownsRow B e z q n zs := fun hq => row_kept hq fun k hkk => hk k (World.ownsRow.lt hq k hkk).1 (World.ownsRow.lt hq k hkk).2
  exact ⟨ps, h1, key h2, fun p hp => key (h3 p hp)⟩
/-- append(x, y...), as an equation of its run -/
theorem run_appL (w : World) (ty : TypeId) (B : Nat) (v u : Value) (xs ys : List Lx.Ln) (hv : OwnL w B v xs) (hu : OwnL w B u ys) (hl : xs.length + ys.length ≤ 2000000) (hB : B ≤ w.heap.size) :
    ∃ v' w', (Builtin.append_ #[24, 24] ty #[v, u]).run Tryz.prog w = .ok v' w' ∧ OwnL w' B v' (xs ++ ys) ∧ Below B w w' ∧ ∀ k, k < w.heap.size → v.ownBlock ≠ some k → w'.heap[k]? = w.heap[k]? := by
  have hv0 := hv
  obtain ⟨ps, hp1, hp2, hp3⟩ := hv
  obtain ⟨qs, hq1, hq2, hq3⟩ := hu
  obtain ⟨i0, hi, hz0, hz1, hz2⟩ := info_parts infoL
  have hql : qs.length = ys.length := by rw [← hq1, List.length_map]
  have hq2' := hq2
  rcases hq2.2 with ⟨e, h0⟩ | ⟨g, c, cur, e, _, _⟩
  · subst e
    have : ys = [] := List.length_eq_zero_iff.1 h0
    subst this
    refine ⟨v, w, run_append_owned_none (P := Tryz.prog) (w := w) B 24 ty 30 i0 4 Tryz.underlying24 hi v xs.length (lineCells ps) hp2, ?_, Below.refl B w, fun _ _ _ => rfl⟩
    rw [List.append_nil]; exact hv0
  subst e
  have hone : ∀ x ∈ lineCells qs, x.oneCell' = true := by
    intro x hx
    unfold lineCells at hx
    rw [List.mem_flatMap] at hx
    obtain ⟨p, hp, hx⟩ := hx
    obtain ⟨a, c, hpv⟩ := own_slice (hq3 p hp)
    rw [hpv] at hx
    simp only [List.mem_cons, List.not_mem_nil, or_false] at hx
    rcases hx with rfl | rfl | rfl | rfl <;> rfl
  obtain ⟨v', w', hr, h2, h3, _, _⟩ := run_append_own_at (P := Tryz.prog) w B 24 ty 30 i0 _ 4 56 Tryz.underlying24 hi hz0 hz1 hz2 rfl (by decide) v xs.length (lineCells ps) hp2 ⟨g, 0, none⟩ ys.length c (lineCells qs) (by rw [lineCells_len, hql]) (World.ownsRow.cells hq2' (g := g) rfl) hone (by simp only [maxLen]; omega) (by omega) hB
  refine ⟨v', w', hr, ?_, (Below.refl B w).grown h3 hB (fun k hk => (World.ownsRow.lt hp2 k hk).1), fun k hk hne => h3.block k hk hne.symm⟩
  have hkw : ∀ q ws, OwnW w B q ws → OwnW w' B q ws := fun q ws hq => row_kept hq fun k hk => by
    exact h3.block k (World.ownsRow.lt hq k hk).2 (fun e => own_ne hp2 hq (by decide) hk e.symm)
  refine ⟨ps ++ qs, by rw [List.map_append, hp1, hq1], ?_, ?_⟩
  · rw [List.length_append, lineCells_app]; exact h2
  · intro p hp
    rcases List.mem_append.1 hp with hp | hp
    · exact hkw _ _ (hp3 p hp)
    · exact hkw _ _ (hq3 p hp)
/-- the same at the list of a region's operations, under a guard that says yes -/
theorem wpList_appL {ops : Array Oper} {rest : List Oper} {o : Oper} {a : Act} {Q : Exit → Act → World → Prop} {w : World} (hw : Region.wanted o (yielded ops a.tmps) = true) (s x : Operand)
    (ho : o.op = .call { callee := .builtin .append, args := #[s, x], argTypes := #[24, 24] }) (B : Nat) (v u : Value) (xs ys : List Lx.Ln) (hs : a.eval s = v) (hx : a.eval x = u)
    (hv : OwnL w B v xs) (hu : OwnL w B u ys) (hl : xs.length + ys.length ≤ 2000000) (hB : B ≤ w.heap.size)
    (h : ∀ v' w', OwnL w' B v' (xs ++ ys) → Below B w w' → (∀ k, k < w.heap.size → v.ownBlock ≠ some k → w'.heap[k]? = w.heap[k]?) → wpList Tryz.prog ops Q rest (a.put o.dst v') w') : wpList Tryz.prog ops Q (o :: rest) a w := by
  obtain ⟨v', w', hr, h2, h3, h4⟩ := run_appL w o.type B v u xs ys hv hu hl hB
  refine BigFrame.wpList_want hw fun K hK => ?_
  unfold Oper.wp
  simp [execOp, ho, resolve, invoke, builtin, hs, hx, hr, Result.andThen]
  exact hK _ _ (h v' w' h2 h3 h4)
end Go.Proofs.YtmhakkahclbbjaaGreatDoor
