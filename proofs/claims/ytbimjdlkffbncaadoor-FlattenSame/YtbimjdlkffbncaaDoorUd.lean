/-
  The groups that stand open: a row of pointers to blocks of their own; the walk of isNested.
-/
import Derived.Test.YtbimjdlkffbncaaDoorUc
namespace Go.Proofs.YtbimjdlkffbncaaDoor
open Go.Proofs.YtbimjdlkffbncaaDoor.Ev
namespace Evn
namespace Ev
def closed : Option St → Bool
  | some [] => true
  | _ => false
theorem nested_closed (l : List Int) : nested l = closed (run [] l) := by
  unfold nested closed
  rfl
end Ev
open Go.RowKit

structure Grp where
  kind : Int
  n : Nat
  b : Nat
def Grp.ptr (g : Grp) : Value := .pointer (some ⟨g.b, 0, none⟩)
def GrpAt (w : World) (g : Grp) : Prop :=
  w.heap[g.b]? = some (.cells #[.int .i64 g.n, closer g.kind g.b] 112) ∧ w.heap[g.b + 1]? = some (.cells #[g.ptr] 113)
theorem GrpAt.kept {w w' : World} {g : Grp} (h : GrpAt w g) (h1 : w'.heap[g.b]? = w.heap[g.b]?) (h2 : w'.heap[g.b + 1]? = w.heap[g.b + 1]?) : GrpAt w' g := ⟨h1.trans h.1, h2.trans h.2⟩
theorem GrpAt.lt {w : World} {g : Grp} (h : GrpAt w g) : g.b + 1 < w.heap.size := (Array.getElem?_eq_some_iff.1 h.2).1
/-- the groups that stand open, the last one last -/
structure Opn (w : World) (B : Nat) (v : Value) (gs : List Grp) : Prop where
  row : w.ownsRow B 113 1 v gs.length (gs.map Grp.ptr)
  at_ : ∀ g ∈ gs, B ≤ g.b ∧ GrpAt w g ∧ v.ownBlock ≠ some g.b ∧ v.ownBlock ≠ some (g.b + 1) ∧ (g.kind = 0 ∨ g.kind = 2 ∨ g.kind = 4)
  inc : gs.Pairwise (fun g h => g.b + 1 < h.b)
theorem Opn.nil (w : World) (B : Nat) : Opn w B (.slice none 0 0) [] := ⟨World.ownsRow_nil _ _ _ _, fun g hg => (by cases hg), .nil⟩
theorem Opn.below {w w' : World} {B : Nat} {v : Value} {gs : List Grp} (h : Opn w B v gs) (hb : Below w.heap.size w w') : Opn w' B v gs := by
  refine ⟨row_below h.row hb, fun g hg => ?_, h.inc⟩
  obtain ⟨h1, h2, h3⟩ := h.at_ g hg
  have := h2.lt
  exact ⟨h1, h2.kept (hb.block _ (by omega)) (hb.block _ (by omega)), h3⟩
def stOf (gs : List Grp) : Ev.St := (gs.map fun g => (g.kind, g.n)).reverse
theorem stOf_snoc (gs : List Grp) (g : Grp) : stOf (gs ++ [g]) = (g.kind, g.n) :: stOf gs := by simp [stOf]
theorem Opn.bump {w : World} {B : Nat} {v : Value} {gs : List Grp} {g : Grp} (h : Opn w B v (gs ++ [g])) (u : Value) (hu : u = .int .i64 ((g.n + 1 : Nat) : Int)) : Opn (w.setCell ⟨g.b, 0, none⟩ u) B v (gs ++ [⟨g.kind, g.n + 1, g.b⟩]) := by
  subst hu
  obtain ⟨g1, g2, g3, g4, g5⟩ := h.at_ g (by simp)
  have hinc := List.pairwise_append.1 h.inc
  refine ⟨?_, ?_, ?_⟩
  · have hr := row_kept (w' := w.setCell ⟨g.b, 0, none⟩ (.int .i64 ((g.n + 1 : Nat) : Int))) h.row (fun k hk => Below.heap_setCell w _ _ k (fun e => g3 (by rw [hk]; exact congrArg some e)))
    simpa [List.map_append, Grp.ptr] using hr
  · intro x hx
    rcases List.mem_append.1 hx with hx | hx
    · obtain ⟨x1, x2, x3⟩ := h.at_ x (by simp [hx])
      have hlt := hinc.2.2 x hx g (by simp)
      exact ⟨x1, x2.kept (Below.heap_setCell w _ _ _ (by show _ ≠ g.b; omega)) (Below.heap_setCell w _ _ _ (by show _ ≠ g.b; omega)), x3⟩
    · simp only [List.mem_cons, List.not_mem_nil, or_false] at hx
      subst hx
      exact ⟨g1, ⟨blk_set g2.1 0 _, (Below.heap_setCell w _ _ _ (by show _ ≠ g.b; simp only; omega)).trans g2.2⟩, g3, g4, g5⟩
  · refine List.pairwise_append.2 ⟨hinc.1, by simp, fun x hx y hy => ?_⟩
    simp only [List.mem_cons, List.not_mem_nil, or_false] at hy
    subst hy
    exact hinc.2.2 x hx g (by simp)
theorem Opn.form {w : World} {B : Nat} {v : Value} {gs : List Grp} {g : Grp} (h : Opn w B v (gs ++ [g])) : ∃ gb c, v = .slice (some ⟨gb, 0, none⟩) (gs.length + 1) c ∧ gs.length + 1 ≤ c ∧ gb < w.heap.size ∧ w.cell? ⟨gb, gs.length, none⟩ = some g.ptr := by
  have hr := h.row
  rw [List.length_append, List.length_singleton] at hr
  rcases hr.2 with ⟨rfl, h0⟩ | ⟨gb, c, cur, rfl, hB, hh, hc, hm, hsz, htk⟩
  · omega
  · refine ⟨gb, c, rfl, hc, (Array.getElem?_eq_some_iff.1 hh).1, ?_⟩
    rw [World.ownsRow.cellAt hr _ (by omega)]
    simp
theorem Opn.pop {w : World} {B gb n c : Nat} {gs : List Grp} {g : Grp} (h : Opn w B (.slice (some ⟨gb, 0, none⟩) n c) (gs ++ [g])) : Opn w B (.slice (some ⟨gb, 0, none⟩) gs.length c) gs := by
  refine ⟨?_, fun x hx => h.at_ x (by simp [hx]), (List.pairwise_append.1 h.inc).1⟩
  refine ⟨by simp, ?_⟩
  rcases h.row.2 with ⟨h0, _⟩ | ⟨gb', c', cur, he, hB, hh, hc, hm, hsz, htk⟩
  · cases h0
  · cases he
    refine .inr ⟨gb, c, cur, rfl, hB, hh, ?_, hm, hsz, ?_⟩
    · rw [List.length_append] at hc; omega
    · have := congrArg (List.take gs.length) htk
      rw [List.take_take, List.map_append, List.take_append_of_le_length (by simp), List.take_of_length_le (l := gs.map Grp.ptr) (by simp)] at this
      rw [← this]
      congr 1
      simp
theorem infoG : (Tryd.prog.info? 113).map (fun i => (i.zero, i.size, i.bytes)) = some (some (.pointer none), 1, 8) := by kernel_rfl

/-- 'append' of the group that was just laid -/
theorem wpList_pushG {ops : Array Oper} {rest : List Oper} {o : Oper} {a : Act} {Q : Exit → Act → World → Prop} (hgd : o.guard = none) (s x : Operand)
    (ho : o.op = .call { callee := .builtin .append, args := #[s, x], argTypes := #[110, 110] }) (B : Nat) (v : Value) (gs : List Grp) (g : Grp) (w0 : World) (C : Array Value) (c : Nat)
    (hs : a.eval s = v) (ga : Nat) (hx : a.eval x = .slice (some ⟨ga, 0, none⟩) 1 c) (hga : ga = w0.heap.size) (hC : C = #[g.ptr]) (hown : Opn w0 B v gs) (hg : GrpAt w0 g) (hgB : B ≤ g.b) (hinc : ∀ x ∈ gs, x.b + 1 < g.b) (hv : ∀ k, v.ownBlock = some k → k < g.b) (hk : g.kind = 0 ∨ g.kind = 2 ∨ g.kind = 4) (hl : gs.length ≤ 2000000)
    (h : ∀ v' w', Opn w' B v' (gs ++ [g]) → Below B w0 w' → B ≤ w'.heap.size → wpList Tryd.prog ops Q rest (a.put o.dst v') w') :
    wpList Tryd.prog ops Q (o :: rest) a (w0.alloc (.cells C 113)) := by
  subst hC hga
  have hB : B ≤ w0.heap.size := by have := hg.lt; omega
  obtain ⟨i0, hi, hz0, hz1, hz2⟩ := info_parts infoG
  refine wpList_append_own_at _ hgd s x 110 ho B 113 i0 _ 1 8 Tryd.underlying110 hi hz0 hz1 hz2 rfl (by decide) v gs.length (gs.map Grp.ptr) hs (World.ownsRow.alloc hown.row _) ⟨w0.heap.size, 0, none⟩ 1 c [g.ptr] hx rfl
    (fun j u hu => cells_of_new w0 113 [g.ptr] j u hu) (fun u hu => by simp only [List.mem_cons, List.not_mem_nil, or_false] at hu; subst hu; rfl) (by simp only [maxLen]; omega) (by omega) (by rw [World.size_alloc]; omega) ?_
  intro v' w' ho' hgr _ hbl
  have hbel : Below B w0 w' := ((Below.refl B w0).alloc hB _).grown hgr (by rw [World.size_alloc]; omega) (fun k hk => (World.ownsRow.lt hown.row k hk).1)
  have hkeep : ∀ k, k < w0.heap.size → v.ownBlock ≠ some k → w'.heap[k]? = w0.heap[k]? := fun k hk hne => by
    rw [hgr.block k (by rw [World.size_alloc]; omega) hne.symm]
    show (w0.heap.push _)[k]? = _
    rw [Array.getElem?_push, if_neg (by omega)]
  have hnew : ∀ k, k < w0.heap.size → v.ownBlock ≠ some k → v'.ownBlock ≠ some k := fun k hk hne => by
    rcases hbl with e | e
    · rw [e]; exact hne
    · rw [e]; intro e'; rw [World.size_alloc] at e'; simp at e'; omega
  refine h v' w' ⟨?_, ?_, ?_⟩ hbel (Nat.le_trans hB hbel.size)
  · rw [List.length_append, List.map_append]
    exact ho'
  · intro x hx
    rcases List.mem_append.1 hx with hx | hx
    · obtain ⟨x1, x2, x3, x4, x5⟩ := hown.at_ x hx
      have := x2.lt
      exact ⟨x1, x2.kept (hkeep _ (by omega) x3) (hkeep _ (by omega) x4), hnew _ (by omega) x3, hnew _ (by omega) x4, x5⟩
    · simp only [List.mem_cons, List.not_mem_nil, or_false] at hx
      subst hx
      have hlt := hg.lt
      have n1 : v.ownBlock ≠ some x.b := fun e => by have := hv _ e; omega
      have n2 : v.ownBlock ≠ some (x.b + 1) := fun e => by have := hv _ e; omega
      exact ⟨hgB, hg.kept (hkeep _ (by omega) n1) (hkeep _ (by omega) n2), hnew _ (by omega) n1, hnew _ (by omega) n2, hk⟩
  · refine List.pairwise_append.2 ⟨hown.inc, by simp, fun x hx y hy => ?_⟩
    simp only [List.mem_cons, List.not_mem_nil, or_false] at hy
    subst hy
    exact hinc x hx
end Evn
end Go.Proofs.YtbimjdlkffbncaaDoor
