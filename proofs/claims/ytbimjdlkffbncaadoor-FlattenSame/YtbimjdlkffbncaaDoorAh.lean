/-
  The order in which nodes are met: the plain function, and its state in memory.
-/
import Derived.Test.YtbimjdlkffbncaaDoorAg
import Derived.Maps.AppendAt
namespace Go.Proofs.YtbimjdlkffbncaaDoor
namespace Ar
/-- nodes as they are met first, from a node on, behind those that were met -/
def meet : Nat → List Nd → Nat → List Nat → List Nat
  | 0, _, _, met => met
  | f + 1, g, at_, met => if met.contains at_ = true then met else (at' g at_).kids.foldl (fun m k => meet f g k.toNat m) (met ++ [at_])
def order (g : List Nd) : List Nat := if right g = true then meet (g.length + 1) g 0 [] else []
/-- none is met twice, each is a node -/
def NB (n : Nat) (met : List Nat) : Prop := met.Nodup ∧ ∀ x ∈ met, x < n
theorem NB.snoc {n : Nat} {met : List Nat} (h : NB n met) {a : Nat} (ha : a < n) (hc : met.contains a = false) : NB n (met ++ [a]) := by
  have hn : a ∉ met := by
    intro hm
    rw [List.contains_iff_mem.2 hm] at hc
    cases hc
  refine ⟨List.nodup_append.2 ⟨h.1, by simp, fun x hx y hy => ?_⟩, fun x hx => ?_⟩
  · rw [List.mem_singleton] at hy
    subst hy
    exact fun e => hn (e ▸ hx)
  · rcases List.mem_append.1 hx with hx | hx
    · exact h.2 x hx
    · rw [List.mem_singleton] at hx; subst hx; exact ha
theorem pigeon : ∀ (n : Nat) (l : List Nat), l.Nodup → (∀ x ∈ l, x < n) → l.length ≤ n
  | 0, l, _, h => by
    cases l with
    | nil => exact Nat.le_refl _
    | cons a t => exact absurd (h a (List.mem_cons_self)) (by omega)
  | n + 1, l, hd, h => by
    by_cases hm : n ∈ l
    · have := pigeon n (l.erase n) (hd.erase n) (fun x hx => by
        have h1 := (hd.mem_erase_iff).1 hx
        have := h x h1.2
        have := h1.1
        omega)
      rw [List.length_erase_of_mem hm] at this
      omega
    · have := pigeon n l hd (fun x hx => by
        have h1 := h x hx
        have : x ≠ n := fun e => hm (e ▸ hx)
        omega)
      omega
theorem NB.len {n : Nat} {met : List Nat} (h : NB n met) : met.length ≤ n := pigeon n met h.1 h.2
/-- all kids are nodes -/
def Kids (g : List Nd) : Prop := ∀ x ∈ g, ∀ k ∈ x.kids, isNode g.length k = true
theorem Kids.at' {g : List Nd} (h : Kids g) {a : Nat} (ha : a < g.length) : ∀ k ∈ (at' g a).kids, 0 ≤ k ∧ k.toNat < g.length := by
  intro k hk
  rw [at_get g a (by omega) (by simpa using ha)] at hk
  have := h _ (List.getElem_mem _) k hk
  unfold isNode at this
  simp only [Bool.and_eq_true, decide_eq_true_eq] at this
  omega
theorem meet_nb (g : List Nd) (hg : Kids g) : ∀ (f a : Nat) (met : List Nat), a < g.length → NB g.length met → NB g.length (meet f g a met) ∧ met.length ≤ (meet f g a met).length
  | 0, _, _, _, h => ⟨h, Nat.le_refl _⟩
  | f + 1, a, met, ha, h => by
    unfold meet
    cases hc : met.contains a
    · rw [if_neg (by decide)]
      have hk := fun k h => (hg.at' ha k h).2
      have key : ∀ (ks : List Int) (m : List Nat), (∀ k ∈ ks, k.toNat < g.length) → NB g.length m → NB g.length (ks.foldl (fun m k => meet f g k.toNat m) m) ∧ m.length ≤ (ks.foldl (fun m k => meet f g k.toNat m) m).length := by
        intro ks
        induction ks with
        | nil => intro m _ hm; exact ⟨hm, Nat.le_refl _⟩
        | cons k t ih =>
          intro m hks hm
          obtain ⟨h1, h2⟩ := meet_nb g hg f k.toNat m (hks k List.mem_cons_self) hm
          obtain ⟨h3, h4⟩ := ih _ (fun k hk => hks k (List.mem_cons_of_mem _ hk)) h1
          exact ⟨h3, Nat.le_trans h2 h4⟩
      obtain ⟨h1, h2⟩ := key _ _ hk (h.snoc ha hc)
      rw [List.length_append] at h2
      exact ⟨h1, Nat.le_trans (by simp) h2⟩
    · rw [if_pos rfl]
      exact ⟨h, Nat.le_refl _⟩
end Ar
open Go.RowKit Go.Maps
def cellsB (n : Nat) (met : List Nat) : Array Value := ((List.range n).map fun i => Value.bool (met.contains i)).toArray
theorem cellsB_at (n : Nat) (met : List Nat) (i : Nat) (h : i < n) : (cellsB n met)[i]? = some (.bool (met.contains i)) := by
  unfold cellsB; rw [List.getElem?_toArray, List.getElem?_map, List.getElem?_range h]; rfl
theorem cellsB_set (n : Nat) (met : List Nat) (i : Nat) (h : i < n) : (cellsB n met).setIfInBounds i (.bool true) = cellsB n (met ++ [i]) := by
  apply Array.ext_getElem?
  intro j
  rw [Array.getElem?_setIfInBounds]
  have hs : (cellsB n met).size = n := by unfold cellsB; simp
  by_cases hij : i = j
  · subst hij
    rw [if_pos rfl, hs, if_pos h, cellsB_at n _ i h]
    simp
  · rw [if_neg hij]
    by_cases hj : j < n
    · rw [cellsB_at n _ j hj, cellsB_at n _ j hj]
      have : (met ++ [i]).contains j = met.contains j := by
        rw [Bool.eq_iff_iff, List.contains_iff_mem, List.contains_iff_mem, List.mem_append, List.mem_singleton]
        exact ⟨fun h => h.elim id (fun e => absurd e.symm hij), Or.inl⟩
      rw [this]
    · unfold cellsB
      rw [List.getElem?_toArray, List.getElem?_toArray, List.getElem?_map, List.getElem?_map, List.getElem?_eq_none (by simpa using hj)]
      rfl
theorem cellsB_zero (n : Nat) : madeCells #[.bool false] n = cellsB n [] := by
  apply Array.ext'
  rw [toList_madeCells_one]; unfold cellsB; simp [List.map_const']
theorem info4 : (Tryd.prog.info? 4).map (fun i => (i.zero, i.size, i.bytes)) = some (some (.bool false), 1, 1) := by kernel_rfl
theorem made4 (n : Nat) (h : n ≤ 1000000) (w : World) : (Instr.makeSlice 108 (.int .i64 (n : Int)) (.int .i64 (n : Int))).run Tryd.prog w = .ok (.slice (some ⟨w.heap.size, 0, none⟩) n n) (w.alloc (.cells (cellsB n []) 4)) := by
  rw [← cellsB_zero]
  exact run_make_row' 108 4 (.bool false) 1 Tryd.underlying108 info4 rfl .i64 .i64 n (by omega) (by omega) w
def natsV (met : List Nat) : List Value := (met.map (fun (n : Nat) => (n : Int))).map (Value.int .i64)
/-- the walk's state in memory: the marks (block sb, held in the box sB), what was met (held in the box mB), the graph (gB), the closure (fB) -/
structure DfsAt (w : World) (ga : Option Addr) (gc n sb sB mB gB fB T : Nat) (met : List Nat) : Prop where
  sBox : w.heap[sB]? = some (.cells #[.slice (some ⟨sb, 0, none⟩) n n] 108)
  marks : w.heap[sb]? = some (.cells (cellsB n met) 4)
  mBox : ∃ v, w.heap[mB]? = some (.cells #[v] 62) ∧ w.ownsRow T 3 1 v met.length (natsV met)
  gBox : w.heap[gB]? = some (.cells #[.slice ga n gc] 45)
  fBox : w.heap[fB]? = some (.cells #[.func (.func 89) #[] #[.pointer (some ⟨sB, 0, none⟩), .pointer (some ⟨mB, 0, none⟩), .pointer (some ⟨gB, 0, none⟩), .pointer (some ⟨fB, 0, none⟩)]] 109)
theorem own_same {w w' : World} {b e z n : Nat} {v : Value} {xs : List Value} (h : w.ownsRow b e z v n xs) (hh : ∀ k, v.ownBlock = some k → w'.heap[k]? = w.heap[k]?) : w'.ownsRow b e z v n xs := by
  obtain ⟨h1, h2⟩ := h
  refine ⟨h1, ?_⟩
  rcases h2 with h2 | ⟨g, cap, cur, rfl, hB, hk, hr⟩
  · exact .inl h2
  · exact .inr ⟨g, cap, cur, rfl, hB, (hh g rfl).trans hk, hr⟩
theorem other_set {w : World} {b : Nat} {o : Obj} (h : w.heap[b]? = some o) (p : Addr) (v : Value) (hne : b ≠ p.block) : (w.setCell p v).heap[b]? = some o := (Below.heap_setCell w p v b hne).trans h
end Go.Proofs.YtbimjdlkffbncaaDoor
