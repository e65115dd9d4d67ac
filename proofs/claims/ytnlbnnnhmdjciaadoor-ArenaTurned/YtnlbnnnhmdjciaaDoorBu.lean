/-
  Two nodes exchanged, in memory; what ArenaNumbers lays.
-/
import Derived.Test.YtnlbnnnhmdjciaaDoorBt
import Derived.Test.YtnlbnnnhmdjciaaDoorBd
import Derived.BigQuiet
import Derived.RegionTactic
namespace Go.Proofs.YtnlbnnnhmdjciaaDoor
open Go.RowKit Go.Maps
/-- four cells stored, one behind the other -/
def st4 (w : World) (g o : Nat) (k t s u : Value) : World := (((w.setCell ⟨g, o, none⟩ k).setCell ⟨g, o + 1, none⟩ t).setCell ⟨g, o + 2, none⟩ s).setCell ⟨g, o + 3, none⟩ u
theorem st4_other (w : World) (g o : Nat) (a b c d : Value) (k : Nat) (hk : k ≠ g) : (st4 w g o a b c d).heap[k]? = w.heap[k]? := by
  unfold st4
  rw [Below.heap_setCell _ _ _ k hk, Below.heap_setCell _ _ _ k hk, Below.heap_setCell _ _ _ k hk, Below.heap_setCell _ _ _ k hk]
theorem st4_row {w : World} {B e z g n c : Nat} {xs : List Value} (h : w.ownsRow B e z (.slice (some ⟨g, 0, none⟩) n c) n xs) (o : Nat) (k t s u : Value) :
    (st4 w g o k t s u).ownsRow B e z (.slice (some ⟨g, 0, none⟩) n c) n ((((xs.set o k).set (o + 1) t).set (o + 2) s).set (o + 3) u) :=
  (World.ownsRow.stored (World.ownsRow.stored (World.ownsRow.stored (World.ownsRow.stored h o k).1 (o + 1) t).1 (o + 2) s).1 (o + 3) u).1
theorem st4_below {B : Nat} {a w : World} {g : Nat} (h : Below B a w) (hg : B ≤ g) (o : Nat) (k t s u : Value) : Below B a (st4 w g o k t s u) :=
  (((h.setCell (p := ⟨g, o, none⟩) hg k).setCell (p := ⟨g, o + 1, none⟩) hg t).setCell (p := ⟨g, o + 2, none⟩) hg s).setCell (p := ⟨g, o + 3, none⟩) hg u
theorem apart_swap {ps : List (Ar.Nd × Value)} (h : ps.Pairwise Apart) (x y : Nat) (hx : x < ps.length) (hy : y < ps.length) : ((ps.set x ps[y]).set y ps[x]).Pairwise Apart := by
  have key : ∀ k (hk : k < ps.length), ((ps.set x ps[y]).set y ps[x])[k]'(by rw [List.length_set, List.length_set]; exact hk) = ps[Ar.swp x y k]'(Ar.swp_lt hx hy hk) := by
    intro k hk
    rw [List.getElem_set, List.getElem_set]
    unfold Ar.swp
    by_cases h1 : y = k
    · subst h1
      rw [if_pos rfl]
      by_cases h2 : y = x
      · subst h2; simp
      · simp [h2]
    · rw [if_neg h1]
      by_cases h2 : x = k
      · subst h2; simp
      · rw [if_neg h2]
        simp [Ne.symm h1, Ne.symm h2]
  rw [List.pairwise_iff_getElem]
  intro i j hi hj hij
  rw [List.length_set, List.length_set] at hi hj
  rw [key i hi, key j hj]
  refine apart_get h _ _ _ _ (fun e => ?_)
  have := congrArg (Ar.swp x y) e
  rw [Ar.swp_swp, Ar.swp_swp] at this
  omega
/-- a node's four cells -/
def NdQ (w : World) (g o : Nat) (x : Ar.Nd) (u : Value) : Prop := w.cell? ⟨g, o, none⟩ = some (.int .i64 x.kind) ∧ w.cell? ⟨g, o + 1, none⟩ = some (.string (str x.tag)) ∧ w.cell? ⟨g, o + 2, none⟩ = some (.string (str x.text)) ∧ w.cell? ⟨g, o + 3, none⟩ = some u
/-- TWO NODES EXCHANGED -/
theorem OwnD.swap {w : World} {B : Nat} {g c : Nat} {ns : List Ar.Nd} (h : OwnD w B (.slice (some ⟨g, 0, none⟩) ns.length c) ns) (x y : Nat) (hx : x < ns.length) (hy : y < ns.length) :
    ∃ a1 c1 a2 c2, NdQ w g (x * 4) ns[x] (.slice a1 ns[x].kids.length c1) ∧ NdQ w g (y * 4) ns[y] (.slice a2 ns[y].kids.length c2) ∧ (∀ i, w.frozen? ⟨g, i, none⟩ = false) ∧
      OwnD (st4 (st4 w g (x * 4) (.int .i64 ns[y].kind) (.string (str ns[y].tag)) (.string (str ns[y].text)) (.slice a2 ns[y].kids.length c2)) g (y * 4) (.int .i64 ns[x].kind) (.string (str ns[x].tag)) (.string (str ns[x].text)) (.slice a1 ns[x].kids.length c1)) B (.slice (some ⟨g, 0, none⟩) ns.length c) (Ar.turn0 ns x y) := by
  obtain ⟨ps, h1, h2, h3, h4⟩ := h
  subst h1
  rw [List.length_map] at hx hy
  have hpx : (ps.map (·.1))[x]'(by rw [List.length_map]; exact hx) = ps[x].1 := List.getElem_map ..
  have hpy : (ps.map (·.1))[y]'(by rw [List.length_map]; exact hy) = ps[y].1 := List.getElem_map ..
  simp only [hpx, hpy]
  obtain ⟨a1, c1, v1⟩ := own_form (h3 ps[x] (List.getElem_mem hx))
  obtain ⟨a2, c2, v2⟩ := own_form (h3 ps[y] (List.getElem_mem hy))
  have at_ : ∀ i (hi : i < ps.length), ∀ u, ps[i].2 = u → NdQ w g (i * 4) ps[i].1 u := by
    intro i hi u hu
    obtain ⟨e0, e1, e2, e3⟩ := ndCells_at ps i hi
    have c0 := World.ownsRow.cellAt h2 (i * 4) (by rw [List.length_map]; omega)
    have c1 := World.ownsRow.cellAt h2 (i * 4 + 1) (by rw [List.length_map]; omega)
    have c2 := World.ownsRow.cellAt h2 (i * 4 + 2) (by rw [List.length_map]; omega)
    have c3 := World.ownsRow.cellAt h2 (i * 4 + 3) (by rw [List.length_map]; omega)
    rw [e0] at c0
    rw [e1] at c1
    rw [e2] at c2
    rw [e3, hu] at c3
    exact ⟨c0, c1, c2, c3⟩
  refine ⟨a1, c1, a2, c2, at_ x hx _ v1, at_ y hy _ v2, World.ownsRow.frozenAt h2, (ps.set x ps[y]).set y ps[x], ?_, ?_, ?_, apart_swap h4 x y hx hy⟩
  · rw [List.map_set, List.map_set]
    unfold Ar.turn0
    rw [Ar.at_mem _ y (by rw [List.length_map]; exact hy), Ar.at_mem _ x (by rw [List.length_map]; exact hx), hpx, hpy]
  · have r1 := st4_row (st4_row h2 (x * 4) (.int .i64 ps[y].1.kind) (.string (str ps[y].1.tag)) (.string (str ps[y].1.text)) ps[y].2) (y * 4) (.int .i64 ps[x].1.kind) (.string (str ps[x].1.tag)) (.string (str ps[x].1.text)) ps[x].2
    rw [ndCells_set4 ps x ps[y] hx, ndCells_set4 (ps.set x ps[y]) y ps[x] (by rw [List.length_set]; exact hy), v1, v2] at r1
    rw [Ar.turn0_len]
    exact r1
  · intro p hp
    have hm : p ∈ ps := by
      rcases List.mem_or_eq_of_mem_set hp with h5 | h5
      · rcases List.mem_or_eq_of_mem_set h5 with h6 | h6
        · exact h6
        · rw [h6]; exact List.getElem_mem hy
      · rw [h5]; exact List.getElem_mem hx
    refine own_same (h3 p hm) (fun k hk => ?_)
    have hne : k ≠ g := fun e => own_ne h2 (h3 p hm) (by decide) hk (by rw [e]; rfl)
    rw [st4_other _ _ _ _ _ _ _ k hne, st4_other _ _ _ _ _ _ _ k hne]
theorem nobody_may (g : List Ar.Nd) : Ar.mayBe g Ar.nobody = true := by
  have h : (Ar.nobody.kids.isEmpty && (Lib.validD Ar.nobody.text && Tg.fits Ar.nobody.tag Ar.nobody.text)) = true := by kernel_rfl
  unfold Ar.mayBe Ar.may1
  rw [show Ar.nobody.kids.all (Ar.isNode g.length) = true from rfl, Bool.true_and, if_pos (show Ar.nobody.kind = 0 from rfl)]
  exact h
end Go.Proofs.YtnlbnnnhmdjciaaDoor
