/-
  Graphs that a call owns: a row of nodes, each with a row of kids; a node put behind them.
-/
import Derived.Test.YtbimjdlkffbncaaDoorAj
namespace Go.Proofs.YtbimjdlkffbncaaDoor
open Go.RowKit Go.Maps

/-- numbers that a call owns -/
def OwnI (w : World) (B : Nat) (v : Value) (ks : List Int) : Prop := w.ownsRow B 3 1 v ks.length (ks.map (Value.int .i64))
def ndCells (ps : List (Ar.Nd × Value)) : List Value := ps.flatMap fun p => [.int .i64 p.1.kind, .string (str p.1.tag), .string (str p.1.text), p.2]
theorem ndCells_snoc (ps : List (Ar.Nd × Value)) (p : Ar.Nd × Value) : ndCells (ps ++ [p]) = ndCells ps ++ [.int .i64 p.1.kind, .string (str p.1.tag), .string (str p.1.text), p.2] := by
  unfold ndCells; rw [List.flatMap_append]; simp
/-- a graph that a call owns -/
def OwnG (w : World) (B : Nat) (v : Value) (ns : List Ar.Nd) : Prop :=
  ∃ ps : List (Ar.Nd × Value), ps.map (·.1) = ns ∧ w.ownsRow B 64 4 v ns.length (ndCells ps) ∧ ∀ p ∈ ps, OwnI w B p.2 p.1.kids
theorem row_below {w w' : World} {B e z n : Nat} {v : Value} {xs : List Value} (h : w.ownsRow B e z v n xs) (hb : Below w.heap.size w w') : w'.ownsRow B e z v n xs :=
  own_same h fun k hk => hb.block k (World.ownsRow.lt h k hk).2
theorem OwnG.below {w w' : World} {B : Nat} {v : Value} {ns : List Ar.Nd} (h : OwnG w B v ns) (hb : Below w.heap.size w w') : OwnG w' B v ns := by
  obtain ⟨ps, h1, h2, h3⟩ := h
  exact ⟨ps, h1, row_below h2 hb, fun p hp => row_below (h3 p hp) hb⟩
theorem ownG_nil (w : World) (B : Nat) : OwnG w B (.slice none 0 0) [] := ⟨[], rfl, World.ownsRow_nil _ _ _ _, fun p hp => by cases hp⟩
theorem OwnG.form {w : World} {B : Nat} {v : Value} {ns : List Ar.Nd} (h : OwnG w B v ns) : ∃ a c, v = .slice a ns.length c := by
  obtain ⟨ps, h1, h2, h3⟩ := h
  exact own_form h2
/-- rows of unlike types lie in unlike blocks -/
theorem own_ne {w : World} {B B' e e' z z' n m k : Nat} {v u : Value} {xs ys : List Value} (h : w.ownsRow B e z v n xs) (h' : w.ownsRow B' e' z' u m ys) (hne : e ≠ e') (hk : u.ownBlock = some k) : v.ownBlock ≠ some k := by
  intro hv
  rcases h.2 with ⟨rfl, _⟩ | ⟨g, cap, cur, rfl, _, hh, _⟩
  · cases hv
  · rcases h'.2 with ⟨rfl, _⟩ | ⟨g', cap', cur', rfl, _, hh', _⟩
    · cases hk
    · have e1 : g = k := by simpa [Value.ownBlock] using hv
      have e2 : g' = k := by simpa [Value.ownBlock] using hk
      subst e1; subst e2
      rw [hh] at hh'
      cases hh'; exact hne rfl
theorem infoN : (Tryd.prog.info? 64).map (fun i => (i.zero, i.size, i.bytes)) = some (some (.agg #[.int .i64 0, .string ⟨#[]⟩, .string ⟨#[]⟩, .slice none 0 0]), 4, 64) := by kernel_rfl

/-- 'append' of one node that was just laid, onto nodes that the call owns -/
theorem wpList_pushG {ops : Array Oper} {rest : List Oper} {o : Oper} {a : Act} {Q : Exit → Act → World → Prop} (hgd : o.guard = none) (s x : Operand) (ty : TypeId) (hty : Tryd.prog.underlying ty = some (.slice 64))
    (ho : o.op = .call { callee := .builtin .append, args := #[s, x], argTypes := #[ty, ty] }) (B : Nat) (v : Value) (ns : List Ar.Nd) (y : Ar.Nd) (u : Value) (w0 : World) (C : Array Value) (c : Nat)
    (hs : a.eval s = v) (ga : Nat) (hx : a.eval x = .slice (some ⟨ga, 0, none⟩) 1 c) (hga : ga = w0.heap.size) (hC : C = #[.int .i64 y.kind, .string (str y.tag), .string (str y.text), u]) (hown : OwnG w0 B v ns) (hu : OwnI w0 B u y.kids) (hl : ns.length ≤ 1000000) (hB : B ≤ w0.heap.size)
    (h : ∀ v' w', OwnG w' B v' (ns ++ [y]) → Below B w0 w' → B ≤ w'.heap.size → (∀ k, k < w0.heap.size → v.ownBlock ≠ some k → w'.heap[k]? = w0.heap[k]?) → wpList Tryd.prog ops Q rest (a.put o.dst v') w') :
    wpList Tryd.prog ops Q (o :: rest) a (w0.alloc (.cells C 64)) := by
  subst hC hga
  obtain ⟨ps, hp1, hp2, hp3⟩ := hown
  obtain ⟨ua, uc, rfl⟩ := own_form hu
  obtain ⟨i0, hi, hz0, hz1, hz2⟩ := info_parts infoN
  refine wpList_append_own _ hgd s x ty ho B 64 i0 _ 4 64 hty hi hz0 hz1 hz2 rfl (by decide) v ns.length (ndCells ps) hs (World.ownsRow.alloc hp2 _) ⟨w0.heap.size, 0, none⟩ 1 c [.int .i64 y.kind, .string (str y.tag), .string (str y.text), .slice ua y.kids.length uc] hx rfl
    (fun j u hu => cells_of_new w0 64 [.int .i64 y.kind, .string (str y.tag), .string (str y.text), .slice ua y.kids.length uc] j u hu) (fun u hu => by simp only [List.mem_cons, List.not_mem_nil, or_false] at hu; rcases hu with rfl | rfl | rfl | rfl <;> rfl) (by simp only [maxLen]; omega) (by omega) (by rw [World.size_alloc]; omega) ?_
  intro v' w' ho' hg _
  have hk : Below B w0 w' := ((Below.refl B w0).alloc hB _).grown hg (by rw [World.size_alloc]; omega) (fun k hk => (World.ownsRow.lt hp2 k hk).1)
  have hkeep : ∀ k, k < w0.heap.size → v.ownBlock ≠ some k → w'.heap[k]? = w0.heap[k]? := fun k hk hne => by
    rw [hg.block k (by rw [World.size_alloc]; omega) hne.symm]
    show (w0.heap.push _)[k]? = _
    rw [Array.getElem?_push, if_neg (by omega)]
  have hkw : ∀ q ks, OwnI w0 B q ks → OwnI w' B q ks := fun q ks hq => own_same hq fun k hk => hkeep k (World.ownsRow.lt hq k hk).2 (own_ne hp2 hq (by decide) hk)
  refine h v' w' ⟨ps ++ [(y, .slice ua y.kids.length uc)], by rw [List.map_append, hp1]; rfl, ?_, ?_⟩ hk (Nat.le_trans hB hk.size) hkeep
  · rw [List.length_append, ndCells_snoc]
    exact ho'
  · intro p hp
    rcases List.mem_append.1 hp with hp | hp
    · exact hkw _ _ (hp3 p hp)
    · simp only [List.mem_cons, List.not_mem_nil, or_false] at hp
      subst hp
      exact hkw _ _ hu
theorem ndCells_at (ps : List (Ar.Nd × Value)) (j : Nat) (h : j < ps.length) : (ndCells ps)[j * 4]? = some (.int .i64 (ps[j]).1.kind) ∧ (ndCells ps)[j * 4 + 1]? = some (.string (str (ps[j]).1.tag)) ∧ (ndCells ps)[j * 4 + 2]? = some (.string (str (ps[j]).1.text)) ∧ (ndCells ps)[j * 4 + 3]? = some (ps[j]).2 := by
  induction ps generalizing j with
  | nil => simp at h
  | cons x t ih =>
    have e : ndCells (x :: t) = [.int .i64 x.1.kind, .string (str x.1.tag), .string (str x.1.text), x.2] ++ ndCells t := rfl
    cases j with
    | zero => rw [e]; simp
    | succ j =>
      have := ih j (by simp only [List.length_cons] at h; omega)
      rw [e]
      rw [List.getElem?_append_right (by simp; omega), List.getElem?_append_right (by simp; omega), List.getElem?_append_right (by simp; omega), List.getElem?_append_right (by simp; omega)]
      simp only [List.length_cons, List.length_nil]
      rw [show (j + 1) * 4 - (0 + 1 + 1 + 1 + 1) = j * 4 by omega, show (j + 1) * 4 + 1 - (0 + 1 + 1 + 1 + 1) = j * 4 + 1 by omega, show (j + 1) * 4 + 2 - (0 + 1 + 1 + 1 + 1) = j * 4 + 2 by omega, show (j + 1) * 4 + 3 - (0 + 1 + 1 + 1 + 1) = j * 4 + 3 by omega]
      exact this
/-- a graph that a call owns reads as a graph -/
theorem OwnG.rd {w : World} {B : Nat} {v : Value} {ns : List Ar.Nd} (h : OwnG w B v ns) : RdG w w.heap.size v ns := by
  obtain ⟨ps, h1, h2, h3⟩ := h
  subst h1
  rw [List.length_map] at h2
  have h2' := h2
  rcases h2.2 with ⟨e, h0⟩ | ⟨g, cap, cur, e, hB, hh, hnc, hr⟩
  · subst e
    exact ⟨none, 0, by rw [List.length_map, h0], by rw [List.length_map, h0]; exact Nat.le_refl _, fun hp => by rw [List.length_map] at hp; omega⟩
  · subst e
    refine ⟨_, cap, by rw [List.length_map], by rw [List.length_map]; exact hnc, fun _ => ⟨g, rfl, (Array.getElem?_eq_some_iff.1 hh).1, fun j hj => ?_⟩⟩
    rw [List.length_map] at hj
    have hc := World.ownsRow.cells h2' (g := g) rfl
    have hadd : ∀ k, (⟨g, 0, none⟩ : Addr).add k = ⟨g, k, none⟩ := fun k => by unfold Addr.add; split <;> simp_all
    obtain ⟨e0, e1, e2, e3⟩ := ndCells_at ps j hj
    have a0 := hc _ _ e0
    have a1 := hc _ _ e1
    have a2 := hc _ _ e2
    have a3 := hc _ _ e3
    rw [hadd] at a0 a1 a2 a3
    rw [List.getElem_map]
    have hw := h3 ps[j] (List.getElem_mem hj)
    obtain ⟨a, c, hv⟩ := own_form hw
    exact ⟨a0, a1, a2, ⟨a, c, by rw [← hv]; exact a3, by rw [← hv]; exact row_rdI hw⟩⟩
end Go.Proofs.YtbimjdlkffbncaaDoor
