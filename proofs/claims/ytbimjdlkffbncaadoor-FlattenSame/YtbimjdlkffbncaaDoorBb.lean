/-
  Graphs with other numbers: the same order, the same normal form.
-/
import Derived.Test.YtbimjdlkffbncaaDoorBa
namespace Go.Proofs.YtbimjdlkffbncaaDoor
namespace Ar
/-- with as many rounds as there are nodes left, or more, the walk is the same -/
theorem meet_more (g : List Nd) (hg : Kids g) : ∀ (f f' a : Nat) (met : List Nat), a < g.length → NB g.length met → g.length + 1 ≤ f + met.length → g.length + 1 ≤ f' + met.length → meet f g a met = meet f' g a met
  | 0, _, _, met, _, h, hf, _ => by have := h.len; omega
  | f + 1, 0, _, met, _, h, _, hf => by have := h.len; omega
  | f + 1, f' + 1, a, met, ha, h, hf, hf' => by
    unfold meet
    cases hc : met.contains a
    · rw [if_neg (by decide), if_neg (by decide)]
      have key : ∀ (ks : List Int) (m : List Nat), (∀ k ∈ ks, k.toNat < g.length) → NB g.length m → g.length + 1 ≤ f + m.length → g.length + 1 ≤ f' + m.length → ks.foldl (fun m k => meet f g k.toNat m) m = ks.foldl (fun m k => meet f' g k.toNat m) m := by
        intro ks
        induction ks with
        | nil => intros; rfl
        | cons k t ih =>
          intro m hks hm h1 h2
          obtain ⟨h3, h4⟩ := meet_nb g hg f k.toNat m (hks k List.mem_cons_self) hm
          rw [List.foldl_cons, List.foldl_cons, ← meet_more g hg f f' k.toNat m (hks k List.mem_cons_self) hm h1 h2]
          exact ih _ (fun k hk => hks k (List.mem_cons_of_mem _ hk)) h3 (by omega) (by omega)
      exact key _ _ (fun k h => (hg.at' ha k h).2) (h.snoc ha hc) (by rw [List.length_append, List.length_singleton]; omega) (by rw [List.length_append, List.length_singleton]; omega)
    · rw [if_pos rfl, if_pos rfl]
/-- a graph's part below some nodes, with other numbers, in another graph -/
structure Iso (g h : List Nd) (S : Nat → Prop) (f : Nat → Nat) : Prop where
  lt : ∀ a, S a → a < g.length ∧ f a < h.length
  kids : ∀ a, S a → ∀ k ∈ (at' g a).kids, S k.toNat
  inj : ∀ a b, S a → S b → f a = f b → a = b
  node : ∀ a, S a → at' h (f a) = ⟨(at' g a).kind, (at' g a).tag, (at' g a).text, (at' g a).kids.map fun k => ((f k.toNat : Nat) : Int)⟩
theorem Iso.contains {g h : List Nd} {S : Nat → Prop} {f : Nat → Nat} (i : Iso g h S f) (met : List Nat) (hm : ∀ x ∈ met, S x) (a : Nat) (ha : S a) : (met.map f).contains (f a) = met.contains a := by
  rw [Bool.eq_iff_iff, List.contains_iff_mem, List.contains_iff_mem, List.mem_map]
  exact ⟨fun ⟨x, hx, e⟩ => i.inj _ _ (hm x hx) ha e ▸ hx, fun h => ⟨a, h, rfl⟩⟩
theorem Iso.meet {g h : List Nd} {S : Nat → Prop} {f : Nat → Nat} (i : Iso g h S f) : ∀ (n a : Nat) (met : List Nat), S a → (∀ x ∈ met, S x) → Ar.meet n h (f a) (met.map f) = (Ar.meet n g a met).map f ∧ ∀ x ∈ Ar.meet n g a met, S x
  | 0, _, _, _, hm => ⟨rfl, hm⟩
  | n + 1, a, met, ha, hm => by
    unfold Ar.meet
    rw [i.contains met hm a ha]
    cases hc : met.contains a
    · rw [if_neg (by decide), if_neg (by decide)]
      have key : ∀ (ks : List Int) (m : List Nat), (∀ k ∈ ks, S k.toNat) → (∀ x ∈ m, S x) →
          (ks.map fun k => ((f k.toNat : Nat) : Int)).foldl (fun m k => Ar.meet n h k.toNat m) (m.map f) = (ks.foldl (fun m k => Ar.meet n g k.toNat m) m).map f ∧ ∀ x ∈ ks.foldl (fun m k => Ar.meet n g k.toNat m) m, S x := by
        intro ks
        induction ks with
        | nil => intro m _ hm; exact ⟨rfl, hm⟩
        | cons k t ih =>
          intro m hks hm
          obtain ⟨h1, h2⟩ := i.meet n k.toNat m (hks k List.mem_cons_self) hm
          rw [List.map_cons, List.foldl_cons, List.foldl_cons, Int.toNat_natCast, h1]
          exact ih _ (fun k hk => hks k (List.mem_cons_of_mem _ hk)) h2
      have h1 := key (at' g a).kids (met ++ [a]) (i.kids a ha) (fun x hx => by
        rcases List.mem_append.1 hx with hx | hx
        · exact hm x hx
        · rw [List.mem_singleton.1 hx]; exact ha)
      rw [i.node a ha]
      simp only
      rw [List.map_append, List.map_singleton] at h1
      exact h1
    · rw [if_pos rfl, if_pos rfl]
      exact ⟨rfl, hm⟩
theorem idxOf_ne {x a : Nat} (t : List Nat) (h : x ≠ a) : (x :: t).idxOf a = t.idxOf a + 1 := by
  rw [List.idxOf_cons, beq_eq_false_iff_ne.2 h]; rfl
/-- the number of what was met is its place -/
theorem numGo_at : ∀ (met : List Nat) (ns : List Int) (i k : Nat), met.Nodup → (∀ x ∈ met, x < ns.length) → (numGo ns i met).getD k 0 = if k ∈ met then ((i + met.idxOf k : Nat) : Int) else ns.getD k 0
  | [], _, _, _, _, _ => rfl
  | a :: t, ns, i, k, hd, hl => by
    rw [List.nodup_cons] at hd
    unfold numGo
    rw [numGo_at t (ns.set a i) (i + 1) k hd.2 (fun x hx => by rw [List.length_set]; exact hl x (List.mem_cons_of_mem _ hx))]
    by_cases hka : k = a
    · subst hka
      rw [if_neg hd.1, if_pos List.mem_cons_self, List.getD_eq_getElem?_getD, List.getElem?_set, if_pos rfl, if_pos (hl k List.mem_cons_self), Option.getD_some, List.idxOf_cons_self]
      rfl
    · by_cases hkt : k ∈ t
      · rw [if_pos hkt, if_pos (List.mem_cons_of_mem _ hkt), idxOf_ne _ (fun e => hka e.symm)]
        congr 1
        omega
      · rw [if_neg hkt, if_neg (fun h => by rcases List.mem_cons.1 h with h | h; exact hka h; exact hkt h), List.getD_eq_getElem?_getD, List.getElem?_set, if_neg (fun e => hka e.symm), List.getD_eq_getElem?_getD]
theorem nums_at (g : List Nd) (met : List Nat) (h : NB g.length met) (k : Nat) (hk : k ∈ met) : (nums g met).getD k 0 = ((met.idxOf k : Nat) : Int) := by
  unfold nums
  rw [numGo_at met _ 0 k h.1 (fun x hx => by rw [List.length_replicate]; exact h.2 x hx), if_pos hk, Nat.zero_add]
theorem idxOf_map (f : Nat → Nat) : ∀ (l : List Nat) (a : Nat), (∀ x ∈ l, f x = f a → x = a) → (l.map f).idxOf (f a) = l.idxOf a
  | [], _, _ => rfl
  | x :: t, a, h => by
    rw [List.map_cons]
    by_cases hx : x = a
    · subst hx
      rw [List.idxOf_cons_self, List.idxOf_cons_self]
    · rw [idxOf_ne _ (fun e => hx (h x List.mem_cons_self e)), idxOf_ne _ hx, idxOf_map f t a (fun y hy => h y (List.mem_cons_of_mem _ hy))]
theorem foldl_sub (g : List Nd) (f : Nat) (hs : ∀ (a : Nat) (met : List Nat), met ⊆ meet f g a met) : ∀ (ks : List Int) (m : List Nat), m ⊆ ks.foldl (fun m k => meet f g k.toNat m) m
  | [], _ => fun _ h => h
  | k :: t, m => fun x hx => foldl_sub g f hs t _ (hs k.toNat m hx)
/-- what was met stays met -/
theorem meet_sub (g : List Nd) : ∀ (f a : Nat) (met : List Nat), met ⊆ meet f g a met
  | 0, _, _ => fun _ h => h
  | f + 1, a, met => by
    unfold meet
    split
    · exact fun _ h => h
    · exact fun x hx => foldl_sub g f (meet_sub g f) _ _ (List.mem_append_left _ hx)
theorem meet_self (g : List Nd) (f a : Nat) (met : List Nat) : a ∈ meet (f + 1) g a met := by
  unfold meet
  split
  · rename_i h; exact List.contains_iff_mem.1 h
  · exact foldl_sub g f (meet_sub g f) _ _ (List.mem_append_right _ (List.mem_singleton.2 rfl))
/-- of what is newly met all kids are met -/
theorem meet_kids (g : List Nd) (hg : Kids g) : ∀ (f a : Nat) (met : List Nat), a < g.length → NB g.length met → g.length + 1 ≤ f + met.length → ∀ y ∈ meet f g a met, y ∈ met ∨ ∀ k ∈ (at' g y).kids, k.toNat ∈ meet f g a met
  | 0, _, met, _, h, hf => by have := h.len; omega
  | f + 1, a, met, ha, h, hf => by
    intro y hy
    unfold meet at hy ⊢
    cases hc : met.contains a
    · rw [hc, if_neg (by decide)] at hy
      rw [if_neg (by decide)]
      have key : ∀ (ks : List Int) (m : List Nat), (∀ k ∈ ks, k.toNat < g.length) → NB g.length m → g.length + 1 ≤ f + m.length →
          (∀ k ∈ ks, k.toNat ∈ ks.foldl (fun m k => meet f g k.toNat m) m) ∧ ∀ y ∈ ks.foldl (fun m k => meet f g k.toNat m) m, y ∈ m ∨ ∀ k ∈ (at' g y).kids, k.toNat ∈ ks.foldl (fun m k => meet f g k.toNat m) m := by
        intro ks
        induction ks with
        | nil => intro m _ _ _; exact ⟨fun k hk => absurd hk List.not_mem_nil, fun y hy => .inl hy⟩
        | cons k t ih =>
          intro m hks hm h1
          have hk0 := hks k List.mem_cons_self
          obtain ⟨h3, h4⟩ := meet_nb g hg f k.toNat m hk0 hm
          obtain ⟨h5, h6⟩ := ih _ (fun k hk => hks k (List.mem_cons_of_mem _ hk)) h3 (by omega)
          rw [List.foldl_cons]
          refine ⟨fun q hq => ?_, fun y hy => ?_⟩
          · rcases List.mem_cons.1 hq with rfl | hq
            · refine foldl_sub g f (meet_sub g f) t _ ?_
              have := hm.len
              obtain ⟨f', rfl⟩ : ∃ f', f = f' + 1 := ⟨f - 1, by omega⟩
              exact meet_self g f' _ m
            · exact h5 q hq
          · rcases h6 y hy with h7 | h7
            · rcases meet_kids g hg f k.toNat m hk0 hm h1 y h7 with h8 | h8
              · exact .inl h8
              · exact .inr fun q hq => foldl_sub g f (meet_sub g f) t _ (h8 q hq)
            · exact .inr h7
      have hl : g.length + 1 ≤ f + (met ++ [a]).length := by rw [List.length_append, List.length_singleton]; omega
      obtain ⟨h1, h2⟩ := key (at' g a).kids (met ++ [a]) (fun k h => (hg.at' ha k h).2) (h.snoc ha hc) hl
      rcases h2 y hy with h3 | h3
      · rcases List.mem_append.1 h3 with h3 | h3
        · exact .inl h3
        · rw [List.mem_singleton.1 h3]
          exact .inr h1
      · exact .inr h3
    · rw [hc, if_pos rfl] at hy
      exact .inl hy
theorem order_kids (g : List Nd) (hr : right g = true) : ∀ y ∈ order g, ∀ k ∈ (at' g y).kids, k.toNat ∈ order g := by
  intro y hy
  unfold order at hy ⊢
  rw [if_pos hr] at hy ⊢
  rcases meet_kids g (right_kids hr) (g.length + 1) 0 [] (right_len hr).1 ⟨List.nodup_nil, fun x hx => absurd hx List.not_mem_nil⟩ (by simp) y hy with h | h
  · cases h
  · exact h
theorem order_zero (g : List Nd) (hr : right g = true) : ∃ t, order g = 0 :: t := by
  unfold order
  rw [if_pos hr]
  have key : ∀ (f a : Nat) (m : Nat) (met : List Nat), ∃ t, meet f g a (m :: met) = m :: t := by
    intro f
    induction f with
    | zero => intro a m met; exact ⟨met, rfl⟩
    | succ f ih =>
      intro a m met
      unfold meet
      split
      · exact ⟨met, rfl⟩
      · generalize (at' g a).kids = ks
        rw [List.cons_append]
        generalize met ++ [a] = met'
        induction ks generalizing met' with
        | nil => exact ⟨met', rfl⟩
        | cons k t ih2 =>
          rw [List.foldl_cons]
          obtain ⟨t', ht⟩ := ih k.toNat m met'
          rw [ht]
          exact ih2 t'
  unfold meet
  rw [if_neg (by simp), List.nil_append]
  generalize (at' g ((0 : Nat) : Int)).kids = ks
  suffices h : ∀ (ks : List Int) (met : List Nat), ∃ t, ks.foldl (fun m k => meet g.length g k.toNat m) (0 :: met) = 0 :: t from h ks []
  intro ks
  induction ks with
  | nil => intro met; exact ⟨met, rfl⟩
  | cons k t ih =>
    intro met
    rw [List.foldl_cons]
    obtain ⟨t', ht⟩ := key g.length k.toNat 0 met
    rw [ht]
    exact ih t'
/-- graphs of the same form below their roots have the same normal form -/
theorem iso_order {g h : List Nd} {S : Nat → Prop} {f : Nat → Nat} (i : Iso g h S f) (hr : right g = true) (hr' : right h = true) (h0 : S 0) (hf : f 0 = 0) : order h = (order g).map f ∧ ∀ x ∈ order g, S x := by
  unfold order
  rw [if_pos hr, if_pos hr']
  have e1 := meet_more g (right_kids hr) (g.length + 1) (g.length + h.length + 1) 0 [] (right_len hr).1 ⟨List.nodup_nil, fun x hx => absurd hx List.not_mem_nil⟩ (by simp) (by simp)
  have e2 := meet_more h (right_kids hr') (h.length + 1) (g.length + h.length + 1) 0 [] (right_len hr').1 ⟨List.nodup_nil, fun x hx => absurd hx List.not_mem_nil⟩ (by simp) (by simp)
  have := i.meet (g.length + h.length + 1) 0 [] h0 (fun x hx => absurd hx List.not_mem_nil)
  rw [hf, List.map_nil] at this
  rw [e1, e2]
  exact this
theorem iso_normal {g h : List Nd} {S : Nat → Prop} {f : Nat → Nat} (i : Iso g h S f) (hr : right g = true) (hr' : right h = true) (h0 : S 0) (hf : f 0 = 0) : normal h = normal g := by
  obtain ⟨ho, hs⟩ := iso_order i hr hr' h0 hf
  unfold normal
  have hng := order_nb g
  have hnh := order_nb h
  have hk := order_kids g hr
  rw [ho] at hnh ⊢
  rw [List.map_map]
  apply List.map_congr_left
  intro a ha
  simp only [Function.comp]
  unfold renum
  rw [i.node a (hs a ha)]
  simp only [Nd.mk.injEq, true_and]
  rw [List.map_map]
  apply List.map_congr_left
  intro k hkk
  simp only [Function.comp, Int.toNat_natCast]
  have hko := hk a ha k hkk
  rw [nums_at g _ hng _ hko, nums_at h _ hnh _ (List.mem_map.2 ⟨_, hko, rfl⟩), idxOf_map f _ _ (fun x hx e => i.inj _ _ (hs x hx) (hs _ hko) e)]
theorem normal_len (g : List Nd) : (normal g).length = (order g).length := by unfold normal; rw [List.length_map]
theorem normal_at (g : List Nd) (i : Nat) (h : i < (order g).length) : at' (normal g) i = renum g (nums g (order g)) (order g)[i] := by
  unfold at' normal
  rw [List.getD_eq_getElem?_getD, Int.toNat_natCast, List.getElem?_map, List.getElem?_eq_getElem h]; rfl
theorem idxOf_get (l : List Nat) (hd : l.Nodup) (i : Nat) (h : i < l.length) : l.idxOf l[i] = i := hd.idxOf_getElem i h
/-- from a graph to its normal form -/
theorem iso_to_normal (g : List Nd) (hr : right g = true) : Iso g (normal g) (fun a => a ∈ order g) (fun a => (order g).idxOf a) where
  lt := fun a ha => ⟨(order_nb g).2 a ha, by rw [normal_len]; exact List.idxOf_lt_length_of_mem ha⟩
  kids := fun a ha => order_kids g hr a ha
  inj := fun a b ha hb e => by
    have e : (order g).idxOf a = (order g).idxOf b := e
    have h1 := List.getElem_idxOf (List.idxOf_lt_length_of_mem ha)
    have h2 := List.getElem_idxOf (List.idxOf_lt_length_of_mem hb)
    rw [← h1, ← h2]
    congr 1
  node := fun a ha => by
    have hi := List.idxOf_lt_length_of_mem ha
    rw [normal_at g _ hi, List.getElem_idxOf hi]
    unfold renum
    simp only [Nd.mk.injEq, true_and]
    apply List.map_congr_left
    intro k hk
    exact nums_at g _ (order_nb g) _ (order_kids g hr a ha k hk)
end Ar
end Go.Proofs.YtbimjdlkffbncaaDoor
