/-
  How often each node is met, and how many kids there are (ArenaSum's mathematics).
  Graphs with other numbers: the same order, the same normal form.
  Normal forms may be, and are their own normal forms (ArenaNormal's mathematics).
-/
import Derived.Test.YtbimjdlkffbncaaDoorAm
namespace Go.Proofs.YtbimjdlkffbncaaDoor
namespace Ar
theorem sum_set : ∀ (l : List Int) (i : Nat) (v : Int), i < l.length → (l.set i v).sum = l.sum - l.getD i 0 + v
  | [], i, _, h => absurd h (by simp)
  | a :: t, 0, v, _ => by simp only [List.set_cons_zero, List.sum_cons, List.getD_cons_zero]; omega
  | a :: t, i + 1, v, h => by
    have := sum_set t i v (by simpa using h)
    simp only [List.set_cons_succ, List.sum_cons, List.getD_cons_succ]; omega
theorem addAll_len (cs : List Int) (ks : List Int) : (addAll cs ks).length = cs.length := by
  unfold addAll
  induction ks generalizing cs with
  | nil => rfl
  | cons k t ih => rw [List.foldl_cons, ih, addAt_len]
theorem insGo_len (g : List Nd) (cs : List Int) : (insGo g cs).length = cs.length := by
  unfold insGo
  induction g generalizing cs with
  | nil => rfl
  | cons k t ih => rw [List.foldl_cons, ih, addAll_len]
theorem addAll_sum : ∀ (ks : List Int) (cs : List Int), (∀ k ∈ ks, k.toNat < cs.length) → (addAll cs ks).sum = cs.sum + (ks.length : Int)
  | [], cs, _ => by simp [addAll]
  | k :: t, cs, h => by
    have h1 := addAll_sum t (addAt cs k) (fun k hk => by rw [addAt_len]; exact h k (List.mem_cons_of_mem _ hk))
    show (addAll (addAt cs k) t).sum = _
    rw [h1]
    unfold addAt
    rw [sum_set _ _ _ (h k List.mem_cons_self), List.length_cons]
    omega
/-- how many kids there are -/
def total (g : List Nd) : Nat := (g.map (·.kids.length)).sum
theorem total_cons (x : Nd) (t : List Nd) : total (x :: t) = x.kids.length + total t := by unfold total; rw [List.map_cons, List.sum_cons]
theorem insGo_sum : ∀ (g : List Nd) (cs : List Int), (∀ x ∈ g, ∀ k ∈ x.kids, k.toNat < cs.length) → (insGo g cs).sum = cs.sum + (total g : Int)
  | [], cs, _ => by simp [insGo, total]
  | x :: t, cs, h => by
    have h1 := insGo_sum t (addAll cs x.kids) (fun y hy k hk => by rw [addAll_len]; exact h y (List.mem_cons_of_mem _ hy) k hk)
    show (insGo t (addAll cs x.kids)).sum = _
    rw [h1, addAll_sum _ _ (h x List.mem_cons_self), total_cons]
    omega
theorem addAt_ge (cs : List Int) (k : Int) (i : Nat) : cs.getD i 0 ≤ (addAt cs k).getD i 0 := by
  unfold addAt
  rw [List.getD_eq_getElem?_getD, List.getD_eq_getElem?_getD, List.getElem?_set]
  by_cases h : k.toNat = i
  · subst h
    rw [if_pos rfl]
    by_cases hl : k.toNat < cs.length
    · rw [if_pos hl, List.getD_eq_getElem?_getD, Option.getD_some]; omega
    · rw [if_neg hl, List.getElem?_eq_none (by omega)]; omega
  · rw [if_neg h]; exact Int.le_refl _
theorem addAt_hit (cs : List Int) (k : Int) (h : k.toNat < cs.length) : (addAt cs k).getD k.toNat 0 = cs.getD k.toNat 0 + 1 := by
  unfold addAt
  rw [List.getD_eq_getElem?_getD, List.getElem?_set, if_pos rfl, if_pos h, Option.getD_some]
theorem addAll_ge : ∀ (ks : List Int) (cs : List Int) (i : Nat), cs.getD i 0 ≤ (addAll cs ks).getD i 0
  | [], _, _ => Int.le_refl _
  | k :: t, cs, i => Int.le_trans (addAt_ge cs k i) (addAll_ge t (addAt cs k) i)
theorem insGo_ge : ∀ (g : List Nd) (cs : List Int) (i : Nat), cs.getD i 0 ≤ (insGo g cs).getD i 0
  | [], _, _ => Int.le_refl _
  | x :: t, cs, i => Int.le_trans (addAll_ge x.kids cs i) (insGo_ge t _ i)
theorem addAll_hit : ∀ (ks : List Int) (cs : List Int) (i : Nat), i < cs.length → (∃ k ∈ ks, k.toNat = i) → cs.getD i 0 + 1 ≤ (addAll cs ks).getD i 0
  | [], _, _, _, h => by obtain ⟨k, hk, _⟩ := h; cases hk
  | k :: t, cs, i, hi, h => by
    by_cases hk : k.toNat = i
    · subst hk
      have h1 := addAll_ge t (addAt cs k) k.toNat
      rw [addAt_hit cs k hi] at h1
      exact h1
    · obtain ⟨q, hq, hqi⟩ := h
      rcases List.mem_cons.1 hq with rfl | hq
      · exact absurd hqi hk
      · have h1 := addAll_hit t (addAt cs k) i (by rw [addAt_len]; exact hi) ⟨q, hq, hqi⟩
        have h2 := addAt_ge cs k i
        show _ ≤ (addAll (addAt cs k) t).getD i 0
        omega
theorem insGo_hit : ∀ (g : List Nd) (cs : List Int) (i : Nat), i < cs.length → (∃ x ∈ g, ∃ k ∈ x.kids, k.toNat = i) → cs.getD i 0 + 1 ≤ (insGo g cs).getD i 0
  | [], _, _, _, h => by obtain ⟨k, hk, _⟩ := h; cases hk
  | x :: t, cs, i, hi, h => by
    by_cases hx : ∃ k ∈ x.kids, k.toNat = i
    · exact Int.le_trans (addAll_hit _ _ _ hi hx) (insGo_ge t _ i)
    · obtain ⟨q, hq, hqi⟩ := h
      rcases List.mem_cons.1 hq with rfl | hq
      · exact absurd hqi hx
      · have h1 := insGo_hit t (addAll cs x.kids) i (by rw [addAll_len]; exact hi) ⟨q, hq, hqi⟩
        have h2 := addAll_ge x.kids cs i
        show _ ≤ (insGo t (addAll cs x.kids)).getD i 0
        omega
theorem Bd.all : ∀ (ks : List Int) (cs : List Int) (t : Nat), Bd cs t → Bd (addAll cs ks) (t + ks.length)
  | [], _, _, h => h
  | k :: l, cs, t, h => by
    have := Bd.all l (addAt cs k) (t + 1) (h.add k)
    rw [List.length_cons, show t + (l.length + 1) = t + 1 + l.length by omega]
    exact this
theorem Bd.go : ∀ (g : List Nd) (cs : List Int) (t : Nat), Bd cs t → Bd (insGo g cs) (t + total g)
  | [], _, _, h => h
  | x :: l, cs, t, h => by
    have := Bd.go l (addAll cs x.kids) (t + x.kids.length) (Bd.all _ _ _ h)
    rw [total_cons, ← Nat.add_assoc]
    exact this
/-- what is met is the first one, or was met, or is a kid of some node -/
theorem meet_kid (g : List Nd) : ∀ (f a : Nat) (met : List Nat), ∀ y ∈ meet f g a met, y ∈ met ∨ y = a ∨ ∃ x ∈ g, ∃ k ∈ x.kids, k.toNat = y
  | 0, _, _, _, h => .inl h
  | f + 1, a, met, y, h => by
    unfold meet at h
    split at h
    · exact .inl h
    · have key : ∀ (ks : List Int) (m : List Nat), (∀ k ∈ ks, ∃ x ∈ g, k ∈ x.kids) → y ∈ ks.foldl (fun m k => meet f g k.toNat m) m → y ∈ m ∨ ∃ x ∈ g, ∃ k ∈ x.kids, k.toNat = y := by
        intro ks
        induction ks with
        | nil => intro m _ hm; exact .inl hm
        | cons k t ih =>
          intro m hks hm
          rcases ih _ (fun k hk => hks k (List.mem_cons_of_mem _ hk)) hm with h1 | h1
          · rcases meet_kid g f k.toNat m y h1 with h2 | h2 | h2
            · exact .inl h2
            · obtain ⟨x, hx, hk⟩ := hks k List.mem_cons_self
              exact .inr ⟨x, hx, k, hk, h2.symm⟩
            · exact .inr h2
          · exact .inr h1
      have hks : ∀ k ∈ (at' g a).kids, ∃ x ∈ g, k ∈ x.kids := by
        intro k hk
        unfold at' at hk
        rw [List.getD_eq_getElem?_getD] at hk
        cases hx : g[(a : Int).toNat]? with
        | none => rw [hx] at hk; cases hk
        | some x => rw [hx] at hk; exact ⟨x, List.mem_of_getElem? hx, hk⟩
      rcases key _ _ hks h with h1 | h1
      · rcases List.mem_append.1 h1 with h2 | h2
        · exact .inl h2
        · exact .inr (.inl (List.mem_singleton.1 h2))
      · exact .inr (.inr h1)
theorem order_ins (g : List Nd) (hr : right g = true) : ∀ y ∈ order g, 0 < y → (ins g).getD y 0 ≠ 0 := by
  intro y hy h0
  have hlt := (order_nb g).2 y hy
  unfold order at hy
  rw [if_pos hr] at hy
  unfold ins
  rw [if_pos hr]
  have h1 : ∃ x ∈ g, ∃ k ∈ x.kids, k.toNat = y := by
    rcases meet_kid g _ _ _ y hy with h | h | h
    · cases h
    · omega
    · exact h
  have h2 := insGo_hit g (List.replicate g.length 0) y (by rw [List.length_replicate]; exact hlt) h1
  rw [List.getD_eq_getElem?_getD (l := List.replicate _ _), List.getElem?_replicate, if_pos hlt, Option.getD_some] at h2
  omega
theorem ins_len (g : List Nd) (hr : right g = true) : (ins g).length = g.length := by
  unfold ins; rw [if_pos hr, insGo_len, List.length_replicate]
theorem sum_repl (n : Nat) : (List.replicate n (0 : Int)).sum = 0 := by
  induction n with
  | zero => rfl
  | succ n ih => rw [List.replicate_succ, List.sum_cons, ih]; rfl
theorem ins_sum (g : List Nd) (hr : right g = true) : (ins g).sum = (total g : Int) := by
  unfold ins
  rw [if_pos hr, insGo_sum _ _ (fun x hx k hk => by
    rw [List.length_replicate]
    have := right_kids hr x hx k hk
    unfold isNode at this
    simp only [Bool.and_eq_true, decide_eq_true_eq] at this
    omega), sum_repl]
  omega
theorem ins_bd (g : List Nd) (hr : right g = true) : Bd (ins g) (total g) := by
  unfold ins
  rw [if_pos hr]
  have := Bd.go g (List.replicate g.length 0) 0 (fun c hc => by rw [List.eq_of_mem_replicate hc]; omega)
  rw [Nat.zero_add] at this
  exact this
theorem total_le : ∀ (g : List Nd) (m : Nat), (∀ x ∈ g, x.kids.length ≤ m) → total g ≤ g.length * m
  | [], _, _ => Nat.zero_le _
  | x :: t, m, h => by
    have h1 := total_le t m (fun y hy => h y (List.mem_cons_of_mem _ hy))
    have h2 := h x List.mem_cons_self
    rw [total_cons, List.length_cons, Nat.add_mul]
    omega
end Ar
end Go.Proofs.YtbimjdlkffbncaaDoor
namespace Go.Proofs.YtbimjdlkffbncaaDoor
namespace Ar
/-- with as many rounds as there are nodes left, or more, the walk is the same -/
theorem meet_more (g : List Nd) (hg : Kids g) : ∀ (f f' a : Nat) (met : List Nat), a < g.length → NB g.length met → g.length + 1 ≤ f + met.length → g.length + 1 ≤ f' + met.length → meet f g a met = meet f' g a met
  | 0, _, _, met, _, h, hf, _ => by have := h.len; omega
  | f + 1, 0, _, met, _, h, _, hf => by have := h.len; omega
  | f + 1, f' + 1, a, met, ha, h, hf, hf' => by
    unfold meet
    cases hc : met.contains a
    · rw [if_neg (by decide), if_neg (by decide)]
      have key : ∀ (ks : List Int) (m : List Nat), (∀ k ∈ ks, k.toNat < g.length) → NB g.length m → g.length + 1 ≤ f + m.length → g.length + 1 ≤ f' + m.length → ks.foldl (fun m k => meet f g k.toNat m) m = ks.foldl (fun m k => meet f' g k.toNat m) m := by
        intro ks
        induction ks with
        | nil => intros; rfl
        | cons k t ih =>
          intro m hks hm h1 h2
          obtain ⟨h3, h4⟩ := meet_nb g hg f k.toNat m (hks k List.mem_cons_self) hm
          rw [List.foldl_cons, List.foldl_cons, ← meet_more g hg f f' k.toNat m (hks k List.mem_cons_self) hm h1 h2]
          exact ih _ (fun k hk => hks k (List.mem_cons_of_mem _ hk)) h3 (by omega) (by omega)
      exact key _ _ (fun k h => (hg.at' ha k h).2) (h.snoc ha hc) (by rw [List.length_append, List.length_singleton]; omega) (by rw [List.length_append, List.length_singleton]; omega)
    · rw [if_pos rfl, if_pos rfl]
/-- a graph's part below some nodes, with other numbers, in another graph -/
structure Iso (g h : List Nd) (S : Nat → Prop) (f : Nat → Nat) : Prop where
  lt : ∀ a, S a → a < g.length ∧ f a < h.length
  kids : ∀ a, S a → ∀ k ∈ (at' g a).kids, S k.toNat
  inj : ∀ a b, S a → S b → f a = f b → a = b
  node : ∀ a, S a → at' h (f a) = ⟨(at' g a).kind, (at' g a).tag, (at' g a).text, (at' g a).kids.map fun k => ((f k.toNat : Nat) : Int)⟩
theorem Iso.contains {g h : List Nd} {S : Nat → Prop} {f : Nat → Nat} (i : Iso g h S f) (met : List Nat) (hm : ∀ x ∈ met, S x) (a : Nat) (ha : S a) : (met.map f).contains (f a) = met.contains a := by
  rw [Bool.eq_iff_iff, List.contains_iff_mem, List.contains_iff_mem, List.mem_map]
  exact ⟨fun ⟨x, hx, e⟩ => i.inj _ _ (hm x hx) ha e ▸ hx, fun h => ⟨a, h, rfl⟩⟩
theorem Iso.meet {g h : List Nd} {S : Nat → Prop} {f : Nat → Nat} (i : Iso g h S f) : ∀ (n a : Nat) (met : List Nat), S a → (∀ x ∈ met, S x) → Ar.meet n h (f a) (met.map f) = (Ar.meet n g a met).map f ∧ ∀ x ∈ Ar.meet n g a met, S x
  | 0, _, _, _, hm => ⟨rfl, hm⟩
  | n + 1, a, met, ha, hm => by
    unfold Ar.meet
    rw [i.contains met hm a ha]
    cases hc : met.contains a
    · rw [if_neg (by decide), if_neg (by decide)]
      have key : ∀ (ks : List Int) (m : List Nat), (∀ k ∈ ks, S k.toNat) → (∀ x ∈ m, S x) →
          (ks.map fun k => ((f k.toNat : Nat) : Int)).foldl (fun m k => Ar.meet n h k.toNat m) (m.map f) = (ks.foldl (fun m k => Ar.meet n g k.toNat m) m).map f ∧ ∀ x ∈ ks.foldl (fun m k => Ar.meet n g k.toNat m) m, S x := by
        intro ks
        induction ks with
        | nil => intro m _ hm; exact ⟨rfl, hm⟩
        | cons k t ih =>
          intro m hks hm
          obtain ⟨h1, h2⟩ := i.meet n k.toNat m (hks k List.mem_cons_self) hm
          rw [List.map_cons, List.foldl_cons, List.foldl_cons, Int.toNat_natCast, h1]
          exact ih _ (fun k hk => hks k (List.mem_cons_of_mem _ hk)) h2
      have h1 := key (at' g a).kids (met ++ [a]) (i.kids a ha) (fun x hx => by
        rcases List.mem_append.1 hx with hx | hx
        · exact hm x hx
        · rw [List.mem_singleton.1 hx]; exact ha)
      rw [i.node a ha]
      simp only
      rw [List.map_append, List.map_singleton] at h1
      exact h1
    · rw [if_pos rfl, if_pos rfl]
      exact ⟨rfl, hm⟩
theorem idxOf_ne {x a : Nat} (t : List Nat) (h : x ≠ a) : (x :: t).idxOf a = t.idxOf a + 1 := by
  rw [List.idxOf_cons, beq_eq_false_iff_ne.2 h]; rfl
/-- the number of what was met is its place -/
theorem numGo_at : ∀ (met : List Nat) (ns : List Int) (i k : Nat), met.Nodup → (∀ x ∈ met, x < ns.length) → (numGo ns i met).getD k 0 = if k ∈ met then ((i + met.idxOf k : Nat) : Int) else ns.getD k 0
  | [], _, _, _, _, _ => rfl
  | a :: t, ns, i, k, hd, hl => by
    rw [List.nodup_cons] at hd
    unfold numGo
    rw [numGo_at t (ns.set a i) (i + 1) k hd.2 (fun x hx => by rw [List.length_set]; exact hl x (List.mem_cons_of_mem _ hx))]
    by_cases hka : k = a
    · subst hka
      rw [if_neg hd.1, if_pos List.mem_cons_self, List.getD_eq_getElem?_getD, List.getElem?_set, if_pos rfl, if_pos (hl k List.mem_cons_self), Option.getD_some, List.idxOf_cons_self]
      rfl
    · by_cases hkt : k ∈ t
      · rw [if_pos hkt, if_pos (List.mem_cons_of_mem _ hkt), idxOf_ne _ (fun e => hka e.symm)]
        congr 1
        omega
      · rw [if_neg hkt, if_neg (fun h => by rcases List.mem_cons.1 h with h | h; exact hka h; exact hkt h), List.getD_eq_getElem?_getD, List.getElem?_set, if_neg (fun e => hka e.symm), List.getD_eq_getElem?_getD]
theorem nums_at (g : List Nd) (met : List Nat) (h : NB g.length met) (k : Nat) (hk : k ∈ met) : (nums g met).getD k 0 = ((met.idxOf k : Nat) : Int) := by
  unfold nums
  rw [numGo_at met _ 0 k h.1 (fun x hx => by rw [List.length_replicate]; exact h.2 x hx), if_pos hk, Nat.zero_add]
theorem idxOf_map (f : Nat → Nat) : ∀ (l : List Nat) (a : Nat), (∀ x ∈ l, f x = f a → x = a) → (l.map f).idxOf (f a) = l.idxOf a
  | [], _, _ => rfl
  | x :: t, a, h => by
    rw [List.map_cons]
    by_cases hx : x = a
    · subst hx
      rw [List.idxOf_cons_self, List.idxOf_cons_self]
    · rw [idxOf_ne _ (fun e => hx (h x List.mem_cons_self e)), idxOf_ne _ hx, idxOf_map f t a (fun y hy => h y (List.mem_cons_of_mem _ hy))]
theorem foldl_sub (g : List Nd) (f : Nat) (hs : ∀ (a : Nat) (met : List Nat), met ⊆ meet f g a met) : ∀ (ks : List Int) (m : List Nat), m ⊆ ks.foldl (fun m k => meet f g k.toNat m) m
  | [], _ => fun _ h => h
  | k :: t, m => fun x hx => foldl_sub g f hs t _ (hs k.toNat m hx)
/-- what was met stays met -/
theorem meet_sub (g : List Nd) : ∀ (f a : Nat) (met : List Nat), met ⊆ meet f g a met
  | 0, _, _ => fun _ h => h
  | f + 1, a, met => by
    unfold meet
    split
    · exact fun _ h => h
    · exact fun x hx => foldl_sub g f (meet_sub g f) _ _ (List.mem_append_left _ hx)
theorem meet_self (g : List Nd) (f a : Nat) (met : List Nat) : a ∈ meet (f + 1) g a met := by
  unfold meet
  split
  · rename_i h; exact List.contains_iff_mem.1 h
  · exact foldl_sub g f (meet_sub g f) _ _ (List.mem_append_right _ (List.mem_singleton.2 rfl))
/-- of what is newly met all kids are met -/
theorem meet_kids (g : List Nd) (hg : Kids g) : ∀ (f a : Nat) (met : List Nat), a < g.length → NB g.length met → g.length + 1 ≤ f + met.length → ∀ y ∈ meet f g a met, y ∈ met ∨ ∀ k ∈ (at' g y).kids, k.toNat ∈ meet f g a met
  | 0, _, met, _, h, hf => by have := h.len; omega
  | f + 1, a, met, ha, h, hf => by
    intro y hy
    unfold meet at hy ⊢
    cases hc : met.contains a
    · rw [hc, if_neg (by decide)] at hy
      rw [if_neg (by decide)]
      have key : ∀ (ks : List Int) (m : List Nat), (∀ k ∈ ks, k.toNat < g.length) → NB g.length m → g.length + 1 ≤ f + m.length →
          (∀ k ∈ ks, k.toNat ∈ ks.foldl (fun m k => meet f g k.toNat m) m) ∧ ∀ y ∈ ks.foldl (fun m k => meet f g k.toNat m) m, y ∈ m ∨ ∀ k ∈ (at' g y).kids, k.toNat ∈ ks.foldl (fun m k => meet f g k.toNat m) m := by
        intro ks
        induction ks with
        | nil => intro m _ _ _; exact ⟨fun k hk => absurd hk List.not_mem_nil, fun y hy => .inl hy⟩
        | cons k t ih =>
          intro m hks hm h1
          have hk0 := hks k List.mem_cons_self
          obtain ⟨h3, h4⟩ := meet_nb g hg f k.toNat m hk0 hm
          obtain ⟨h5, h6⟩ := ih _ (fun k hk => hks k (List.mem_cons_of_mem _ hk)) h3 (by omega)
          rw [List.foldl_cons]
          refine ⟨fun q hq => ?_, fun y hy => ?_⟩
          · rcases List.mem_cons.1 hq with rfl | hq
            · refine foldl_sub g f (meet_sub g f) t _ ?_
              have := hm.len
              obtain ⟨f', rfl⟩ : ∃ f', f = f' + 1 := ⟨f - 1, by omega⟩
              exact meet_self g f' _ m
            · exact h5 q hq
          · rcases h6 y hy with h7 | h7
            · rcases meet_kids g hg f k.toNat m hk0 hm h1 y h7 with h8 | h8
              · exact .inl h8
              · exact .inr fun q hq => foldl_sub g f (meet_sub g f) t _ (h8 q hq)
            · exact .inr h7
      have hl : g.length + 1 ≤ f + (met ++ [a]).length := by rw [List.length_append, List.length_singleton]; omega
      obtain ⟨h1, h2⟩ := key (at' g a).kids (met ++ [a]) (fun k h => (hg.at' ha k h).2) (h.snoc ha hc) hl
      rcases h2 y hy with h3 | h3
      · rcases List.mem_append.1 h3 with h3 | h3
        · exact .inl h3
        · rw [List.mem_singleton.1 h3]
          exact .inr h1
      · exact .inr h3
    · rw [hc, if_pos rfl] at hy
      exact .inl hy
theorem order_kids (g : List Nd) (hr : right g = true) : ∀ y ∈ order g, ∀ k ∈ (at' g y).kids, k.toNat ∈ order g := by
  intro y hy
  unfold order at hy ⊢
  rw [if_pos hr] at hy ⊢
  rcases meet_kids g (right_kids hr) (g.length + 1) 0 [] (right_len hr).1 ⟨List.nodup_nil, fun x hx => absurd hx List.not_mem_nil⟩ (by simp) y hy with h | h
  · cases h
  · exact h
theorem order_zero (g : List Nd) (hr : right g = true) : ∃ t, order g = 0 :: t := by
  unfold order
  rw [if_pos hr]
  have key : ∀ (f a : Nat) (m : Nat) (met : List Nat), ∃ t, meet f g a (m :: met) = m :: t := by
    intro f
    induction f with
    | zero => intro a m met; exact ⟨met, rfl⟩
    | succ f ih =>
      intro a m met
      unfold meet
      split
      · exact ⟨met, rfl⟩
      · generalize (at' g a).kids = ks
        rw [List.cons_append]
        generalize met ++ [a] = met'
        induction ks generalizing met' with
        | nil => exact ⟨met', rfl⟩
        | cons k t ih2 =>
          rw [List.foldl_cons]
          obtain ⟨t', ht⟩ := ih k.toNat m met'
          rw [ht]
          exact ih2 t'
  unfold meet
  rw [if_neg (by simp), List.nil_append]
  generalize (at' g ((0 : Nat) : Int)).kids = ks
  suffices h : ∀ (ks : List Int) (met : List Nat), ∃ t, ks.foldl (fun m k => meet g.length g k.toNat m) (0 :: met) = 0 :: t from h ks []
  intro ks
  induction ks with
  | nil => intro met; exact ⟨met, rfl⟩
  | cons k t ih =>
    intro met
    rw [List.foldl_cons]
    obtain ⟨t', ht⟩ := key g.length k.toNat 0 met
    rw [ht]
    exact ih t'
/-- graphs of the same form below their roots have the same normal form -/
theorem iso_order {g h : List Nd} {S : Nat → Prop} {f : Nat → Nat} (i : Iso g h S f) (hr : right g = true) (hr' : right h = true) (h0 : S 0) (hf : f 0 = 0) : order h = (order g).map f ∧ ∀ x ∈ order g, S x := by
  unfold order
  rw [if_pos hr, if_pos hr']
  have e1 := meet_more g (right_kids hr) (g.length + 1) (g.length + h.length + 1) 0 [] (right_len hr).1 ⟨List.nodup_nil, fun x hx => absurd hx List.not_mem_nil⟩ (by simp) (by simp)
  have e2 := meet_more h (right_kids hr') (h.length + 1) (g.length + h.length + 1) 0 [] (right_len hr').1 ⟨List.nodup_nil, fun x hx => absurd hx List.not_mem_nil⟩ (by simp) (by simp)
  have := i.meet (g.length + h.length + 1) 0 [] h0 (fun x hx => absurd hx List.not_mem_nil)
  rw [hf, List.map_nil] at this
  rw [e1, e2]
  exact this
theorem iso_normal {g h : List Nd} {S : Nat → Prop} {f : Nat → Nat} (i : Iso g h S f) (hr : right g = true) (hr' : right h = true) (h0 : S 0) (hf : f 0 = 0) : normal h = normal g := by
  obtain ⟨ho, hs⟩ := iso_order i hr hr' h0 hf
  unfold normal
  have hng := order_nb g
  have hnh := order_nb h
  have hk := order_kids g hr
  rw [ho] at hnh ⊢
  rw [List.map_map]
  apply List.map_congr_left
  intro a ha
  simp only [Function.comp]
  unfold renum
  rw [i.node a (hs a ha)]
  simp only [Nd.mk.injEq, true_and]
  rw [List.map_map]
  apply List.map_congr_left
  intro k hkk
  simp only [Function.comp, Int.toNat_natCast]
  have hko := hk a ha k hkk
  rw [nums_at g _ hng _ hko, nums_at h _ hnh _ (List.mem_map.2 ⟨_, hko, rfl⟩), idxOf_map f _ _ (fun x hx e => i.inj _ _ (hs x hx) (hs _ hko) e)]
theorem normal_len (g : List Nd) : (normal g).length = (order g).length := by unfold normal; rw [List.length_map]
theorem normal_at (g : List Nd) (i : Nat) (h : i < (order g).length) : at' (normal g) i = renum g (nums g (order g)) (order g)[i] := by
  unfold at' normal
  rw [List.getD_eq_getElem?_getD, Int.toNat_natCast, List.getElem?_map, List.getElem?_eq_getElem h]; rfl
theorem idxOf_get (l : List Nat) (hd : l.Nodup) (i : Nat) (h : i < l.length) : l.idxOf l[i] = i := hd.idxOf_getElem i h
/-- from a graph to its normal form -/
theorem iso_to_normal (g : List Nd) (hr : right g = true) : Iso g (normal g) (fun a => a ∈ order g) (fun a => (order g).idxOf a) where
  lt := fun a ha => ⟨(order_nb g).2 a ha, by rw [normal_len]; exact List.idxOf_lt_length_of_mem ha⟩
  kids := fun a ha => order_kids g hr a ha
  inj := fun a b ha hb e => by
    have e : (order g).idxOf a = (order g).idxOf b := e
    have h1 := List.getElem_idxOf (List.idxOf_lt_length_of_mem ha)
    have h2 := List.getElem_idxOf (List.idxOf_lt_length_of_mem hb)
    rw [← h1, ← h2]
    congr 1
  node := fun a ha => by
    have hi := List.idxOf_lt_length_of_mem ha
    rw [normal_at g _ hi, List.getElem_idxOf hi]
    unfold renum
    simp only [Nd.mk.injEq, true_and]
    apply List.map_congr_left
    intro k hk
    exact nums_at g _ (order_nb g) _ (order_kids g hr a ha k hk)
end Ar
end Go.Proofs.YtbimjdlkffbncaaDoor
namespace Go.Proofs.YtbimjdlkffbncaaDoor
namespace Ar
theorem at_nat (g : List Nd) (k : Int) : at' g ((k.toNat : Nat) : Int) = at' g k := by unfold at'; rw [Int.toNat_natCast]
theorem at_mem (g : List Nd) (a : Nat) (h : a < g.length) : at' g a = g[a] := at_get g a (by omega) (by simpa using h)
theorem right_parts {g : List Nd} (h : right g = true) : (∀ x ∈ g, mayBe g x = true) ∧ twice g = false := by
  unfold right at h
  split at h
  · cases h
  · split at h
    · rename_i h2
      exact ⟨List.all_eq_true.1 h2, by simpa using h⟩
    · cases h
theorem keys_map (f : Int → Int) : ∀ ks : List Int, keys (ks.map f) = (keys ks).map f
  | [] => rfl
  | [_] => rfl
  | k :: _ :: t => by
    show f k :: keys (t.map f) = _
    rw [keys_map f t]; rfl
theorem keys_mem : ∀ (ks : List Int) (k : Int), k ∈ keys ks → k ∈ ks
  | [], _, h => h
  | [_], _, h => h
  | a :: b :: t, k, h => by
    have h : k ∈ a :: keys t := h
    rcases List.mem_cons.1 h with rfl | h
    · exact List.mem_cons_self
    · exact List.mem_cons_of_mem _ (List.mem_cons_of_mem _ (keys_mem t k h))
theorem pairs_keys (g : List Nd) : ∀ ks : List Int, pairs g ks = true → ∀ k ∈ keys ks, (at' g k).kind = 0
  | [], _, k, h => absurd h List.not_mem_nil
  | [_], h, _, _ => by cases h
  | a :: b :: t, h, k, hk => by
    have h : ((at' g a).kind == 0 && pairs g t) = true := h
    rw [Bool.and_eq_true, beq_iff_eq] at h
    have hk : k ∈ a :: keys t := hk
    rcases List.mem_cons.1 hk with rfl | hk
    · exact h.1
    · exact pairs_keys g t h.2 k hk
theorem pairs_map (g h : List Nd) (f : Int → Int) : ∀ ks : List Int, (∀ k ∈ ks, (at' h (f k)).kind = (at' g k).kind) → pairs h (ks.map f) = pairs g ks
  | [], _ => rfl
  | [_], _ => rfl
  | a :: b :: t, hk => by
    show ((at' h (f a)).kind == 0 && pairs h (t.map f)) = ((at' g a).kind == 0 && pairs g t)
    rw [hk a List.mem_cons_self, pairs_map g h f t (fun k hkt => hk k (List.mem_cons_of_mem _ (List.mem_cons_of_mem _ hkt)))]
variable {g h : List Nd} {S : Nat → Prop} {f : Nat → Nat}
theorem Iso.at (i : Iso g h S f) (k : Int) (hk : S k.toNat) : at' h ((f k.toNat : Nat) : Int) = ⟨(at' g k).kind, (at' g k).tag, (at' g k).text, (at' g k).kids.map fun k => ((f k.toNat : Nat) : Int)⟩ := by
  have := i.node k.toNat hk
  rw [at_nat] at this
  exact this
theorem Iso.isNode (i : Iso g h S f) (k : Int) (hk : S k.toNat) : Ar.isNode h.length ((f k.toNat : Nat) : Int) = true := by
  have := (i.lt _ hk).2
  unfold Ar.isNode
  simp only [Bool.and_eq_true, decide_eq_true_eq]
  omega
theorem Iso.mayBe (i : Iso g h S f) (a : Nat) (ha : S a) (hm : mayBe g (at' g a) = true) : Ar.mayBe h (at' h (f a)) = true := by
  have hk := i.kids a ha
  have hn := i.node a ha
  rw [hn]
  unfold Ar.mayBe at hm ⊢
  rw [Bool.and_eq_true] at hm ⊢
  refine ⟨List.all_eq_true.2 fun k hkk => ?_, ?_⟩
  · obtain ⟨q, hq, rfl⟩ := List.mem_map.1 hkk
    exact i.isNode q (hk q hq)
  · have h2 := hm.2
    unfold may1 at h2 ⊢
    simp only at h2 ⊢
    rw [pairs_map g h _ _ (fun k hkk => by rw [i.at k (hk k hkk)])]
    rw [List.isEmpty_map]
    exact h2
theorem Iso.face (i : Iso g h S f) (k : Int) (hk : S k.toNat) (h0 : (at' g k).kind = 0) : Ar.face h ((f k.toNat : Nat) : Int) = Ar.face g k := by
  unfold Ar.face
  rw [i.at k hk]
  simp only
  rw [if_pos h0, if_pos h0]
theorem Iso.twiceGo (i : Iso g h S f) : ∀ (ks : List Int) (seen : List Face), (∀ k ∈ ks, Ar.isNode g.length k = true ∧ S k.toNat ∧ (at' g k).kind = 0) → Ar.twiceGo h seen (ks.map fun k => ((f k.toNat : Nat) : Int)) = Ar.twiceGo g seen ks
  | [], _, _ => rfl
  | k :: t, seen, hk => by
    obtain ⟨h1, h2, h3⟩ := hk k List.mem_cons_self
    rw [List.map_cons]
    unfold Ar.twiceGo
    rw [i.isNode k h2, if_pos rfl, h1, if_pos rfl, i.face k h2 h3, i.twiceGo t _ (fun q hq => hk q (List.mem_cons_of_mem _ hq))]
theorem mayBe_kids {x : Nd} (hm : Ar.mayBe g x = true) : ∀ k ∈ x.kids, Ar.isNode g.length k = true := by
  unfold Ar.mayBe at hm
  rw [Bool.and_eq_true] at hm
  exact List.all_eq_true.1 hm.1
theorem mayBe_pairs {x : Nd} (hm : Ar.mayBe g x = true) (h2 : x.kind = 2) : pairs g x.kids = true := by
  unfold Ar.mayBe may1 at hm
  rw [if_neg (by omega), if_neg (by omega), if_pos h2] at hm
  simp only [Bool.and_eq_true] at hm
  exact hm.2.2.2
/-- what has only nodes of a graph that may be (and some more, that may be, and are no maps) may be -/
theorem Iso.right (i : Iso g h S f) (hr : right g = true) (hl : h.length ≠ 0 ∧ h.length ≤ 2000) (hall : ∀ b, b < h.length → (∃ a, S a ∧ b = f a) ∨ (Ar.mayBe h (at' h b) = true ∧ (at' h b).kind ≠ 2)) : Ar.right h = true := by
  obtain ⟨hm, ht⟩ := right_parts hr
  have hmg : ∀ a, S a → Ar.mayBe g (at' g a) = true := fun a ha => by
    have := (i.lt a ha).1
    rw [at_mem g a this]
    exact hm _ (List.getElem_mem this)
  unfold Ar.right
  rw [if_neg (by omega)]
  have h1 : h.all (Ar.mayBe h) = true := by
    rw [List.all_eq_true]
    intro x hx
    obtain ⟨b, hb, rfl⟩ := List.getElem_of_mem hx
    rw [← at_mem h b hb]
    rcases hall b hb with ⟨a, ha, rfl⟩ | h2
    · exact i.mayBe a ha (hmg a ha)
    · exact h2.1
  rw [if_pos h1]
  have h2 : twice h = false := by
    unfold twice
    rw [List.any_eq_false]
    intro x hx
    obtain ⟨b, hb, rfl⟩ := List.getElem_of_mem hx
    rw [← at_mem h b hb]
    rcases hall b hb with ⟨a, ha, rfl⟩ | h2
    · have hlt := (i.lt a ha).1
      rw [i.node a ha]
      simp only
      by_cases hk2 : (at' g a).kind = 2
      · have hp := mayBe_pairs (hmg a ha) hk2
        unfold keyTwice
        rw [keys_map, i.twiceGo _ _ (fun k hk => ⟨mayBe_kids (hmg a ha) k (keys_mem _ _ hk), i.kids a ha k (keys_mem _ _ hk), pairs_keys g _ hp k hk⟩)]
        unfold twice at ht
        rw [List.any_eq_false] at ht
        have := ht _ (List.getElem_mem hlt)
        rw [← at_mem g a hlt] at this
        exact this
      · rw [beq_eq_false_iff_ne.2 hk2]; simp
    · rw [beq_eq_false_iff_ne.2 h2.2]; simp
  rw [h2]; rfl
/-- a normal form may be -/
theorem normal_right (g : List Nd) (hr : Ar.right g = true) : Ar.right (normal g) = true := by
  obtain ⟨t, ht⟩ := order_zero g hr
  have hnb := order_nb g
  refine (iso_to_normal g hr).right hr ⟨by rw [normal_len, ht]; simp, by rw [normal_len]; have := hnb.len; have := (right_len hr).2; omega⟩ fun b hb => ?_
  rw [normal_len] at hb
  exact .inl ⟨(order g)[b], List.getElem_mem hb, (idxOf_get _ hnb.1 b hb).symm⟩
theorem order_has_zero (g : List Nd) (hr : Ar.right g = true) : 0 ∈ order g ∧ (order g).idxOf 0 = 0 := by
  obtain ⟨t, ht⟩ := order_zero g hr
  rw [ht]
  exact ⟨List.mem_cons_self, List.idxOf_cons_self⟩
/-- a normal form is its own one -/
theorem normal_normal (g : List Nd) (hr : Ar.right g = true) : normal (normal g) = normal g :=
  iso_normal (iso_to_normal g hr) hr (normal_right g hr) (order_has_zero g hr).1 (order_has_zero g hr).2
theorem map_idx (l : List Nat) (hd : l.Nodup) : l.map l.idxOf = List.range l.length := by
  apply List.ext_getElem
  · simp
  · intro i h1 h2
    rw [List.getElem_map, List.getElem_range]
    exact idxOf_get l hd i (by simpa using h1)
/-- nodes of a normal form are met in their order -/
theorem order_normal (g : List Nd) (hr : Ar.right g = true) : order (normal g) = List.range (normal g).length := by
  rw [(iso_order (iso_to_normal g hr) hr (normal_right g hr) (order_has_zero g hr).1 (order_has_zero g hr).2).1, normal_len, map_idx _ (order_nb g).1]
end Ar
end Go.Proofs.YtbimjdlkffbncaaDoor
