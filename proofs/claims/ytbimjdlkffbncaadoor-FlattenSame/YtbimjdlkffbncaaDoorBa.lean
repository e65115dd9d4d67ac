/-
  How often each node is met, and how many kids there are (ArenaSum's mathematics).
-/
import Derived.Test.YtbimjdlkffbncaaDoorAm
namespace Go.Proofs.YtbimjdlkffbncaaDoor
namespace Ar
theorem sum_set : ∀ (l : List Int) (i : Nat) (v : Int), i < l.length → (l.set i v).sum = l.sum - l.getD i 0 + v
  | [], i, _, h => absurd h (by simp)
  | a :: t, 0, v, _ => by simp only [List.set_cons_zero, List.sum_cons, List.getD_cons_zero]; omega
  | a :: t, i + 1, v, h => by
    have := sum_set t i v (by simpa using h)
    simp only [List.set_cons_succ, List.sum_cons, List.getD_cons_succ]; omega
theorem addAll_len (cs : List Int) (ks : List Int) : (addAll cs ks).length = cs.length := by
  unfold addAll
  induction ks generalizing cs with
  | nil => rfl
  | cons k t ih => rw [List.foldl_cons, ih, addAt_len]
theorem insGo_len (g : List Nd) (cs : List Int) : (insGo g cs).length = cs.length := by
  unfold insGo
  induction g generalizing cs with
  | nil => rfl
  | cons k t ih => rw [List.foldl_cons, ih, addAll_len]
theorem addAll_sum : ∀ (ks : List Int) (cs : List Int), (∀ k ∈ ks, k.toNat < cs.length) → (addAll cs ks).sum = cs.sum + (ks.length : Int)
  | [], cs, _ => by simp [addAll]
  | k :: t, cs, h => by
    have h1 := addAll_sum t (addAt cs k) (fun k hk => by rw [addAt_len]; exact h k (List.mem_cons_of_mem _ hk))
    show (addAll (addAt cs k) t).sum = _
    rw [h1]
    unfold addAt
    rw [sum_set _ _ _ (h k List.mem_cons_self), List.length_cons]
    omega
/-- how many kids there are -/
def total (g : List Nd) : Nat := (g.map (·.kids.length)).sum
theorem total_cons (x : Nd) (t : List Nd) : total (x :: t) = x.kids.length + total t := by unfold total; rw [List.map_cons, List.sum_cons]
theorem insGo_sum : ∀ (g : List Nd) (cs : List Int), (∀ x ∈ g, ∀ k ∈ x.kids, k.toNat < cs.length) → (insGo g cs).sum = cs.sum + (total g : Int)
  | [], cs, _ => by simp [insGo, total]
  | x :: t, cs, h => by
    have h1 := insGo_sum t (addAll cs x.kids) (fun y hy k hk => by rw [addAll_len]; exact h y (List.mem_cons_of_mem _ hy) k hk)
    show (insGo t (addAll cs x.kids)).sum = _
    rw [h1, addAll_sum _ _ (h x List.mem_cons_self), total_cons]
    omega
theorem addAt_ge (cs : List Int) (k : Int) (i : Nat) : cs.getD i 0 ≤ (addAt cs k).getD i 0 := by
  unfold addAt
  rw [List.getD_eq_getElem?_getD, List.getD_eq_getElem?_getD, List.getElem?_set]
  by_cases h : k.toNat = i
  · subst h
    rw [if_pos rfl]
    by_cases hl : k.toNat < cs.length
    · rw [if_pos hl, List.getD_eq_getElem?_getD, Option.getD_some]; omega
    · rw [if_neg hl, List.getElem?_eq_none (by omega)]; omega
  · rw [if_neg h]; exact Int.le_refl _
theorem addAt_hit (cs : List Int) (k : Int) (h : k.toNat < cs.length) : (addAt cs k).getD k.toNat 0 = cs.getD k.toNat 0 + 1 := by
  unfold addAt
  rw [List.getD_eq_getElem?_getD, List.getElem?_set, if_pos rfl, if_pos h, Option.getD_some]
theorem addAll_ge : ∀ (ks : List Int) (cs : List Int) (i : Nat), cs.getD i 0 ≤ (addAll cs ks).getD i 0
  | [], _, _ => Int.le_refl _
  | k :: t, cs, i => Int.le_trans (addAt_ge cs k i) (addAll_ge t (addAt cs k) i)
theorem insGo_ge : ∀ (g : List Nd) (cs : List Int) (i : Nat), cs.getD i 0 ≤ (insGo g cs).getD i 0
  | [], _, _ => Int.le_refl _
  | x :: t, cs, i => Int.le_trans (addAll_ge x.kids cs i) (insGo_ge t _ i)
theorem addAll_hit : ∀ (ks : List Int) (cs : List Int) (i : Nat), i < cs.length → (∃ k ∈ ks, k.toNat = i) → cs.getD i 0 + 1 ≤ (addAll cs ks).getD i 0
  | [], _, _, _, h => by obtain ⟨k, hk, _⟩ := h; cases hk
  | k :: t, cs, i, hi, h => by
    by_cases hk : k.toNat = i
    · subst hk
      have h1 := addAll_ge t (addAt cs k) k.toNat
      rw [addAt_hit cs k hi] at h1
      exact h1
    · obtain ⟨q, hq, hqi⟩ := h
      rcases List.mem_cons.1 hq with rfl | hq
      · exact absurd hqi hk
      · have h1 := addAll_hit t (addAt cs k) i (by rw [addAt_len]; exact hi) ⟨q, hq, hqi⟩
        have h2 := addAt_ge cs k i
        show _ ≤ (addAll (addAt cs k) t).getD i 0
        omega
theorem insGo_hit : ∀ (g : List Nd) (cs : List Int) (i : Nat), i < cs.length → (∃ x ∈ g, ∃ k ∈ x.kids, k.toNat = i) → cs.getD i 0 + 1 ≤ (insGo g cs).getD i 0
  | [], _, _, _, h => by obtain ⟨k, hk, _⟩ := h; cases hk
  | x :: t, cs, i, hi, h => by
    by_cases hx : ∃ k ∈ x.kids, k.toNat = i
    · exact Int.le_trans (addAll_hit _ _ _ hi hx) (insGo_ge t _ i)
    · obtain ⟨q, hq, hqi⟩ := h
      rcases List.mem_cons.1 hq with rfl | hq
      · exact absurd hqi hx
      · have h1 := insGo_hit t (addAll cs x.kids) i (by rw [addAll_len]; exact hi) ⟨q, hq, hqi⟩
        have h2 := addAll_ge x.kids cs i
        show _ ≤ (insGo t (addAll cs x.kids)).getD i 0
        omega
theorem Bd.all : ∀ (ks : List Int) (cs : List Int) (t : Nat), Bd cs t → Bd (addAll cs ks) (t + ks.length)
  | [], _, _, h => h
  | k :: l, cs, t, h => by
    have := Bd.all l (addAt cs k) (t + 1) (h.add k)
    rw [List.length_cons, show t + (l.length + 1) = t + 1 + l.length by omega]
    exact this
theorem Bd.go : ∀ (g : List Nd) (cs : List Int) (t : Nat), Bd cs t → Bd (insGo g cs) (t + total g)
  | [], _, _, h => h
  | x :: l, cs, t, h => by
    have := Bd.go l (addAll cs x.kids) (t + x.kids.length) (Bd.all _ _ _ h)
    rw [total_cons, ← Nat.add_assoc]
    exact this
/-- what is met is the first one, or was met, or is a kid of some node -/
theorem meet_kid (g : List Nd) : ∀ (f a : Nat) (met : List Nat), ∀ y ∈ meet f g a met, y ∈ met ∨ y = a ∨ ∃ x ∈ g, ∃ k ∈ x.kids, k.toNat = y
  | 0, _, _, _, h => .inl h
  | f + 1, a, met, y, h => by
    unfold meet at h
    split at h
    · exact .inl h
    · have key : ∀ (ks : List Int) (m : List Nat), (∀ k ∈ ks, ∃ x ∈ g, k ∈ x.kids) → y ∈ ks.foldl (fun m k => meet f g k.toNat m) m → y ∈ m ∨ ∃ x ∈ g, ∃ k ∈ x.kids, k.toNat = y := by
        intro ks
        induction ks with
        | nil => intro m _ hm; exact .inl hm
        | cons k t ih =>
          intro m hks hm
          rcases ih _ (fun k hk => hks k (List.mem_cons_of_mem _ hk)) hm with h1 | h1
          · rcases meet_kid g f k.toNat m y h1 with h2 | h2 | h2
            · exact .inl h2
            · obtain ⟨x, hx, hk⟩ := hks k List.mem_cons_self
              exact .inr ⟨x, hx, k, hk, h2.symm⟩
            · exact .inr h2
          · exact .inr h1
      have hks : ∀ k ∈ (at' g a).kids, ∃ x ∈ g, k ∈ x.kids := by
        intro k hk
        unfold at' at hk
        rw [List.getD_eq_getElem?_getD] at hk
        cases hx : g[(a : Int).toNat]? with
        | none => rw [hx] at hk; cases hk
        | some x => rw [hx] at hk; exact ⟨x, List.mem_of_getElem? hx, hk⟩
      rcases key _ _ hks h with h1 | h1
      · rcases List.mem_append.1 h1 with h2 | h2
        · exact .inl h2
        · exact .inr (.inl (List.mem_singleton.1 h2))
      · exact .inr (.inr h1)
theorem order_ins (g : List Nd) (hr : right g = true) : ∀ y ∈ order g, 0 < y → (ins g).getD y 0 ≠ 0 := by
  intro y hy h0
  have hlt := (order_nb g).2 y hy
  unfold order at hy
  rw [if_pos hr] at hy
  unfold ins
  rw [if_pos hr]
  have h1 : ∃ x ∈ g, ∃ k ∈ x.kids, k.toNat = y := by
    rcases meet_kid g _ _ _ y hy with h | h | h
    · cases h
    · omega
    · exact h
  have h2 := insGo_hit g (List.replicate g.length 0) y (by rw [List.length_replicate]; exact hlt) h1
  rw [List.getD_eq_getElem?_getD (l := List.replicate _ _), List.getElem?_replicate, if_pos hlt, Option.getD_some] at h2
  omega
theorem ins_len (g : List Nd) (hr : right g = true) : (ins g).length = g.length := by
  unfold ins; rw [if_pos hr, insGo_len, List.length_replicate]
theorem sum_repl (n : Nat) : (List.replicate n (0 : Int)).sum = 0 := by
  induction n with
  | zero => rfl
  | succ n ih => rw [List.replicate_succ, List.sum_cons, ih]; rfl
theorem ins_sum (g : List Nd) (hr : right g = true) : (ins g).sum = (total g : Int) := by
  unfold ins
  rw [if_pos hr, insGo_sum _ _ (fun x hx k hk => by
    rw [List.length_replicate]
    have := right_kids hr x hx k hk
    unfold isNode at this
    simp only [Bool.and_eq_true, decide_eq_true_eq] at this
    omega), sum_repl]
  omega
theorem ins_bd (g : List Nd) (hr : right g = true) : Bd (ins g) (total g) := by
  unfold ins
  rw [if_pos hr]
  have := Bd.go g (List.replicate g.length 0) 0 (fun c hc => by rw [List.eq_of_mem_replicate hc]; omega)
  rw [Nat.zero_add] at this
  exact this
theorem total_le : ∀ (g : List Nd) (m : Nat), (∀ x ∈ g, x.kids.length ≤ m) → total g ≤ g.length * m
  | [], _, _ => Nat.zero_le _
  | x :: t, m, h => by
    have h1 := total_le t m (fun y hy => h y (List.mem_cons_of_mem _ hy))
    have h2 := h x List.mem_cons_self
    rw [total_cons, List.length_cons, Nat.add_mul]
    omega
end Ar
end Go.Proofs.YtbimjdlkffbncaaDoor
