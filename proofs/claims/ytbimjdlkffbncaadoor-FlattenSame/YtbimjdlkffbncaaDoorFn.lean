/-
  Mathematics: how often each node is met while a graph is told; anchors: who has one, and that they differ.
-/
import Derived.Test.YtbimjdlkffbncaaDoorFm
import Derived.Test.YtbimjdlkffbncaaDoorBa
namespace Go.Proofs.YtbimjdlkffbncaaDoor
namespace Fl
/-- the nodes in the order in which they are told -/
def trace : Nat → List Ar.Nd → Nat → Nat × List Nat → Nat × List Nat
  | 0, _, _, s => s
  | f + 1, g, a, s => if a < s.1 then (s.1, s.2 ++ [a]) else (Ar.at' g a).kids.foldl (fun s k => trace f g k.toNat s) (s.1 + 1, s.2 ++ [a])
/-- how often a node is a kid of nodes below a number -/
def asKid (g : List Ar.Nd) (x : Nat) : Nat → Nat
  | 0 => 0
  | m + 1 => asKid g x m + ((Ar.at' g (m : Nat)).kids.map Int.toNat).count x
def Traced (g : List Ar.Nd) (c : Nat → Nat) (m m' : Nat) (tr : List Nat) : Prop :=
  (∀ x, tr.count x + asKid g x m = c x + asKid g x m') ∧ ∀ i, m ≤ i → i < m' → i ∈ tr
def one (a x : Nat) : Nat := if a = x then 1 else 0
theorem count_one (a x : Nat) : [a].count x = one a x := by
  unfold one
  rw [List.count_singleton]
  by_cases h : a = x
  · subst h; simp
  · have : (x == a) = false := beq_eq_false_iff_ne.2 (fun e => h e.symm)
    have : (a == x) = false := beq_eq_false_iff_ne.2 h
    simp [*]
theorem trace_fold (g : List Ar.Nd) (n f : Nat)
    (ih : ∀ (a m : Nat) (tr : List Nat), Ar.meet f g a (List.range m) <+: List.range n → n + 1 ≤ f + m →
      ∃ m' es, Ar.meet f g a (List.range m) = List.range m' ∧ trace f g a (m, tr) = (m', tr ++ es) ∧ m ≤ m' ∧ Traced g (one a) m m' es) :
    ∀ (ks : List Int) (m : Nat) (tr : List Nat), ks.foldl (fun s k => Ar.meet f g k.toNat s) (List.range m) <+: List.range n → n + 1 ≤ f + m →
      ∃ m' es, ks.foldl (fun s k => Ar.meet f g k.toNat s) (List.range m) = List.range m' ∧ ks.foldl (fun s k => trace f g k.toNat s) (m, tr) = (m', tr ++ es) ∧ m ≤ m' ∧ Traced g (fun x => (ks.map Int.toNat).count x) m m' es
  | [], m, tr, _, _ => ⟨m, [], rfl, by simp, Nat.le_refl _, fun x => by simp, fun i h1 h2 => absurd h1 (by omega)⟩
  | k :: t, m, tr, hp, hf => by
    rw [List.foldl_cons] at hp
    have hp1 := (foldl_pre (fun s (k : Int) => Ar.meet f g k.toNat s) (fun s k => meet_pre g f _ s) t (Ar.meet f g k.toNat (List.range m))).trans hp
    obtain ⟨m1, e1, h1, h2, hmm, h3, h4⟩ := ih k.toNat m tr hp1 hf
    rw [h1] at hp
    obtain ⟨m2, e2, g1, g2, gm, g3, g4⟩ := trace_fold g n f ih t m1 (tr ++ e1) hp (by omega)
    refine ⟨m2, e1 ++ e2, ?_, ?_, Nat.le_trans hmm gm, fun x => ?_, fun i hi1 hi2 => ?_⟩
    · rw [List.foldl_cons, h1, g1]
    · rw [List.foldl_cons, h2, g2, List.append_assoc]
    · have a1 := h3 x
      have a2 := g3 x
      show (e1 ++ e2).count x + asKid g x m = (k.toNat :: t.map Int.toNat).count x + asKid g x m2
      rw [List.count_append]
      have : (k.toNat :: t.map Int.toNat).count x = one k.toNat x + (t.map Int.toNat).count x := by
        rw [show k.toNat :: t.map Int.toNat = [k.toNat] ++ t.map Int.toNat from rfl, List.count_append, count_one]
      simp only at a2
      omega
    · by_cases hi : i < m1
      · exact List.mem_append_left _ (h4 i hi1 hi)
      · exact List.mem_append_right _ (g4 i (by omega) hi2)
theorem trace_told (g : List Ar.Nd) (n : Nat) :
    ∀ (f a m : Nat) (tr : List Nat), Ar.meet f g a (List.range m) <+: List.range n → n + 1 ≤ f + m →
      ∃ m' es, Ar.meet f g a (List.range m) = List.range m' ∧ trace f g a (m, tr) = (m', tr ++ es) ∧ m ≤ m' ∧ Traced g (one a) m m' es
  | 0, a, m, tr, hp, hf => by
    have := hp.length_le
    have h2 : Ar.meet 0 g a (List.range m) = List.range m := rfl
    rw [h2] at this
    simp at this
    omega
  | f + 1, a, m, tr, hp, hf => by
    unfold Ar.meet at hp ⊢
    unfold trace
    rw [contains_range] at hp ⊢
    by_cases ha : a < m
    · rw [if_pos (decide_eq_true ha)] at hp ⊢
      rw [if_pos ha]
      exact ⟨m, [a], rfl, rfl, Nat.le_refl _, fun x => by rw [count_one], fun i h1 h2 => absurd h1 (by omega)⟩
    · have hd : decide (a < m) = false := decide_eq_false ha
      rw [hd, if_neg (by decide)] at hp ⊢
      rw [if_neg ha]
      have hp1 := (foldl_pre (fun s (k : Int) => Ar.meet f g k.toNat s) (fun s k => meet_pre g f _ s) (Ar.at' g (a : Nat)).kids (List.range m ++ [a])).trans hp
      have hr := range_pre hp1
      have hl : (List.range m ++ [a]).length = m + 1 := by simp
      rw [hl, List.range_succ] at hr
      obtain rfl : a = m := by simpa using List.append_cancel_left hr
      rw [← List.range_succ] at hp ⊢
      obtain ⟨m', es, h1, h2, hm, h3, h4⟩ := trace_fold g n f (fun a m tr => trace_told g n f a m tr) (Ar.at' g (a : Nat)).kids (a + 1) (tr ++ [a]) hp (by omega)
      refine ⟨m', [a] ++ es, h1, by rw [h2, List.append_assoc], by omega, fun x => ?_, fun i hi1 hi2 => ?_⟩
      · have a1 := h3 x
        have hs : asKid g x (a + 1) = asKid g x a + ((Ar.at' g (a : Nat)).kids.map Int.toNat).count x := rfl
        rw [List.count_append, count_one]
        simp only at a1
        omega
      · by_cases hi : i = a
        · subst hi; exact List.mem_append_left _ (List.mem_singleton.2 rfl)
        · exact List.mem_append_right _ (h4 i (by omega) hi2)
/-- as often as each node is met, all in all -/
theorem trace_all (n : List Ar.Nd) (h : InOrder n) :
    ∃ T, trace (n.length + 1) n 0 (0, []) = (n.length, T) ∧ ∀ x, T.count x = one 0 x + asKid n x n.length := by
  have hp : Ar.meet (n.length + 1) n 0 (List.range 0) <+: List.range n.length := by
    show Ar.meet (n.length + 1) n 0 [] <+: _
    rw [h.order]
    exact List.prefix_refl _
  obtain ⟨m', es, h1, h2, _, h3, _⟩ := trace_told n n.length (n.length + 1) 0 0 [] hp (by omega)
  have h1 : Ar.meet (n.length + 1) n 0 [] = List.range m' := h1
  rw [h.order] at h1
  obtain rfl : n.length = m' := by have := congrArg List.length h1; simpa using this
  refine ⟨es, by rw [h2]; rfl, fun x => ?_⟩
  have := h3 x
  have h0 : asKid n x 0 = 0 := rfl
  omega
theorem addAt_get (cs : List Int) (k : Int) (x : Nat) (hx : x < cs.length) : (Ar.addAt cs k).getD x 0 = cs.getD x 0 + (one k.toNat x : Nat) := by
  unfold Ar.addAt one
  rw [List.getD_eq_getElem?_getD, List.getD_eq_getElem?_getD, List.getElem?_set]
  by_cases h : k.toNat = x
  · subst h
    rw [if_pos rfl, if_pos rfl, if_pos hx, List.getD_eq_getElem?_getD]
    rfl
  · rw [if_neg h, if_neg h]
    simp
theorem addAll_get (x : Nat) : ∀ (ks : List Int) (cs : List Int), x < cs.length → (Ar.addAll cs ks).getD x 0 = cs.getD x 0 + ((ks.map Int.toNat).count x : Nat)
  | [], cs, _ => by simp [Ar.addAll]
  | k :: t, cs, hx => by
    have h1 := addAll_get x t (Ar.addAt cs k) (by rw [Ar.addAt_len]; exact hx)
    have h2 := addAt_get cs k x hx
    have h3 : Ar.addAll cs (k :: t) = Ar.addAll (Ar.addAt cs k) t := rfl
    rw [h3, h1, h2, List.map_cons]
    have : (k.toNat :: t.map Int.toNat).count x = one k.toNat x + (t.map Int.toNat).count x := by
      rw [show k.toNat :: t.map Int.toNat = [k.toNat] ++ t.map Int.toNat from rfl, List.count_append, count_one]
    omega
def kidSum (x : Nat) : List Ar.Nd → Nat
  | [] => 0
  | y :: t => (y.kids.map Int.toNat).count x + kidSum x t
theorem kidSum_cons (x : Nat) (y : Ar.Nd) (t : List Ar.Nd) : kidSum x (y :: t) = (y.kids.map Int.toNat).count x + kidSum x t := rfl
theorem insGo_get (x : Nat) : ∀ (g : List Ar.Nd) (cs : List Int), x < cs.length → (Ar.insGo g cs).getD x 0 = cs.getD x 0 + (kidSum x g : Nat)
  | [], cs, _ => by simp [Ar.insGo, kidSum]
  | y :: t, cs, hx => by
    have h1 := insGo_get x t (Ar.addAll cs y.kids) (by rw [Ar.addAll_len]; exact hx)
    have h2 := addAll_get x y.kids cs hx
    have h3 : Ar.insGo (y :: t) cs = Ar.insGo t (Ar.addAll cs y.kids) := rfl
    rw [h3, h1, h2, kidSum_cons]
    omega
theorem kidSum_app (x : Nat) (a b : List Ar.Nd) : kidSum x (a ++ b) = kidSum x a + kidSum x b := by
  induction a with
  | nil => simp [kidSum]
  | cons y t ih => rw [List.cons_append, kidSum_cons, kidSum_cons, ih]; omega
theorem kidSum_take (g : List Ar.Nd) (x : Nat) : ∀ m, m ≤ g.length → kidSum x (g.take m) = asKid g x m
  | 0, _ => by simp [kidSum, asKid]
  | m + 1, h => by
    rw [List.take_succ_eq_append_getElem (by omega), kidSum_app, kidSum_take g x m (by omega), kidSum_cons]
    show _ = asKid g x m + _
    rw [Ar.at_mem g m (by omega)]
    rfl
theorem kidsTo_take (g : List Ar.Nd) : ∀ m, m ≤ g.length → Ar.total (g.take m) = kidsTo g m
  | 0, _ => by simp [Ar.total, kidsTo]
  | m + 1, h => by
    have ih := kidsTo_take g m (by omega)
    rw [List.take_succ_eq_append_getElem (by omega)]
    unfold kidsTo
    rw [Ar.at_mem g m (by omega), ← ih]
    unfold Ar.total
    rw [List.map_append, List.sum_append]
    simp
theorem kidsTo_all (g : List Ar.Nd) : kidsTo g g.length = Ar.total g := by rw [← kidsTo_take g g.length (Nat.le_refl _), List.take_of_length_le (Nat.le_refl _)]
theorem ins_asKid (n : List Ar.Nd) (hr : Ar.right n = true) (x : Nat) (hx : x < n.length) : (Ar.ins n).getD x 0 = (asKid n x n.length : Nat) := by
  unfold Ar.ins
  rw [if_pos hr, insGo_get x n _ (by simpa using hx), ← kidSum_take n x n.length (Nat.le_refl _), List.take_of_length_le (Nat.le_refl _)]
  rw [List.getD_eq_getElem?_getD, List.getElem?_replicate]
  split <;> simp
theorem addRoot_get (cs : List Int) (x : Nat) (hx : x < cs.length) : (addRoot cs).getD x 0 = cs.getD x 0 + (one 0 x : Nat) := by
  cases cs with
  | nil => simp at hx
  | cons c t =>
    cases x with
    | zero => simp [addRoot, one]
    | succ x => simp [addRoot, one]
/-- who is met more than once has an anchor -/
theorem names_get : ∀ (cs : List Int) (r x : Nat), x < cs.length → ((namesGo r cs).getD x [] ≠ [] ↔ 1 < cs.getD x 0)
  | [], _, x, h => absurd h (by simp)
  | c :: t, r, 0, _ => by
    unfold namesGo
    by_cases hc : 1 < c
    · rw [if_pos hc]; simp [hc]
    · rw [if_neg hc]; simp [hc]
  | c :: t, r, x + 1, h => by
    unfold namesGo
    have ih := fun r => names_get t r x (by simpa using h)
    split
    · simpa using ih (r + 1)
    · simpa using ih r
/-- each anchor is "a" and a number above those that were given; none is given twice -/
theorem names_num : ∀ (cs : List Int) (r x : Nat), (namesGo r cs).getD x [] ≠ [] → ∃ j : Nat, r < j ∧ (namesGo r cs).getD x [] = 97 :: Lib.itoa (j : Int)
  | [], r, x, h => absurd (by simp [namesGo]) h
  | c :: t, r, 0, h => by
    unfold namesGo at h ⊢
    by_cases hc : 1 < c
    · rw [if_pos hc] at h ⊢; exact ⟨r + 1, Nat.lt_succ_self _, rfl⟩
    · rw [if_neg hc] at h; exact absurd rfl h
  | c :: t, r, x + 1, h => by
    unfold namesGo at h ⊢
    by_cases hc : 1 < c
    · rw [if_pos hc] at h ⊢
      obtain ⟨j, h1, h2⟩ := names_num t (r + 1) x h
      exact ⟨j, by omega, h2⟩
    · rw [if_neg hc] at h ⊢
      exact names_num t r x h
def val (l : List UInt8) : Nat := l.foldl (fun a b => a * 10 + (b.toNat - 48)) 0
theorem dec_digits : ∀ (n u : Nat), u ≤ n → (∀ b ∈ Lib.decDigits u, 48 ≤ b.toNat ∧ b.toNat ≤ 57) ∧ val (Lib.decDigits u) = u
  | n, u, h => by
    rw [Lib.decDigits]
    split
    · rename_i h10
      have e : (UInt8.ofNat (48 + u)).toNat = 48 + u := by rw [UInt8.toNat_ofNat']; omega
      refine ⟨fun b hb => ?_, ?_⟩
      · rw [List.mem_singleton.1 hb, e]; omega
      · show 0 * 10 + ((UInt8.ofNat (48 + u)).toNat - 48) = u
        rw [e]; omega
    · rename_i h10
      have e : (UInt8.ofNat (48 + u % 10)).toNat = 48 + u % 10 := by rw [UInt8.toNat_ofNat']; omega
      match n, h with
      | 0, h => omega
      | n + 1, h =>
        obtain ⟨i1, i2⟩ := dec_digits n (u / 10) (by omega)
        refine ⟨fun b hb => ?_, ?_⟩
        · rcases List.mem_append.1 hb with hb | hb
          · exact i1 b hb
          · rw [List.mem_singleton.1 hb, e]; omega
        · unfold val at i2 ⊢
          rw [List.foldl_append, i2, List.foldl_cons, List.foldl_nil, e]
          omega
theorem itoa_inj (k m : Int) (h : 0 ≤ k) (h' : 0 ≤ m) (e : Lib.itoa k = Lib.itoa m) : k = m := by
  unfold Lib.itoa at e
  rw [if_neg (by omega), if_neg (by omega)] at e
  have h1 := (dec_digits k.toNat k.toNat (Nat.le_refl _)).2
  have h2 := (dec_digits m.toNat m.toNat (Nat.le_refl _)).2
  rw [e, h2] at h1
  omega
theorem digit_inj (k m : Nat) (h : Lib.itoa (k : Int) = Lib.itoa (m : Int)) : k = m := by
  have := itoa_inj (k : Int) (m : Int) (by omega) (by omega) h
  omega
theorem names_inj : ∀ (cs : List Int) (r x y : Nat), (namesGo r cs).getD x [] ≠ [] → (namesGo r cs).getD x [] = (namesGo r cs).getD y [] → x = y
  | [], r, x, _, h, _ => absurd (by simp [namesGo]) h
  | c :: t, r, 0, 0, _, _ => rfl
  | c :: t, r, 0, y + 1, h, e => by
    unfold namesGo at h e
    by_cases hc : 1 < c
    · rw [if_pos hc] at h e
      have e : 97 :: Lib.itoa ((r + 1 : Nat) : Int) = (namesGo (r + 1) t).getD y [] := e
      obtain ⟨j, h1, h2⟩ := names_num t (r + 1) y (by rw [← e]; simp)
      rw [h2] at e
      have := digit_inj _ _ (List.cons.inj e).2
      omega
    · rw [if_neg hc] at h; exact absurd rfl h
  | c :: t, r, x + 1, 0, h, e => by
    unfold namesGo at h e
    by_cases hc : 1 < c
    · rw [if_pos hc] at h e
      have e : (namesGo (r + 1) t).getD x [] = 97 :: Lib.itoa ((r + 1 : Nat) : Int) := e
      obtain ⟨j, h1, h2⟩ := names_num t (r + 1) x h
      rw [h2] at e
      have := digit_inj _ _ (List.cons.inj e).2
      omega
    · rw [if_neg hc] at h e
      have e : (namesGo r t).getD x [] = [] := e
      exact absurd e h
  | c :: t, r, x + 1, y + 1, h, e => by
    unfold namesGo at h e
    by_cases hc : 1 < c
    · rw [if_pos hc] at h e
      have := names_inj t (r + 1) x y h e
      omega
    · rw [if_neg hc] at h e
      have := names_inj t r x y h e
      omega
end Fl
end Go.Proofs.YtbimjdlkffbncaaDoor
