/-
  A node more, two nodes turned, one node made another (ArenaNumbers', ArenaTurned's mathematics).
  The document's order (a stack) and its Twice (two keys alike) are the program's.
-/
import Derived.Test.YtnlbnnnhmdjciaaDoorBc
namespace Go.Proofs.YtnlbnnnhmdjciaaDoor
namespace Ar
/-! ### a graph with a node more, and with two nodes turned -/
def nobody : Nd := ⟨0, [115, 116, 114], [110, 111, 98, 111, 100, 121, 39, 115], []⟩
theorem at_app (g : List Nd) (x : Nd) (a : Nat) (h : a < g.length) : at' (g ++ [x]) a = at' g a := by
  unfold at'
  rw [Int.toNat_natCast, List.getD_eq_getElem?_getD, List.getD_eq_getElem?_getD, List.getElem?_append_left h]
theorem at_last (g : List Nd) (x : Nd) : at' (g ++ [x]) g.length = x := by
  unfold at'
  rw [Int.toNat_natCast, List.getD_eq_getElem?_getD, List.getElem?_append_right (Nat.le_refl _), Nat.sub_self]; rfl
theorem kids_lt (g : List Nd) (hr : right g = true) (a : Nat) (ha : a < g.length) : ∀ k ∈ (at' g a).kids, 0 ≤ k ∧ k.toNat < g.length := Kids.at' (right_kids hr) ha
theorem iso_more (g : List Nd) (x : Nd) (hr : right g = true) : Iso g (g ++ [x]) (fun a => a < g.length) (fun a => a) where
  lt := fun a ha => ⟨ha, by rw [List.length_append]; exact Nat.lt_of_lt_of_le ha (Nat.le_add_right _ _)⟩
  kids := fun a ha k hk => (kids_lt g hr a ha k hk).2
  inj := fun _ _ _ _ e => e
  node := fun a ha => by
    rw [at_app g x a ha]
    have h : (at' g a).kids.map (fun k => ((k.toNat : Nat) : Int)) = (at' g a).kids := by
      conv => rhs; rw [← List.map_id (at' g a).kids]
      exact List.map_congr_left fun k hk => by have := (kids_lt g hr a ha k hk).1; show ((k.toNat : Nat) : Int) = k; omega
    rw [h]
theorem more_right (g : List Nd) (x : Nd) (hr : right g = true) (hl : g.length < 2000) (hx : mayBe (g ++ [x]) x = true) (hk : x.kind ≠ 2) : right (g ++ [x]) = true := by
  refine (iso_more g x hr).right hr ⟨by simp, by simp; omega⟩ fun b hb => ?_
  rw [List.length_append, List.length_singleton] at hb
  by_cases h : b < g.length
  · exact .inl ⟨b, h, rfl⟩
  · have hb : b = g.length := by omega
    subst hb
    rw [at_last]
    exact .inr ⟨hx, hk⟩
theorem more_normal (g : List Nd) (x : Nd) (hr : right g = true) (hl : g.length < 2000) (hx : mayBe (g ++ [x]) x = true) (hk : x.kind ≠ 2) : normal (g ++ [x]) = normal g :=
  iso_normal (iso_more g x hr) hr (more_right g x hr hl hx hk) (right_len hr).1 rfl
/-- two numbers turned -/
def swp (x y a : Nat) : Nat := if a = x then y else if a = y then x else a
def swpI (x y : Nat) (k : Int) : Int := if k = (x : Int) then (y : Int) else if k = (y : Int) then (x : Int) else k
theorem swpI_nat (x y : Nat) (k : Int) (h : 0 ≤ k) : swpI x y k = ((swp x y k.toNat : Nat) : Int) := by
  obtain ⟨n, rfl⟩ : ∃ n : Nat, k = (n : Int) := ⟨k.toNat, by omega⟩
  unfold swpI swp
  simp only [Int.toNat_natCast, Int.natCast_inj]
  split
  · rfl
  · split <;> rfl
theorem swp_swp (x y a : Nat) : swp x y (swp x y a) = a := by unfold swp; split <;> split <;> (try split) <;> omega
theorem swp_lt {x y a n : Nat} (hx : x < n) (hy : y < n) (ha : a < n) : swp x y a < n := by unfold swp; split <;> (try split) <;> omega
/-- a graph with two nodes turned (kids still as they were) -/
def turn0 (g : List Nd) (x y : Nat) : List Nd := (g.set x (at' g y)).set y (at' g x)
def turned (g : List Nd) (x y : Nat) : List Nd := (turn0 g x y).map fun n => ⟨n.kind, n.tag, n.text, n.kids.map (swpI x y)⟩
theorem turn0_len (g : List Nd) (x y : Nat) : (turn0 g x y).length = g.length := by unfold turn0; rw [List.length_set, List.length_set]
theorem turned_len (g : List Nd) (x y : Nat) : (turned g x y).length = g.length := by unfold turned; rw [List.length_map, turn0_len]
theorem turn0_at (g : List Nd) (x y a : Nat) (hx : x < g.length) (hy : y < g.length) (ha : a < g.length) : (turn0 g x y)[a]? = some (at' g (swp x y a)) := by
  unfold turn0
  rw [List.getElem?_set, List.length_set]
  unfold swp
  by_cases h1 : a = x
  · by_cases h2 : y = a
    · rw [if_pos h2, if_pos hy, if_pos h1]
      subst h2; subst h1; rfl
    · rw [if_neg h2, List.getElem?_set, if_pos h1.symm, if_pos hx, if_pos h1]
  · rw [if_neg h1]
    by_cases h2 : y = a
    · rw [if_pos h2, if_pos hy, if_pos h2.symm]
    · rw [if_neg h2, List.getElem?_set, if_neg (fun e => h1 e.symm), if_neg (fun e => h2 e.symm), at_mem g a ha, List.getElem?_eq_getElem ha]
theorem turned_at (g : List Nd) (x y a : Nat) (hx : x < g.length) (hy : y < g.length) (ha : a < g.length) : at' (turned g x y) (swp x y a) = ⟨(at' g a).kind, (at' g a).tag, (at' g a).text, (at' g a).kids.map (swpI x y)⟩ := by
  unfold turned
  show List.getD _ _ _ = _
  rw [Int.toNat_natCast, List.getD_eq_getElem?_getD, List.getElem?_map, turn0_at g x y _ hx hy (swp_lt hx hy ha), swp_swp]
  rfl
theorem iso_turned (g : List Nd) (x y : Nat) (hr : right g = true) (hx : x < g.length) (hy : y < g.length) : Iso g (turned g x y) (fun a => a < g.length) (swp x y) where
  lt := fun a ha => ⟨ha, by rw [turned_len]; exact swp_lt hx hy ha⟩
  kids := fun a ha k hk => (kids_lt g hr a ha k hk).2
  inj := fun a b _ _ e => by rw [← swp_swp x y a, e, swp_swp]
  node := fun a ha => by
    rw [turned_at g x y a hx hy ha]
    congr 1
    exact List.map_congr_left fun k hk => swpI_nat x y k (kids_lt g hr a ha k hk).1
theorem turned_right (g : List Nd) (x y : Nat) (hr : right g = true) (hx : x < g.length) (hy : y < g.length) : right (turned g x y) = true := by
  have hl := right_len hr
  refine (iso_turned g x y hr hx hy).right hr ⟨by rw [turned_len]; omega, by rw [turned_len]; omega⟩ fun b hb => ?_
  rw [turned_len] at hb
  exact .inl ⟨swp x y b, swp_lt hx hy hb, (swp_swp x y b).symm⟩
theorem turned_normal (g : List Nd) (x y : Nat) (hr : right g = true) (hx : x < g.length) (hy : y < g.length) (h1 : x ≠ 0) (h2 : y ≠ 0) : normal (turned g x y) = normal g :=
  iso_normal (iso_turned g x y hr hx hy) hr (turned_right g x y hr hx hy) (right_len hr).1 (by unfold swp; rw [if_neg (fun e => h1 e.symm), if_neg (fun e => h2 e.symm)])
/-! ### one node of a normal form made another one, with its kids -/
theorem meet_same (g h : List Nd) (hk : ∀ a : Nat, (at' h a).kids = (at' g a).kids) : ∀ (n a : Nat) (met : List Nat), meet n h a met = meet n g a met
  | 0, _, _ => rfl
  | n + 1, a, met => by
    unfold meet
    rw [hk a]
    split
    · rfl
    · congr 1
      funext m k
      exact meet_same g h hk n k.toNat m
theorem at_set (g : List Nd) (i : Nat) (x : Nd) (a : Nat) (hi : i < g.length) : at' (g.set i x) a = if a = i then x else at' g a := by
  unfold at'
  rw [Int.toNat_natCast, List.getD_eq_getElem?_getD, List.getElem?_set, List.getD_eq_getElem?_getD]
  by_cases h : i = a
  · rw [if_pos h, if_pos hi, if_pos h.symm]; rfl
  · rw [if_neg h, if_neg (fun e => h e.symm)]
/-- a node of a normal form with other contents, but its kids: no graph, or another one -/
theorem other_normal (g : List Nd) (i : Nat) (x : Nd) (hr : right g = true) (hn : order g = List.range g.length) (hi : i < g.length) (hk : x.kids = (at' g i).kids) (hx : x.tag ≠ (at' g i).tag ∨ x.text ≠ (at' g i).text) : normal (g.set i x) ≠ normal g := by
  have hne : normal g ≠ [] := by
    intro e
    have := congrArg List.length e
    rw [normal_len, hn, List.length_range] at this
    simp at this
    have := (right_len hr).1
    simp_all
  cases hr' : right (g.set i x)
  · intro e
    refine hne (e ▸ ?_)
    unfold normal order
    rw [hr', if_neg (by decide)]; rfl
  · have ho : order (g.set i x) = order g := by
      unfold order
      rw [if_pos hr, if_pos hr', List.length_set, meet_same g (g.set i x) (fun a => by
        rw [at_set g i x a hi]
        split
        · rename_i e; rw [hk, e]
        · rfl)]
    intro e
    have hil : i < (order g).length := by rw [hn, List.length_range]; exact hi
    have h1 := normal_at g i hil
    have h2 := normal_at (g.set i x) i (by rw [ho]; exact hil)
    rw [e, h1] at h2
    simp only [ho] at h2
    simp only [hn, List.getElem_range] at h2
    unfold renum at h2
    rw [at_set g i x i hi, if_pos rfl] at h2
    simp only [Nd.mk.injEq] at h2
    rcases hx with hx | hx
    · exact hx h2.2.1.symm
    · exact hx h2.2.2.1.symm
end Ar
end Go.Proofs.YtnlbnnnhmdjciaaDoor
namespace Go.Proofs.YtnlbnnnhmdjciaaDoor
namespace Ar
/-! ### the document's order: a stack of what is still to be met -/
def todoGo (g : List Nd) (todo met : List Nat) : List Nat := todo.foldl (fun m a => meet (g.length + 1) g a m) met
theorem todo_met (g : List Nd) (a : Nat) (t met : List Nat) (h : met.contains a = true) : todoGo g (a :: t) met = todoGo g t met := by
  unfold todoGo
  rw [List.foldl_cons]
  congr 1
  unfold meet
  rw [if_pos h]
theorem fold_more (g : List Nd) (hg : Kids g) (f f' : Nat) : ∀ (ks : List Int) (m : List Nat), (∀ k ∈ ks, k.toNat < g.length) → NB g.length m → g.length + 1 ≤ f + m.length → g.length + 1 ≤ f' + m.length → ks.foldl (fun m k => meet f g k.toNat m) m = ks.foldl (fun m k => meet f' g k.toNat m) m
  | [], _, _, _, _, _ => rfl
  | k :: t, m, hks, hm, h1, h2 => by
    obtain ⟨h3, h4⟩ := meet_nb g hg f k.toNat m (hks k List.mem_cons_self) hm
    rw [List.foldl_cons, List.foldl_cons, ← meet_more g hg f f' k.toNat m (hks k List.mem_cons_self) hm h1 h2]
    exact fold_more g hg f f' t _ (fun k hk => hks k (List.mem_cons_of_mem _ hk)) h3 (by omega) (by omega)
theorem todo_new (g : List Nd) (hg : Kids g) (a : Nat) (t met : List Nat) (ha : a < g.length) (hm : NB g.length met) (h : met.contains a = false) : todoGo g (a :: t) met = todoGo g ((at' g a).kids.map Int.toNat ++ t) (met ++ [a]) := by
  unfold todoGo
  rw [List.foldl_cons, List.foldl_append]
  congr 1
  show meet (g.length + 1) g a met = _
  conv => lhs; unfold meet
  rw [h, if_neg (by decide), List.foldl_map]
  exact fold_more g hg _ _ _ _ (fun k hk => (hg.at' ha k hk).2) (hm.snoc ha h) (by rw [List.length_append, List.length_singleton]; omega) (by rw [List.length_append, List.length_singleton]; omega)
theorem todo_order (g : List Nd) (hr : right g = true) : order g = todoGo g [0] [] := by unfold order todoGo; rw [if_pos hr]; rfl
/-! ### the document's Twice: two keys alike -/
def alikeK (g : List Nd) (a b : Int) : Bool := isNode g.length a && (isNode g.length b && (a == b || ((at' g a).kind == 0 && ((at' g b).kind == 0 && ((at' g a).tag == (at' g b).tag && (at' g a).text == (at' g b).text)))))
theorem alike_face (g : List Nd) (a b : Int) (ha : isNode g.length a = true) (hb : isNode g.length b = true) : alikeK g a b = (face g a == face g b) := by
  unfold alikeK face
  rw [ha, hb, Bool.true_and, Bool.true_and]
  by_cases hab : a = b
  · subst hab; simp
  · rw [beq_eq_false_iff_ne.2 hab, Bool.false_or]
    by_cases h1 : (at' g a).kind = 0
    · by_cases h2 : (at' g b).kind = 0
      · rw [if_pos h1, if_pos h2, h1, h2]
        rw [Bool.eq_iff_iff]
        simp
      · rw [if_pos h1, if_neg h2, beq_eq_false_iff_ne.2 h2]
        rw [Bool.eq_iff_iff]
        simp
    · rw [if_neg h1, beq_eq_false_iff_ne.2 h1]
      split
      · rw [Bool.eq_iff_iff]; simp
      · rw [Bool.eq_iff_iff]; simp [hab]
/-- is one of these like one ahead of it? -/
def pairGo (g : List Nd) (seen : List Int) : List Int → Bool
  | [] => false
  | k :: t => (seen.any fun s => alikeK g k s) || pairGo g (seen ++ [k]) t
theorem any_contains (g : List Nd) (k : Int) (hk : isNode g.length k = true) (seen : List Int) (fs : List Face) (h : ∀ f, f ∈ fs ↔ ∃ s ∈ seen, isNode g.length s = true ∧ face g s = f) : (seen.any fun s => alikeK g k s) = fs.contains (face g k) := by
  rw [Bool.eq_iff_iff, List.any_eq_true, List.contains_iff_mem, h]
  constructor
  · rintro ⟨s, hs, ha⟩
    have hn : isNode g.length s = true := by
      unfold alikeK at ha
      simp only [Bool.and_eq_true] at ha
      exact ha.2.1
    rw [alike_face g k s hk hn, beq_iff_eq] at ha
    exact ⟨s, hs, hn, ha.symm⟩
  · rintro ⟨s, hs, hn, he⟩
    exact ⟨s, hs, by rw [alike_face g k s hk hn, he]; simp⟩
theorem pair_twice (g : List Nd) : ∀ (ks seen : List Int) (fs : List Face), (∀ f, f ∈ fs ↔ ∃ s ∈ seen, isNode g.length s = true ∧ face g s = f) → pairGo g seen ks = twiceGo g fs ks
  | [], _, _, _ => rfl
  | k :: t, seen, fs, h => by
    unfold pairGo twiceGo
    cases hk : isNode g.length k
    · rw [if_neg (by decide)]
      have : (seen.any fun s => alikeK g k s) = false := by
        rw [List.any_eq_false]
        intro s _
        unfold alikeK
        rw [hk, Bool.false_and]; decide
      rw [this, Bool.false_or]
      refine pair_twice g t _ fs fun f => ?_
      rw [h f]
      constructor
      · rintro ⟨s, hs, h1⟩; exact ⟨s, List.mem_append_left _ hs, h1⟩
      · rintro ⟨s, hs, h1, h2⟩
        rcases List.mem_append.1 hs with hs | hs
        · exact ⟨s, hs, h1, h2⟩
        · rw [List.mem_singleton.1 hs, hk] at h1; cases h1
    · rw [if_pos rfl, any_contains g k hk seen fs h]
      cases hc : fs.contains (face g k)
      · rw [Bool.false_or, if_neg (by decide)]
        refine pair_twice g t _ _ fun f => ?_
        rw [List.mem_cons, h f]
        constructor
        · rintro (rfl | ⟨s, hs, h1⟩)
          · exact ⟨k, List.mem_append_right _ (List.mem_singleton.2 rfl), hk, rfl⟩
          · exact ⟨s, List.mem_append_left _ hs, h1⟩
        · rintro ⟨s, hs, h1, h2⟩
          rcases List.mem_append.1 hs with hs | hs
          · exact .inr ⟨s, hs, h1, h2⟩
          · rw [List.mem_singleton.1 hs] at h2; exact .inl h2.symm
      · rw [Bool.true_or, if_pos rfl]
theorem key_pair (g : List Nd) (ks : List Int) : keyTwice g ks = pairGo g [] (keys ks) := (pair_twice g _ [] [] fun f => ⟨fun h => absurd h List.not_mem_nil, fun ⟨_, h, _⟩ => absurd h List.not_mem_nil⟩).symm
end Ar
end Go.Proofs.YtnlbnnnhmdjciaaDoor
