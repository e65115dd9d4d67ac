/-
  A node more, two nodes turned, one node made another (ArenaNumbers', ArenaTurned's mathematics).
-/
import Derived.Test.YtnlbnnnhmdjciaaDoorBc
namespace Go.Proofs.YtnlbnnnhmdjciaaDoor
namespace Ar
/-! ### a graph with a node more, and with two nodes turned -/
def nobody : Nd := ⟨0, [115, 116, 114], [110, 111, 98, 111, 100, 121, 39, 115], []⟩
theorem at_app (g : List Nd) (x : Nd) (a : Nat) (h : a < g.length) : at' (g ++ [x]) a = at' g a := by
  unfold at'
  rw [Int.toNat_natCast, List.getD_eq_getElem?_getD, List.getD_eq_getElem?_getD, List.getElem?_append_left h]
theorem at_last (g : List Nd) (x : Nd) : at' (g ++ [x]) g.length = x := by
  unfold at'
  rw [Int.toNat_natCast, List.getD_eq_getElem?_getD, List.getElem?_append_right (Nat.le_refl _), Nat.sub_self]; rfl
theorem kids_lt (g : List Nd) (hr : right g = true) (a : Nat) (ha : a < g.length) : ∀ k ∈ (at' g a).kids, 0 ≤ k ∧ k.toNat < g.length := Kids.at' (right_kids hr) ha
theorem iso_more (g : List Nd) (x : Nd) (hr : right g = true) : Iso g (g ++ [x]) (fun a => a < g.length) (fun a => a) where
  lt := fun a ha => ⟨ha, by rw [List.length_append]; exact Nat.lt_of_lt_of_le ha (Nat.le_add_right _ _)⟩
  kids := fun a ha k hk => (kids_lt g hr a ha k hk).2
  inj := fun _ _ _ _ e => e
  node := fun a ha => by
    rw [at_app g x a ha]
    have h : (at' g a).kids.map (fun k => ((k.toNat : Nat) : Int)) = (at' g a).kids := by
      conv => rhs; rw [← List.map_id (at' g a).kids]
      exact List.map_congr_left fun k hk => by have := (kids_lt g hr a ha k hk).1; show ((k.toNat : Nat) : Int) = k; omega
    rw [h]
theorem more_right (g : List Nd) (x : Nd) (hr : right g = true) (hl : g.length < 2000) (hx : mayBe (g ++ [x]) x = true) (hk : x.kind ≠ 2) : right (g ++ [x]) = true := by
  refine (iso_more g x hr).right hr ⟨by simp, by simp; omega⟩ fun b hb => ?_
  rw [List.length_append, List.length_singleton] at hb
  by_cases h : b < g.length
  · exact .inl ⟨b, h, rfl⟩
  · have hb : b = g.length := by omega
    subst hb
    rw [at_last]
    exact .inr ⟨hx, hk⟩
theorem more_normal (g : List Nd) (x : Nd) (hr : right g = true) (hl : g.length < 2000) (hx : mayBe (g ++ [x]) x = true) (hk : x.kind ≠ 2) : normal (g ++ [x]) = normal g :=
  iso_normal (iso_more g x hr) hr (more_right g x hr hl hx hk) (right_len hr).1 rfl
/-- two numbers turned -/
def swp (x y a : Nat) : Nat := if a = x then y else if a = y then x else a
def swpI (x y : Nat) (k : Int) : Int := if k = (x : Int) then (y : Int) else if k = (y : Int) then (x : Int) else k
theorem swpI_nat (x y : Nat) (k : Int) (h : 0 ≤ k) : swpI x y k = ((swp x y k.toNat : Nat) : Int) := by
  obtain ⟨n, rfl⟩ : ∃ n : Nat, k = (n : Int) := ⟨k.toNat, by omega⟩
  unfold swpI swp
  simp only [Int.toNat_natCast, Int.natCast_inj]
  split
  · rfl
  · split <;> rfl
theorem swp_swp (x y a : Nat) : swp x y (swp x y a) = a := by unfold swp; split <;> split <;> (try split) <;> omega
theorem swp_lt {x y a n : Nat} (hx : x < n) (hy : y < n) (ha : a < n) : swp x y a < n := by unfold swp; split <;> (try split) <;> omega
/-- a graph with two nodes turned (kids still as they were) -/
def turn0 (g : List Nd) (x y : Nat) : List Nd := (g.set x (at' g y)).set y (at' g x)
def turned (g : List Nd) (x y : Nat) : List Nd := (turn0 g x y).map fun n => ⟨n.kind, n.tag, n.text, n.kids.map (swpI x y)⟩
theorem turn0_len (g : List Nd) (x y : Nat) : (turn0 g x y).length = g.length := by unfold turn0; rw [List.length_set, List.length_set]
theorem turned_len (g : List Nd) (x y : Nat) : (turned g x y).length = g.length := by unfold turned; rw [List.length_map, turn0_len]
theorem turn0_at (g : List Nd) (x y a : Nat) (hx : x < g.length) (hy : y < g.length) (ha : a < g.length) : (turn0 g x y)[a]? = some (at' g (swp x y a)) := by
  unfold turn0
  rw [List.getElem?_set, List.length_set]
  unfold swp
  by_cases h1 : a = x
  · by_cases h2 : y = a
    · rw [if_pos h2, if_pos hy, if_pos h1]
      subst h2; subst h1; rfl
    · rw [if_neg h2, List.getElem?_set, if_pos h1.symm, if_pos hx, if_pos h1]
  · rw [if_neg h1]
    by_cases h2 : y = a
    · rw [if_pos h2, if_pos hy, if_pos h2.symm]
    · rw [if_neg h2, List.getElem?_set, if_neg (fun e => h1 e.symm), if_neg (fun e => h2 e.symm), at_mem g a ha, List.getElem?_eq_getElem ha]
theorem turned_at (g : List Nd) (x y a : Nat) (hx : x < g.length) (hy : y < g.length) (ha : a < g.length) : at' (turned g x y) (swp x y a) = ⟨(at' g a).kind, (at' g a).tag, (at' g a).text, (at' g a).kids.map (swpI x y)⟩ := by
  unfold turned
  show List.getD _ _ _ = _
  rw [Int.toNat_natCast, List.getD_eq_getElem?_getD, List.getElem?_map, turn0_at g x y _ hx hy (swp_lt hx hy ha), swp_swp]
  rfl
theorem iso_turned (g : List Nd) (x y : Nat) (hr : right g = true) (hx : x < g.length) (hy : y < g.length) : Iso g (turned g x y) (fun a => a < g.length) (swp x y) where
  lt := fun a ha => ⟨ha, by rw [turned_len]; exact swp_lt hx hy ha⟩
  kids := fun a ha k hk => (kids_lt g hr a ha k hk).2
  inj := fun a b _ _ e => by rw [← swp_swp x y a, e, swp_swp]
  node := fun a ha => by
    rw [turned_at g x y a hx hy ha]
    congr 1
    exact List.map_congr_left fun k hk => swpI_nat x y k (kids_lt g hr a ha k hk).1
theorem turned_right (g : List Nd) (x y : Nat) (hr : right g = true) (hx : x < g.length) (hy : y < g.length) : right (turned g x y) = true := by
  have hl := right_len hr
  refine (iso_turned g x y hr hx hy).right hr ⟨by rw [turned_len]; omega, by rw [turned_len]; omega⟩ fun b hb => ?_
  rw [turned_len] at hb
  exact .inl ⟨swp x y b, swp_lt hx hy hb, (swp_swp x y b).symm⟩
theorem turned_normal (g : List Nd) (x y : Nat) (hr : right g = true) (hx : x < g.length) (hy : y < g.length) (h1 : x ≠ 0) (h2 : y ≠ 0) : normal (turned g x y) = normal g :=
  iso_normal (iso_turned g x y hr hx hy) hr (turned_right g x y hr hx hy) (right_len hr).1 (by unfold swp; rw [if_neg (fun e => h1 e.symm), if_neg (fun e => h2 e.symm)])
/-! ### one node of a normal form made another one, with its kids -/
theorem meet_same (g h : List Nd) (hk : ∀ a : Nat, (at' h a).kids = (at' g a).kids) : ∀ (n a : Nat) (met : List Nat), meet n h a met = meet n g a met
  | 0, _, _ => rfl
  | n + 1, a, met => by
    unfold meet
    rw [hk a]
    split
    · rfl
    · congr 1
      funext m k
      exact meet_same g h hk n k.toNat m
theorem at_set (g : List Nd) (i : Nat) (x : Nd) (a : Nat) (hi : i < g.length) : at' (g.set i x) a = if a = i then x else at' g a := by
  unfold at'
  rw [Int.toNat_natCast, List.getD_eq_getElem?_getD, List.getElem?_set, List.getD_eq_getElem?_getD]
  by_cases h : i = a
  · rw [if_pos h, if_pos hi, if_pos h.symm]; rfl
  · rw [if_neg h, if_neg (fun e => h e.symm)]
/-- a node of a normal form with other contents, but its kids: no graph, or another one -/
theorem other_normal (g : List Nd) (i : Nat) (x : Nd) (hr : right g = true) (hn : order g = List.range g.length) (hi : i < g.length) (hk : x.kids = (at' g i).kids) (hx : x.tag ≠ (at' g i).tag ∨ x.text ≠ (at' g i).text) : normal (g.set i x) ≠ normal g := by
  have hne : normal g ≠ [] := by
    intro e
    have := congrArg List.length e
    rw [normal_len, hn, List.length_range] at this
    simp at this
    have := (right_len hr).1
    simp_all
  cases hr' : right (g.set i x)
  · intro e
    refine hne (e ▸ ?_)
    unfold normal order
    rw [hr', if_neg (by decide)]; rfl
  · have ho : order (g.set i x) = order g := by
      unfold order
      rw [if_pos hr, if_pos hr', List.length_set, meet_same g (g.set i x) (fun a => by
        rw [at_set g i x a hi]
        split
        · rename_i e; rw [hk, e]
        · rfl)]
    intro e
    have hil : i < (order g).length := by rw [hn, List.length_range]; exact hi
    have h1 := normal_at g i hil
    have h2 := normal_at (g.set i x) i (by rw [ho]; exact hil)
    rw [e, h1] at h2
    simp only [ho] at h2
    simp only [hn, List.getElem_range] at h2
    unfold renum at h2
    rw [at_set g i x i hi, if_pos rfl] at h2
    simp only [Nd.mk.injEq] at h2
    rcases hx with hx | hx
    · exact hx h2.2.1.symm
    · exact hx h2.2.2.1.symm
end Ar
end Go.Proofs.YtnlbnnnhmdjciaaDoor
