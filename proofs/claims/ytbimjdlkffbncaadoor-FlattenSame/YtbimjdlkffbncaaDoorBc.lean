/-
  Normal forms may be, and are their own normal forms (ArenaNormal's mathematics).
-/
import Derived.Test.YtbimjdlkffbncaaDoorBb
namespace Go.Proofs.YtbimjdlkffbncaaDoor
namespace Ar
theorem at_nat (g : List Nd) (k : Int) : at' g ((k.toNat : Nat) : Int) = at' g k := by unfold at'; rw [Int.toNat_natCast]
theorem at_mem (g : List Nd) (a : Nat) (h : a < g.length) : at' g a = g[a] := at_get g a (by omega) (by simpa using h)
theorem right_parts {g : List Nd} (h : right g = true) : (∀ x ∈ g, mayBe g x = true) ∧ twice g = false := by
  unfold right at h
  split at h
  · cases h
  · split at h
    · rename_i h2
      exact ⟨List.all_eq_true.1 h2, by simpa using h⟩
    · cases h
theorem keys_map (f : Int → Int) : ∀ ks : List Int, keys (ks.map f) = (keys ks).map f
  | [] => rfl
  | [_] => rfl
  | k :: _ :: t => by
    show f k :: keys (t.map f) = _
    rw [keys_map f t]; rfl
theorem keys_mem : ∀ (ks : List Int) (k : Int), k ∈ keys ks → k ∈ ks
  | [], _, h => h
  | [_], _, h => h
  | a :: b :: t, k, h => by
    have h : k ∈ a :: keys t := h
    rcases List.mem_cons.1 h with rfl | h
    · exact List.mem_cons_self
    · exact List.mem_cons_of_mem _ (List.mem_cons_of_mem _ (keys_mem t k h))
theorem pairs_keys (g : List Nd) : ∀ ks : List Int, pairs g ks = true → ∀ k ∈ keys ks, (at' g k).kind = 0
  | [], _, k, h => absurd h List.not_mem_nil
  | [_], h, _, _ => by cases h
  | a :: b :: t, h, k, hk => by
    have h : ((at' g a).kind == 0 && pairs g t) = true := h
    rw [Bool.and_eq_true, beq_iff_eq] at h
    have hk : k ∈ a :: keys t := hk
    rcases List.mem_cons.1 hk with rfl | hk
    · exact h.1
    · exact pairs_keys g t h.2 k hk
theorem pairs_map (g h : List Nd) (f : Int → Int) : ∀ ks : List Int, (∀ k ∈ ks, (at' h (f k)).kind = (at' g k).kind) → pairs h (ks.map f) = pairs g ks
  | [], _ => rfl
  | [_], _ => rfl
  | a :: b :: t, hk => by
    show ((at' h (f a)).kind == 0 && pairs h (t.map f)) = ((at' g a).kind == 0 && pairs g t)
    rw [hk a List.mem_cons_self, pairs_map g h f t (fun k hkt => hk k (List.mem_cons_of_mem _ (List.mem_cons_of_mem _ hkt)))]
variable {g h : List Nd} {S : Nat → Prop} {f : Nat → Nat}
theorem Iso.at (i : Iso g h S f) (k : Int) (hk : S k.toNat) : at' h ((f k.toNat : Nat) : Int) = ⟨(at' g k).kind, (at' g k).tag, (at' g k).text, (at' g k).kids.map fun k => ((f k.toNat : Nat) : Int)⟩ := by
  have := i.node k.toNat hk
  rw [at_nat] at this
  exact this
theorem Iso.isNode (i : Iso g h S f) (k : Int) (hk : S k.toNat) : Ar.isNode h.length ((f k.toNat : Nat) : Int) = true := by
  have := (i.lt _ hk).2
  unfold Ar.isNode
  simp only [Bool.and_eq_true, decide_eq_true_eq]
  omega
theorem Iso.mayBe (i : Iso g h S f) (a : Nat) (ha : S a) (hm : mayBe g (at' g a) = true) : Ar.mayBe h (at' h (f a)) = true := by
  have hk := i.kids a ha
  have hn := i.node a ha
  rw [hn]
  unfold Ar.mayBe at hm ⊢
  rw [Bool.and_eq_true] at hm ⊢
  refine ⟨List.all_eq_true.2 fun k hkk => ?_, ?_⟩
  · obtain ⟨q, hq, rfl⟩ := List.mem_map.1 hkk
    exact i.isNode q (hk q hq)
  · have h2 := hm.2
    unfold may1 at h2 ⊢
    simp only at h2 ⊢
    rw [pairs_map g h _ _ (fun k hkk => by rw [i.at k (hk k hkk)])]
    rw [List.isEmpty_map]
    exact h2
theorem Iso.face (i : Iso g h S f) (k : Int) (hk : S k.toNat) (h0 : (at' g k).kind = 0) : Ar.face h ((f k.toNat : Nat) : Int) = Ar.face g k := by
  unfold Ar.face
  rw [i.at k hk]
  simp only
  rw [if_pos h0, if_pos h0]
theorem Iso.twiceGo (i : Iso g h S f) : ∀ (ks : List Int) (seen : List Face), (∀ k ∈ ks, Ar.isNode g.length k = true ∧ S k.toNat ∧ (at' g k).kind = 0) → Ar.twiceGo h seen (ks.map fun k => ((f k.toNat : Nat) : Int)) = Ar.twiceGo g seen ks
  | [], _, _ => rfl
  | k :: t, seen, hk => by
    obtain ⟨h1, h2, h3⟩ := hk k List.mem_cons_self
    rw [List.map_cons]
    unfold Ar.twiceGo
    rw [i.isNode k h2, if_pos rfl, h1, if_pos rfl, i.face k h2 h3, i.twiceGo t _ (fun q hq => hk q (List.mem_cons_of_mem _ hq))]
theorem mayBe_kids {x : Nd} (hm : Ar.mayBe g x = true) : ∀ k ∈ x.kids, Ar.isNode g.length k = true := by
  unfold Ar.mayBe at hm
  rw [Bool.and_eq_true] at hm
  exact List.all_eq_true.1 hm.1
theorem mayBe_pairs {x : Nd} (hm : Ar.mayBe g x = true) (h2 : x.kind = 2) : pairs g x.kids = true := by
  unfold Ar.mayBe may1 at hm
  rw [if_neg (by omega), if_neg (by omega), if_pos h2] at hm
  simp only [Bool.and_eq_true] at hm
  exact hm.2.2.2
/-- what has only nodes of a graph that may be (and some more, that may be, and are no maps) may be -/
theorem Iso.right (i : Iso g h S f) (hr : right g = true) (hl : h.length ≠ 0 ∧ h.length ≤ 2000) (hall : ∀ b, b < h.length → (∃ a, S a ∧ b = f a) ∨ (Ar.mayBe h (at' h b) = true ∧ (at' h b).kind ≠ 2)) : Ar.right h = true := by
  obtain ⟨hm, ht⟩ := right_parts hr
  have hmg : ∀ a, S a → Ar.mayBe g (at' g a) = true := fun a ha => by
    have := (i.lt a ha).1
    rw [at_mem g a this]
    exact hm _ (List.getElem_mem this)
  unfold Ar.right
  rw [if_neg (by omega)]
  have h1 : h.all (Ar.mayBe h) = true := by
    rw [List.all_eq_true]
    intro x hx
    obtain ⟨b, hb, rfl⟩ := List.getElem_of_mem hx
    rw [← at_mem h b hb]
    rcases hall b hb with ⟨a, ha, rfl⟩ | h2
    · exact i.mayBe a ha (hmg a ha)
    · exact h2.1
  rw [if_pos h1]
  have h2 : twice h = false := by
    unfold twice
    rw [List.any_eq_false]
    intro x hx
    obtain ⟨b, hb, rfl⟩ := List.getElem_of_mem hx
    rw [← at_mem h b hb]
    rcases hall b hb with ⟨a, ha, rfl⟩ | h2
    · have hlt := (i.lt a ha).1
      rw [i.node a ha]
      simp only
      by_cases hk2 : (at' g a).kind = 2
      · have hp := mayBe_pairs (hmg a ha) hk2
        unfold keyTwice
        rw [keys_map, i.twiceGo _ _ (fun k hk => ⟨mayBe_kids (hmg a ha) k (keys_mem _ _ hk), i.kids a ha k (keys_mem _ _ hk), pairs_keys g _ hp k hk⟩)]
        unfold twice at ht
        rw [List.any_eq_false] at ht
        have := ht _ (List.getElem_mem hlt)
        rw [← at_mem g a hlt] at this
        exact this
      · rw [beq_eq_false_iff_ne.2 hk2]; simp
    · rw [beq_eq_false_iff_ne.2 h2.2]; simp
  rw [h2]; rfl
/-- a normal form may be -/
theorem normal_right (g : List Nd) (hr : Ar.right g = true) : Ar.right (normal g) = true := by
  obtain ⟨t, ht⟩ := order_zero g hr
  have hnb := order_nb g
  refine (iso_to_normal g hr).right hr ⟨by rw [normal_len, ht]; simp, by rw [normal_len]; have := hnb.len; have := (right_len hr).2; omega⟩ fun b hb => ?_
  rw [normal_len] at hb
  exact .inl ⟨(order g)[b], List.getElem_mem hb, (idxOf_get _ hnb.1 b hb).symm⟩
theorem order_has_zero (g : List Nd) (hr : Ar.right g = true) : 0 ∈ order g ∧ (order g).idxOf 0 = 0 := by
  obtain ⟨t, ht⟩ := order_zero g hr
  rw [ht]
  exact ⟨List.mem_cons_self, List.idxOf_cons_self⟩
/-- a normal form is its own one -/
theorem normal_normal (g : List Nd) (hr : Ar.right g = true) : normal (normal g) = normal g :=
  iso_normal (iso_to_normal g hr) hr (normal_right g hr) (order_has_zero g hr).1 (order_has_zero g hr).2
theorem map_idx (l : List Nat) (hd : l.Nodup) : l.map l.idxOf = List.range l.length := by
  apply List.ext_getElem
  · simp
  · intro i h1 h2
    rw [List.getElem_map, List.getElem_range]
    exact idxOf_get l hd i (by simpa using h1)
/-- nodes of a normal form are met in their order -/
theorem order_normal (g : List Nd) (hr : Ar.right g = true) : order (normal g) = List.range (normal g).length := by
  rw [(iso_order (iso_to_normal g hr) hr (normal_right g hr) (order_has_zero g hr).1 (order_has_zero g hr).2).1, normal_len, map_idx _ (order_nb g).1]
end Ar
end Go.Proofs.YtbimjdlkffbncaaDoor
