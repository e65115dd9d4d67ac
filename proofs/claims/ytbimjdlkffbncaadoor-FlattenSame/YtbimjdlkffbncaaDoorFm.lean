/-
  Mathematics: what is told of a graph in its normal form: an event for each node, an alias for each time more; how deep that is.
-/
import Derived.Test.YtbimjdlkffbncaaDoorFa
namespace Go.Proofs.YtbimjdlkffbncaaDoor
namespace Fl
theorem range_pre {l : List Nat} {n : Nat} (h : l <+: List.range n) : l = List.range l.length := by
  have h1 := List.prefix_iff_eq_take.1 h
  have h2 : l.length ≤ n := by have := h.length_le; simpa using this
  apply List.ext_getElem?
  intro i
  by_cases hi : i < l.length
  · rw [h1, List.getElem?_take, if_pos hi, ← h1, List.getElem?_range (by omega), List.getElem?_range hi]
  · rw [List.getElem?_eq_none (by omega), List.getElem?_eq_none (by simpa using hi)]
theorem foldl_pre {α : Type} (f : List Nat → α → List Nat) (hf : ∀ s k, s <+: f s k) : ∀ (ks : List α) (s : List Nat), s <+: ks.foldl f s
  | [], _ => List.prefix_refl _
  | k :: t, s => (hf s k).trans (foldl_pre f hf t (f s k))
theorem meet_pre (g : List Ar.Nd) : ∀ (f a : Nat) (met : List Nat), met <+: Ar.meet f g a met
  | 0, _, _ => List.prefix_refl _
  | f + 1, a, met => by
    unfold Ar.meet
    split
    · exact List.prefix_refl _
    · exact (List.prefix_append _ _).trans (foldl_pre _ (fun s k => meet_pre g f _ s) _ _)
/-- kids of the nodes below a number -/
def kidsTo (g : List Ar.Nd) : Nat → Nat
  | 0 => 0
  | m + 1 => kidsTo g m + (Ar.at' g (m : Nat)).kids.length
/-- a node that may be, as far as it is told -/
def Tellable (x : Ar.Nd) : Prop := (x.kind = 0 ∧ x.kids = []) ∨ x.kind = 1 ∨ x.kind = 2
theorem may_tell {g : List Ar.Nd} {x : Ar.Nd} (h : Ar.mayBe g x = true) : Tellable x := by
  unfold Ar.mayBe at h
  rw [Bool.and_eq_true] at h
  have h2 := h.2
  unfold Ar.may1 at h2
  unfold Tellable
  split at h2
  · rename_i h0
    rw [Bool.and_eq_true] at h2
    exact .inl ⟨h0, List.isEmpty_iff.1 h2.1⟩
  · split at h2
    · exact .inr (.inl (by assumption))
    · split at h2
      · exact .inr (.inr (by assumption))
      · cases h2
theorem event_kind (x : Ar.Nd) (h : Tellable x) : (event x).kind = if x.kind = 0 then 6 else if x.kind = 1 then 2 else 4 := by
  unfold event
  rcases h with ⟨h, _⟩ | h | h
  · rw [if_pos h, if_pos h]; split <;> rfl
  · simp [h]
  · simp [h]
theorem kinds_app (a b : List Ev.E) : Ev.kinds (a ++ b) = Ev.kinds a ++ Ev.kinds b := by unfold Ev.kinds; rw [List.map_append]
theorem contains_range (m a : Nat) : (List.range m).contains a = decide (a < m) := by
  rw [Bool.eq_iff_iff, List.contains_iff_mem, List.mem_range, decide_eq_true_iff]
/-- what is told behind nodes that were met -/
def Told (g : List Ar.Nd) (c : Nat) (m m' : Nat) (es : List Ev.E) : Prop :=
  Ev.dsum (Ev.kinds es) = 0 ∧ Ev.nodesOf (Ev.kinds es) + kidsTo g m = c + kidsTo g m'
theorem told_fold (g : List Ar.Nd) (an : List (List UInt8)) (n f : Nat) (d : Int)
    (ih : ∀ (a m : Nat) (out : List Ev.E) (b : Int), Ar.meet f g a (List.range m) <+: List.range n → n + 1 ≤ f + m → d ≤ b →
      ∃ m' es, Ar.meet f g a (List.range m) = List.range m' ∧ tell f g an a (m, out) = (m', out ++ es) ∧ Told g 1 m m' es ∧ deep f g a (d + 1) (m, b) = (m', max b (d + Ev.dmax (Ev.kinds es)))) :
    ∀ (ks : List Int) (m : Nat) (out : List Ev.E) (b : Int), ks.foldl (fun s k => Ar.meet f g k.toNat s) (List.range m) <+: List.range n → n + 1 ≤ f + m → d ≤ b →
      ∃ m' es, ks.foldl (fun s k => Ar.meet f g k.toNat s) (List.range m) = List.range m' ∧ ks.foldl (fun s k => tell f g an k.toNat s) (m, out) = (m', out ++ es) ∧ Told g ks.length m m' es
        ∧ ks.foldl (fun s k => deep f g k.toNat (d + 1) s) (m, b) = (m', max b (d + Ev.dmax (Ev.kinds es)))
  | [], m, out, b, _, _, hb => ⟨m, [], rfl, by simp, ⟨rfl, by simp [Ev.kinds, Ev.nodesOf]⟩, by
      show (m, b) = (m, max b (d + 0))
      rw [Int.add_zero, Int.max_eq_left hb]⟩
  | k :: t, m, out, b, hp, hf, hb => by
    rw [List.foldl_cons] at hp
    have hp1 := (foldl_pre (fun s (k : Int) => Ar.meet f g k.toNat s) (fun s k => meet_pre g f _ s) t (Ar.meet f g k.toNat (List.range m))).trans hp
    obtain ⟨m1, e1, h1, h2, ⟨h3, h4⟩, h5⟩ := ih k.toNat m out b hp1 hf hb
    have hmm : m ≤ m1 := by
      have := (meet_pre g f k.toNat (List.range m)).length_le
      rw [h1] at this
      simpa using this
    rw [h1] at hp
    obtain ⟨m2, e2, g1, g2, ⟨g3, g4⟩, g5⟩ := told_fold g an n f d ih t m1 (out ++ e1) (max b (d + Ev.dmax (Ev.kinds e1))) hp (by omega) (by omega)
    refine ⟨m2, e1 ++ e2, ?_, ?_, ⟨?_, ?_⟩, ?_⟩
    · rw [List.foldl_cons, h1, g1]
    · rw [List.foldl_cons, h2, g2, List.append_assoc]
    · rw [kinds_app, Ev.dsum_app, h3, g3]; rfl
    · rw [kinds_app, Ev.nodes_app, List.length_cons]; omega
    · rw [List.foldl_cons, h5, g5, kinds_app, Ev.dmax_app, h3]
      congr 1
      omega
theorem tell_told (g : List Ar.Nd) (an : List (List UInt8)) (n : Nat) (hT : ∀ a, a < n → Tellable (Ar.at' g (a : Nat))) :
    ∀ (f a m : Nat) (out : List Ev.E) (d b : Int), Ar.meet f g a (List.range m) <+: List.range n → n + 1 ≤ f + m → d ≤ b →
      ∃ m' es, Ar.meet f g a (List.range m) = List.range m' ∧ tell f g an a (m, out) = (m', out ++ es) ∧ Told g 1 m m' es ∧ deep f g a (d + 1) (m, b) = (m', max b (d + Ev.dmax (Ev.kinds es)))
  | 0, a, m, out, d, b, hp, hf, _ => by
    have := hp.length_le
    have h2 : Ar.meet 0 g a (List.range m) = List.range m := rfl
    rw [h2] at this
    simp at this
    omega
  | f + 1, a, m, out, d, b, hp, hf, hb => by
    unfold Ar.meet at hp ⊢
    unfold tell deep
    rw [contains_range] at hp ⊢
    by_cases ha : a < m
    · rw [if_pos (decide_eq_true ha)] at hp ⊢
      rw [if_pos ha, if_pos ha]
      refine ⟨m, [alias' (an.getD a [])], rfl, rfl, ⟨rfl, ?_⟩, ?_⟩
      · show Ev.nodesOf [7] + _ = _
        rfl
      · show (m, b) = (m, max b (d + 0))
        rw [Int.add_zero, Int.max_eq_left hb]
    · have hd : decide (a < m) = false := decide_eq_false ha
      rw [hd, if_neg (by decide)] at hp ⊢
      rw [if_neg ha, if_neg ha]
      have hp1 := (foldl_pre (fun s (k : Int) => Ar.meet f g k.toNat s) (fun s k => meet_pre g f _ s) (Ar.at' g (a : Nat)).kids (List.range m ++ [a])).trans hp
      have hr := range_pre hp1
      have hl : (List.range m ++ [a]).length = m + 1 := by simp
      rw [hl, List.range_succ] at hr
      obtain rfl : a = m := by simpa using List.append_cancel_left hr
      have hmn : a + 1 ≤ n := by have := hp1.length_le; rw [hl] at this; simpa using this
      rw [← List.range_succ] at hp ⊢
      have hTa := hT a (by omega)
      have hek := event_kind _ hTa
      obtain ⟨e0, he0⟩ : ∃ e0, anch (an.getD a []) (event (Ar.at' g (a : Nat))) = e0 := ⟨_, rfl⟩
      have hk0 : e0.kind = (event (Ar.at' g (a : Nat))).kind := by rw [← he0]; rfl
      rw [he0]
      rw [hek] at hk0
      simp only
      rcases hTa with ⟨h0, hks⟩ | hk12
      · rw [if_pos h0] at hk0
        rw [hks, if_pos h0]
        refine ⟨a + 1, [e0], rfl, ?_, ⟨?_, ?_⟩, ?_⟩
        · show (a + 1, (out ++ [e0]) ++ closing _) = _
          rw [h0]
          show (a + 1, (out ++ [e0]) ++ []) = _
          rw [List.append_nil]
        · show Ev.dsum [e0.kind] = 0
          rw [hk0]; rfl
        · show Ev.nodesOf [e0.kind] + _ = 1 + (kidsTo g a + _)
          rw [hk0, hks]
          rfl
        · show (a + 1, b) = (a + 1, max b (d + Ev.dmax [e0.kind]))
          rw [hk0]
          show (a + 1, b) = (a + 1, max b (d + 0))
          rw [Int.add_zero, Int.max_eq_left hb]
      · have hne : ¬ (Ar.at' g (a : Nat)).kind = 0 := by omega
        rw [if_neg hne] at hk0 ⊢
        obtain ⟨m', es, h1, h2, ⟨h3, h4⟩, h5⟩ := told_fold g an n f (d + 1) (fun a m out b => tell_told g an n hT f a m out (d + 1) b) (Ar.at' g (a : Nat)).kids (a + 1) (out ++ [e0]) (max b (d + 1)) hp (by omega) (by omega)
        rw [h1, h2, h5]
        obtain ⟨cl, hcl, hcd, hcm, hcn⟩ : ∃ cl, closing (Ar.at' g (a : Nat)).kind = cl ∧ Ev.dsum (Ev.kinds cl) = -1 ∧ Ev.dmax (Ev.kinds cl) = 0 ∧ Ev.nodesOf (Ev.kinds cl) = 0 := by
          rcases hk12 with h | h
          · exact ⟨[bare 3], by rw [h]; rfl, rfl, rfl, rfl⟩
          · exact ⟨[bare 5], by rw [h]; rfl, rfl, rfl, rfl⟩
        have hone : Ev.dsum (Ev.kinds [e0]) = 1 ∧ Ev.nodesOf (Ev.kinds [e0]) = 1 ∧ ∀ l, Ev.dmax (Ev.kinds ([e0] ++ l)) = max 0 (1 + Ev.dmax (Ev.kinds l)) := by
          have e1 : Ev.kinds [e0] = [e0.kind] := rfl
          have e2 : ∀ l, Ev.kinds ([e0] ++ l) = e0.kind :: Ev.kinds l := fun l => rfl
          rcases hk12 with h | h
          · rw [if_pos h] at hk0
            rw [e1, hk0]
            exact ⟨rfl, rfl, fun l => by rw [e2, hk0]; rfl⟩
          · rw [if_neg (by omega)] at hk0
            rw [e1, hk0]
            exact ⟨rfl, rfl, fun l => by rw [e2, hk0]; rfl⟩
        have hdn := Ev.dmax_nonneg (Ev.kinds es)
        rw [hcl]
        refine ⟨m', [e0] ++ (es ++ cl), rfl, by simp, ⟨?_, ?_⟩, ?_⟩
        · rw [kinds_app, Ev.dsum_app, kinds_app, Ev.dsum_app, h3, hcd, hone.1]; rfl
        · rw [kinds_app, Ev.nodes_app, kinds_app, Ev.nodes_app, hcn, hone.2.1]
          have hs : kidsTo g (a + 1) = kidsTo g a + (Ar.at' g (a : Nat)).kids.length := rfl
          omega
        · rw [hone.2.2, kinds_app, Ev.dmax_app, h3, hcm]
          congr 1
          omega
/-- of a graph in its normal form -/
structure InOrder (n : List Ar.Nd) : Prop where
  order : Ar.meet (n.length + 1) n 0 [] = List.range n.length
  tell : ∀ a, a < n.length → Tellable (Ar.at' n (a : Nat))
theorem normal_inOrder (g : List Ar.Nd) (hr : Ar.right g = true) : InOrder (Ar.normal g) := by
  have hn := Ar.normal_right g hr
  refine ⟨?_, fun a ha => ?_⟩
  · have h := Ar.order_normal g hr
    unfold Ar.order at h
    rw [if_pos hn] at h
    exact h
  · rw [Ar.at_mem _ a ha]
    exact may_tell ((Ar.right_parts hn).1 _ (List.getElem_mem ha))
theorem told_all (n : List Ar.Nd) (an : List (List UInt8)) (h : InOrder n) :
    ∃ es, Fl.tell (n.length + 1) n an 0 (0, []) = (n.length, es) ∧ Told n 1 0 n.length es ∧ deep (n.length + 1) n 0 1 (0, 0) = (n.length, Ev.dmax (Ev.kinds es)) := by
  have hp : Ar.meet (n.length + 1) n 0 (List.range 0) <+: List.range n.length := by
    show Ar.meet (n.length + 1) n 0 [] <+: _
    rw [h.order]
    exact List.prefix_refl _
  obtain ⟨m', es, h1, h2, h3, h4⟩ := tell_told n an n.length h.tell (n.length + 1) 0 0 [] 0 0 hp (by omega) (by omega)
  have h1 : Ar.meet (n.length + 1) n 0 [] = List.range m' := h1
  rw [h.order] at h1
  obtain rfl : n.length = m' := by have := congrArg List.length h1; simpa using this
  refine ⟨es, by rw [h2]; rfl, h3, ?_⟩
  have h4 : deep (n.length + 1) n 0 1 (0, 0) = (n.length, max 0 (0 + Ev.dmax (Ev.kinds es))) := h4
  rw [h4]
  have := Ev.dmax_nonneg (Ev.kinds es)
  congr 1
  omega
theorem doc_nodes (n : List Ar.Nd) (h : InOrder n) : Ev.nodesOf (Ev.kinds (docN n)) = 1 + kidsTo n n.length := by
  obtain ⟨es, h1, ⟨_, h2⟩, _⟩ := told_all n (anchors n) h
  have hd : docN n = [bare 0] ++ (es ++ [bare 1]) := by unfold docN; rw [h1]; rfl
  rw [hd, kinds_app, Ev.nodes_app, kinds_app, Ev.nodes_app]
  show 0 + (_ + 0) = _
  have : kidsTo n 0 = 0 := rfl
  omega
theorem doc_depth (n : List Ar.Nd) (h : InOrder n) (h0 : 0 < n.length) : Ev.dmax (Ev.kinds (docN n)) = deepN n := by
  obtain ⟨es, h1, ⟨hs, _⟩, h2⟩ := told_all n (anchors n) h
  have hd : docN n = [bare 0] ++ (es ++ [bare 1]) := by unfold docN; rw [h1]; rfl
  unfold deepN
  rw [if_neg (by omega), h2, hd, kinds_app, Ev.dmax_app, kinds_app, Ev.dmax_app, hs]
  show max 0 (0 + max (Ev.dmax (Ev.kinds es)) (0 + 0)) = _
  have := Ev.dmax_nonneg (Ev.kinds es)
  simp only
  omega
end Fl
end Go.Proofs.YtbimjdlkffbncaaDoor
