/-
  Mathematics: what is told of a graph in its normal form: an event for each node, an alias for each time more; how deep that is.
  The walk of appendDocument.
-/
import Derived.Test.YtbimjdlkffbncaaDoorFa
import Derived.Test.YtbimjdlkffbncaaDoorFh
namespace Go.Proofs.YtbimjdlkffbncaaDoor
namespace Fl
theorem range_pre {l : List Nat} {n : Nat} (h : l <+: List.range n) : l = List.range l.length := by
  have h1 := List.prefix_iff_eq_take.1 h
  have h2 : l.length ≤ n := by have := h.length_le; simpa using this
  apply List.ext_getElem?
  intro i
  by_cases hi : i < l.length
  · rw [h1, List.getElem?_take, if_pos hi, ← h1, List.getElem?_range (by omega), List.getElem?_range hi]
  · rw [List.getElem?_eq_none (by omega), List.getElem?_eq_none (by simpa using hi)]
theorem foldl_pre {α : Type} (f : List Nat → α → List Nat) (hf : ∀ s k, s <+: f s k) : ∀ (ks : List α) (s : List Nat), s <+: ks.foldl f s
  | [], _ => List.prefix_refl _
  | k :: t, s => (hf s k).trans (foldl_pre f hf t (f s k))
theorem meet_pre (g : List Ar.Nd) : ∀ (f a : Nat) (met : List Nat), met <+: Ar.meet f g a met
  | 0, _, _ => List.prefix_refl _
  | f + 1, a, met => by
    unfold Ar.meet
    split
    · exact List.prefix_refl _
    · exact (List.prefix_append _ _).trans (foldl_pre _ (fun s k => meet_pre g f _ s) _ _)
/-- kids of the nodes below a number -/
def kidsTo (g : List Ar.Nd) : Nat → Nat
  | 0 => 0
  | m + 1 => kidsTo g m + (Ar.at' g (m : Nat)).kids.length
/-- a node that may be, as far as it is told -/
def Tellable (x : Ar.Nd) : Prop := (x.kind = 0 ∧ x.kids = []) ∨ x.kind = 1 ∨ x.kind = 2
theorem may_tell {g : List Ar.Nd} {x : Ar.Nd} (h : Ar.mayBe g x = true) : Tellable x := by
  unfold Ar.mayBe at h
  rw [Bool.and_eq_true] at h
  have h2 := h.2
  unfold Ar.may1 at h2
  unfold Tellable
  split at h2
  · rename_i h0
    rw [Bool.and_eq_true] at h2
    exact .inl ⟨h0, List.isEmpty_iff.1 h2.1⟩
  · split at h2
    · exact .inr (.inl (by assumption))
    · split at h2
      · exact .inr (.inr (by assumption))
      · cases h2
theorem event_kind (x : Ar.Nd) (h : Tellable x) : (event x).kind = if x.kind = 0 then 6 else if x.kind = 1 then 2 else 4 := by
  unfold event
  rcases h with ⟨h, _⟩ | h | h
  · rw [if_pos h, if_pos h]; split <;> rfl
  · simp [h]
  · simp [h]
theorem kinds_app (a b : List Ev.E) : Ev.kinds (a ++ b) = Ev.kinds a ++ Ev.kinds b := by unfold Ev.kinds; rw [List.map_append]
theorem contains_range (m a : Nat) : (List.range m).contains a = decide (a < m) := by
  rw [Bool.eq_iff_iff, List.contains_iff_mem, List.mem_range, decide_eq_true_iff]
/-- what is told behind nodes that were met -/
def Told (g : List Ar.Nd) (c : Nat) (m m' : Nat) (es : List Ev.E) : Prop :=
  Ev.dsum (Ev.kinds es) = 0 ∧ Ev.nodesOf (Ev.kinds es) + kidsTo g m = c + kidsTo g m'
theorem told_fold (g : List Ar.Nd) (an : List (List UInt8)) (n f : Nat) (d : Int)
    (ih : ∀ (a m : Nat) (out : List Ev.E) (b : Int), Ar.meet f g a (List.range m) <+: List.range n → n + 1 ≤ f + m → d ≤ b →
      ∃ m' es, Ar.meet f g a (List.range m) = List.range m' ∧ tell f g an a (m, out) = (m', out ++ es) ∧ Told g 1 m m' es ∧ deep f g a (d + 1) (m, b) = (m', max b (d + Ev.dmax (Ev.kinds es)))) :
    ∀ (ks : List Int) (m : Nat) (out : List Ev.E) (b : Int), ks.foldl (fun s k => Ar.meet f g k.toNat s) (List.range m) <+: List.range n → n + 1 ≤ f + m → d ≤ b →
      ∃ m' es, ks.foldl (fun s k => Ar.meet f g k.toNat s) (List.range m) = List.range m' ∧ ks.foldl (fun s k => tell f g an k.toNat s) (m, out) = (m', out ++ es) ∧ Told g ks.length m m' es
        ∧ ks.foldl (fun s k => deep f g k.toNat (d + 1) s) (m, b) = (m', max b (d + Ev.dmax (Ev.kinds es)))
  | [], m, out, b, _, _, hb => ⟨m, [], rfl, by simp, ⟨rfl, by simp [Ev.kinds, Ev.nodesOf]⟩, by
      show (m, b) = (m, max b (d + 0))
      rw [Int.add_zero, Int.max_eq_left hb]⟩
  | k :: t, m, out, b, hp, hf, hb => by
    rw [List.foldl_cons] at hp
    have hp1 := (foldl_pre (fun s (k : Int) => Ar.meet f g k.toNat s) (fun s k => meet_pre g f _ s) t (Ar.meet f g k.toNat (List.range m))).trans hp
    obtain ⟨m1, e1, h1, h2, ⟨h3, h4⟩, h5⟩ := ih k.toNat m out b hp1 hf hb
    have hmm : m ≤ m1 := by
      have := (meet_pre g f k.toNat (List.range m)).length_le
      rw [h1] at this
      simpa using this
    rw [h1] at hp
    obtain ⟨m2, e2, g1, g2, ⟨g3, g4⟩, g5⟩ := told_fold g an n f d ih t m1 (out ++ e1) (max b (d + Ev.dmax (Ev.kinds e1))) hp (by omega) (by omega)
    refine ⟨m2, e1 ++ e2, ?_, ?_, ⟨?_, ?_⟩, ?_⟩
    · rw [List.foldl_cons, h1, g1]
    · rw [List.foldl_cons, h2, g2, List.append_assoc]
    · rw [kinds_app, Ev.dsum_app, h3, g3]; rfl
    · rw [kinds_app, Ev.nodes_app, List.length_cons]; omega
    · rw [List.foldl_cons, h5, g5, kinds_app, Ev.dmax_app, h3]
      congr 1
      omega
theorem tell_told (g : List Ar.Nd) (an : List (List UInt8)) (n : Nat) (hT : ∀ a, a < n → Tellable (Ar.at' g (a : Nat))) :
    ∀ (f a m : Nat) (out : List Ev.E) (d b : Int), Ar.meet f g a (List.range m) <+: List.range n → n + 1 ≤ f + m → d ≤ b →
      ∃ m' es, Ar.meet f g a (List.range m) = List.range m' ∧ tell f g an a (m, out) = (m', out ++ es) ∧ Told g 1 m m' es ∧ deep f g a (d + 1) (m, b) = (m', max b (d + Ev.dmax (Ev.kinds es)))
  | 0, a, m, out, d, b, hp, hf, _ => by
    have := hp.length_le
    have h2 : Ar.meet 0 g a (List.range m) = List.range m := rfl
    rw [h2] at this
    simp at this
    omega
  | f + 1, a, m, out, d, b, hp, hf, hb => by
    unfold Ar.meet at hp ⊢
    unfold tell deep
    rw [contains_range] at hp ⊢
    by_cases ha : a < m
    · rw [if_pos (decide_eq_true ha)] at hp ⊢
      rw [if_pos ha, if_pos ha]
      refine ⟨m, [alias' (an.getD a [])], rfl, rfl, ⟨rfl, ?_⟩, ?_⟩
      · show Ev.nodesOf [7] + _ = _
        rfl
      · show (m, b) = (m, max b (d + 0))
        rw [Int.add_zero, Int.max_eq_left hb]
    · have hd : decide (a < m) = false := decide_eq_false ha
      rw [hd, if_neg (by decide)] at hp ⊢
      rw [if_neg ha, if_neg ha]
      have hp1 := (foldl_pre (fun s (k : Int) => Ar.meet f g k.toNat s) (fun s k => meet_pre g f _ s) (Ar.at' g (a : Nat)).kids (List.range m ++ [a])).trans hp
      have hr := range_pre hp1
      have hl : (List.range m ++ [a]).length = m + 1 := by simp
      rw [hl, List.range_succ] at hr
      obtain rfl : a = m := by simpa using List.append_cancel_left hr
      have hmn : a + 1 ≤ n := by have := hp1.length_le; rw [hl] at this; simpa using this
      rw [← List.range_succ] at hp ⊢
      have hTa := hT a (by omega)
      have hek := event_kind _ hTa
      obtain ⟨e0, he0⟩ : ∃ e0, anch (an.getD a []) (event (Ar.at' g (a : Nat))) = e0 := ⟨_, rfl⟩
      have hk0 : e0.kind = (event (Ar.at' g (a : Nat))).kind := by rw [← he0]; rfl
      rw [he0]
      rw [hek] at hk0
      simp only
      rcases hTa with ⟨h0, hks⟩ | hk12
      · rw [if_pos h0] at hk0
        rw [hks, if_pos h0]
        refine ⟨a + 1, [e0], rfl, ?_, ⟨?_, ?_⟩, ?_⟩
        · show (a + 1, (out ++ [e0]) ++ closing _) = _
          rw [h0]
          show (a + 1, (out ++ [e0]) ++ []) = _
          rw [List.append_nil]
        · show Ev.dsum [e0.kind] = 0
          rw [hk0]; rfl
        · show Ev.nodesOf [e0.kind] + _ = 1 + (kidsTo g a + _)
          rw [hk0, hks]
          rfl
        · show (a + 1, b) = (a + 1, max b (d + Ev.dmax [e0.kind]))
          rw [hk0]
          show (a + 1, b) = (a + 1, max b (d + 0))
          rw [Int.add_zero, Int.max_eq_left hb]
      · have hne : ¬ (Ar.at' g (a : Nat)).kind = 0 := by omega
        rw [if_neg hne] at hk0 ⊢
        obtain ⟨m', es, h1, h2, ⟨h3, h4⟩, h5⟩ := told_fold g an n f (d + 1) (fun a m out b => tell_told g an n hT f a m out (d + 1) b) (Ar.at' g (a : Nat)).kids (a + 1) (out ++ [e0]) (max b (d + 1)) hp (by omega) (by omega)
        rw [h1, h2, h5]
        obtain ⟨cl, hcl, hcd, hcm, hcn⟩ : ∃ cl, closing (Ar.at' g (a : Nat)).kind = cl ∧ Ev.dsum (Ev.kinds cl) = -1 ∧ Ev.dmax (Ev.kinds cl) = 0 ∧ Ev.nodesOf (Ev.kinds cl) = 0 := by
          rcases hk12 with h | h
          · exact ⟨[bare 3], by rw [h]; rfl, rfl, rfl, rfl⟩
          · exact ⟨[bare 5], by rw [h]; rfl, rfl, rfl, rfl⟩
        have hone : Ev.dsum (Ev.kinds [e0]) = 1 ∧ Ev.nodesOf (Ev.kinds [e0]) = 1 ∧ ∀ l, Ev.dmax (Ev.kinds ([e0] ++ l)) = max 0 (1 + Ev.dmax (Ev.kinds l)) := by
          have e1 : Ev.kinds [e0] = [e0.kind] := rfl
          have e2 : ∀ l, Ev.kinds ([e0] ++ l) = e0.kind :: Ev.kinds l := fun l => rfl
          rcases hk12 with h | h
          · rw [if_pos h] at hk0
            rw [e1, hk0]
            exact ⟨rfl, rfl, fun l => by rw [e2, hk0]; rfl⟩
          · rw [if_neg (by omega)] at hk0
            rw [e1, hk0]
            exact ⟨rfl, rfl, fun l => by rw [e2, hk0]; rfl⟩
        have hdn := Ev.dmax_nonneg (Ev.kinds es)
        rw [hcl]
        refine ⟨m', [e0] ++ (es ++ cl), rfl, by simp, ⟨?_, ?_⟩, ?_⟩
        · rw [kinds_app, Ev.dsum_app, kinds_app, Ev.dsum_app, h3, hcd, hone.1]; rfl
        · rw [kinds_app, Ev.nodes_app, kinds_app, Ev.nodes_app, hcn, hone.2.1]
          have hs : kidsTo g (a + 1) = kidsTo g a + (Ar.at' g (a : Nat)).kids.length := rfl
          omega
        · rw [hone.2.2, kinds_app, Ev.dmax_app, h3, hcm]
          congr 1
          omega
/-- of a graph in its normal form -/
structure InOrder (n : List Ar.Nd) : Prop where
  order : Ar.meet (n.length + 1) n 0 [] = List.range n.length
  tell : ∀ a, a < n.length → Tellable (Ar.at' n (a : Nat))
theorem normal_inOrder (g : List Ar.Nd) (hr : Ar.right g = true) : InOrder (Ar.normal g) := by
  have hn := Ar.normal_right g hr
  refine ⟨?_, fun a ha => ?_⟩
  · have h := Ar.order_normal g hr
    unfold Ar.order at h
    rw [if_pos hn] at h
    exact h
  · rw [Ar.at_mem _ a ha]
    exact may_tell ((Ar.right_parts hn).1 _ (List.getElem_mem ha))
theorem told_all (n : List Ar.Nd) (an : List (List UInt8)) (h : InOrder n) :
    ∃ es, Fl.tell (n.length + 1) n an 0 (0, []) = (n.length, es) ∧ Told n 1 0 n.length es ∧ deep (n.length + 1) n 0 1 (0, 0) = (n.length, Ev.dmax (Ev.kinds es)) := by
  have hp : Ar.meet (n.length + 1) n 0 (List.range 0) <+: List.range n.length := by
    show Ar.meet (n.length + 1) n 0 [] <+: _
    rw [h.order]
    exact List.prefix_refl _
  obtain ⟨m', es, h1, h2, h3, h4⟩ := tell_told n an n.length h.tell (n.length + 1) 0 0 [] 0 0 hp (by omega) (by omega)
  have h1 : Ar.meet (n.length + 1) n 0 [] = List.range m' := h1
  rw [h.order] at h1
  obtain rfl : n.length = m' := by have := congrArg List.length h1; simpa using this
  refine ⟨es, by rw [h2]; rfl, h3, ?_⟩
  have h4 : deep (n.length + 1) n 0 1 (0, 0) = (n.length, max 0 (0 + Ev.dmax (Ev.kinds es))) := h4
  rw [h4]
  have := Ev.dmax_nonneg (Ev.kinds es)
  congr 1
  omega
theorem doc_nodes (n : List Ar.Nd) (h : InOrder n) : Ev.nodesOf (Ev.kinds (docN n)) = 1 + kidsTo n n.length := by
  obtain ⟨es, h1, ⟨_, h2⟩, _⟩ := told_all n (anchors n) h
  have hd : docN n = [bare 0] ++ (es ++ [bare 1]) := by unfold docN; rw [h1]; rfl
  rw [hd, kinds_app, Ev.nodes_app, kinds_app, Ev.nodes_app]
  show 0 + (_ + 0) = _
  have : kidsTo n 0 = 0 := rfl
  omega
theorem doc_depth (n : List Ar.Nd) (h : InOrder n) (h0 : 0 < n.length) : Ev.dmax (Ev.kinds (docN n)) = deepN n := by
  obtain ⟨es, h1, ⟨hs, _⟩, h2⟩ := told_all n (anchors n) h
  have hd : docN n = [bare 0] ++ (es ++ [bare 1]) := by unfold docN; rw [h1]; rfl
  unfold deepN
  rw [if_neg (by omega), h2, hd, kinds_app, Ev.dmax_app, kinds_app, Ev.dmax_app, hs]
  show max 0 (0 + max (Ev.dmax (Ev.kinds es)) (0 + 0)) = _
  have := Ev.dmax_nonneg (Ev.kinds es)
  simp only
  omega
end Fl
end Go.Proofs.YtbimjdlkffbncaaDoor
namespace Go.Proofs.YtbimjdlkffbncaaDoor
namespace Fl
/-- what was told ahead stays ahead -/
theorem tell_app (g : List Ar.Nd) (an : List (List UInt8)) (o : List Ev.E) : ∀ (f a m : Nat) (out : List Ev.E), tell f g an a (m, o ++ out) = ((tell f g an a (m, out)).1, o ++ (tell f g an a (m, out)).2)
  | 0, _, _, _ => rfl
  | f + 1, a, m, out => by
    have key : ∀ (ks : List Int) (s : Nat × List Ev.E), ks.foldl (fun s k => tell f g an k.toNat s) (s.1, o ++ s.2) = ((ks.foldl (fun s k => tell f g an k.toNat s) s).1, o ++ (ks.foldl (fun s k => tell f g an k.toNat s) s).2) := by
      intro ks
      induction ks with
      | nil => intro s; rfl
      | cons k t ih =>
        intro s
        rw [List.foldl_cons, List.foldl_cons]
        obtain ⟨sm, so⟩ := s
        rw [show tell f g an k.toNat ((sm, so).1, o ++ (sm, so).2) = _ from tell_app g an o f k.toNat sm so]
        exact ih _
    unfold tell
    by_cases h : a < m
    · rw [if_pos h, if_pos h, List.append_assoc]
    · rw [if_neg h, if_neg h]
      have h1 := key (Ar.at' g a).kids (m + 1, out ++ [anch (an.getD a []) (event (Ar.at' g a))])
      simp only at h1 ⊢
      rw [List.append_assoc, h1, List.append_assoc]
end Fl
open Go.RowKit Go.Maps

set_option maxHeartbeats 8000000 in
set_option maxRecDepth 100000 in
theorem appendDocument_any (oa : Option Addr) (oc : Nat) (gv : Value) (out : List Ev.E) (g : List Ar.Nd) (B : Nat) (w : World) (hr : Ar.right g = true) (ho : OwnE w B (.slice oa out.length oc) out) (hg : RdG w w.heap.size gv g) (hgl : g.length ≤ 1000000) (hfi : ∀ x ∈ g, Fine x ∧ x.text.length ≤ 100000) (hl : out.length ≤ 100000000000) (hB6 : 4 ≤ B) (hBw : B ≤ w.heap.size) (hE : Env w) :
    Calls Tryd.prog 60 #[.slice oa out.length oc, gv] w fun e w' => (∃ u, e = .returned u ∧ OwnE w' B u (out ++ Fl.doc g)) ∧ Below B w w' := by
  have hn := Ar.normal_right g hr
  have hfn : ∀ x ∈ Ar.normal g, Fine x ∧ x.text.length ≤ 100000 := by
    intro x hx
    refine ⟨normal_fine g (fun y hy => (hfi y hy).1) x hx, ?_⟩
    unfold Ar.normal at hx
    rw [List.mem_map] at hx
    obtain ⟨a, ha, rfl⟩ := hx
    have hm := (Ar.order_nb g).2 a ha
    unfold Ar.renum
    rw [Ar.at_get g a (by omega) (by simpa using hm)]
    exact (hfi _ (List.getElem_mem (show ((a : Nat) : Int).toNat < g.length by simpa using hm))).2
  have hb0 := bnew w (.cells #[.slice oa out.length oc] 29)
  have cN := Lib.hid (newTeller_any gv g (w.alloc (.cells #[.slice oa out.length oc] 29)) ((hg.below hb0).mono hb0.size) hgl (fun x hx => (hfi x hx).1) (hE.below hb0))
  unfold Fl.doc
  generalize Ar.normal g = n at *
  obtain ⟨hl0, hl2⟩ := right_len hn
  have hkids : Ar.Kids n := right_kids hn
  have hal : (Fl.anchors n).length = n.length := by unfold Fl.anchors; rw [Fl.namesGo_len, Fl.addRoot_len, Ar.ins_len n hn]
  have hdoc : Fl.docN n = (Fl.bare 0 :: (Fl.tell (n.length + 1) n (Fl.anchors n) 0 (0, [])).2) ++ [Fl.bare 1] := rfl
  have hta := Fl.tell_app n (Fl.anchors n) (out ++ [Fl.bare 0]) (n.length + 1) 0 0 []
  rw [List.append_nil] at hta
  have hTL := Fl.tell_len n (Fl.anchors n) 1000000 hkids (fun a ha => by rw [Ar.at_get n a (by omega) (by simpa using ha)]; exact (hfn _ (List.getElem_mem _)).1.kids) (n.length + 1) 0 (0, []) hl0
  generalize Fl.tell (n.length + 1) n (Fl.anchors n) 0 (0, []) = R at *
  obtain ⟨rm, es⟩ := R
  simp only at hdoc hta hTL
  rw [hdoc]
  have hn2 : (n.length - 0) * (1000000 + 2) ≤ 2000 * 1000002 := Nat.mul_le_mul (by omega) (by omega)
  have hes : es.length ≤ 2000 * 1000002 + 1 := by simp only [List.length_nil] at hTL; omega
  have hlen : ((out ++ [Fl.bare 0]) ++ es).length = out.length + 1 + es.length := by rw [List.length_append, fl_len]
  have HES := Lib.hid hes
  have HL := Lib.hid hl
  clear hTL hn2 hes hl
  have HE := Lib.hid hE
  have HO := Lib.hid ho
  have g0 := alloc_blk w (.cells #[.slice oa out.length oc] 29)
  have G0 := Lib.hid g0
  have HFN := Lib.hid hfn
  have HKI := Lib.hid hkids
  clear hg hfi hE ho g0 hfn hkids
  go_enter Tryd.func60, Tryd.ntmps60
  go_wp2_with (first
    | (go_at_call 63; refine cN.out.mono ?_; rintro e w1 ⟨⟨b, ga, gc, rfl, hb, hG, hbw, hO⟩, hb1⟩; have hbt := bnew w1 (.cells #[.pointer (some ⟨b, 0, none⟩)] 92); have cA := Lib.hid (anchors_any b ga gc (.int .i64 0) n (w1.alloc (.cells #[.pointer (some ⟨b, 0, none⟩)] 92)) hn (blk_below hb hbt) ((hG.below (hbt.mono (Nat.le_of_lt (Array.getElem?_eq_some_iff.1 hb).1))).mono (Nat.le_trans (Nat.le_of_lt (Array.getElem?_eq_some_iff.1 hb).1) hbt.size)) (fun x hx => (HFN.out x hx).1) (HE.out.below (bthen (bthen (bnew w _) hb1) hbt))))
    | (go_at_call 95; refine cA.out.mono ?_; rintro e w3 ⟨⟨ab, rfl, habw, hab⟩, hb3⟩; have b35 := bthen (bnew w3 (.cells #[.slice (some ⟨ab, 0, none⟩) n.length n.length] 73)) (bnew (w3.alloc (.cells #[.slice (some ⟨ab, 0, none⟩) n.length n.length] 73)) (.cells #[.func (.func 96) #[] #[.pointer (some ⟨w1.heap.size, 0, none⟩), .pointer (some ⟨w.heap.size, 0, none⟩), .pointer (some ⟨w3.heap.size, 0, none⟩), .pointer (some ⟨w3.heap.size + 1, 0, none⟩)]] 109)); have hF5 := alloc_blk (w3.alloc (.cells #[.slice (some ⟨ab, 0, none⟩) n.length n.length] 73)) (.cells #[.func (.func 96) #[] #[.pointer (some ⟨w1.heap.size, 0, none⟩), .pointer (some ⟨w.heap.size, 0, none⟩), .pointer (some ⟨w3.heap.size, 0, none⟩), .pointer (some ⟨w3.heap.size + 1, 0, none⟩)]] 109); (rw [World.size_alloc] at hF5); have HB5 := Lib.hid (bthen (bthen (bthen (bthen hb0 hb1) hbt) hb3) b35); have HO5 := Lib.hid (blk_below (blk_below (blk_below (blk_below G0.out hb1) hbt) hb3) b35); have HD5 := Lib.hid (TellAt.mk (m := 0) (blk_below (blk_below (alloc_blk w1 _) hb3) b35) (blk_below (blk_below (blk_below hb hbt) hb3) b35) ⟨_, HO5.out, (((HO.out.below hb0).below hb1).below hbt).below hb3 |>.below b35⟩ (blk_below (alloc_blk w3 (.cells #[.slice (some ⟨ab, 0, none⟩) n.length n.length] 73)) (bnew (w3.alloc (.cells #[.slice (some ⟨ab, 0, none⟩) n.length n.length] 73)) (.cells #[.func (.func 96) #[] #[.pointer (some ⟨w1.heap.size, 0, none⟩), .pointer (some ⟨w.heap.size, 0, none⟩), .pointer (some ⟨w3.heap.size, 0, none⟩), .pointer (some ⟨w3.heap.size + 1, 0, none⟩)]] 109))) (blk_below hab b35) hF5 : TellAt ((w3.alloc (.cells #[.slice (some ⟨ab, 0, none⟩) n.length n.length] 73)).alloc (.cells #[.func (.func 96) #[] #[.pointer (some ⟨w1.heap.size, 0, none⟩), .pointer (some ⟨w.heap.size, 0, none⟩), .pointer (some ⟨w3.heap.size, 0, none⟩), .pointer (some ⟨w3.heap.size + 1, 0, none⟩)]] 109)) ga gc n.length ab b w1.heap.size w.heap.size w3.heap.size (w3.heap.size + 1) B 0 (Fl.anchors n) out); have HG5 := Lib.hid (((hO.below hbt).below hb3).below b35); have q2 := cell_blk HO5.out 0 _ rfl; have z2 := frozen_blk HO5.out 0; have HX6 := Lib.hid (bnew ((w3.alloc (.cells #[.slice (some ⟨ab, 0, none⟩) n.length n.length] 73)).alloc (.cells #[.func (.func 96) #[] #[.pointer (some ⟨w1.heap.size, 0, none⟩), .pointer (some ⟨w.heap.size, 0, none⟩), .pointer (some ⟨w3.heap.size, 0, none⟩), .pointer (some ⟨w3.heap.size + 1, 0, none⟩)]] 109)) (.cells #[.int .i64 0, .string ⟨#[]⟩, .string ⟨#[]⟩, .string ⟨#[]⟩, .bool false] 40)); have hbb := hbw; (rw [World.size_alloc] at hbb); clear hab hb3 b35 hF5 hb hG hO hb1)
    | (at_builtin; go_loud (refine wpList_pushE (by rfl) (.tmp 13) (.tmp 15) (by rfl) B (.slice oa out.length oc) out (Fl.bare 0) _ _ (0, 0) (by rfl) (by rfl) ?_ ?_ ?_ ?_ ?_; (exact new_at _ _ _ (by rw [World.size_alloc, World.size_alloc])); (exact (HO.out.below HB5.out).below HX6.out); (have := HL.out; omega); (have h1 := HB5.out.size; have h2 := HX6.out.size; omega); intro v7 w7 ho7 hk7 hb7; obtain ⟨va, vc, rfl⟩ := own_slice ho7; have HO7 := Lib.hid (hk7.blk (blk_below HO5.out HX6.out) (by decide)); have y7 := cell_blk HO7.out 0 _ rfl; have z7 := frozen_blk HO7.out 0; have HT8 := Lib.hid (HD5.out.pushed HX6.out (.slice va (out.length + 1) vc) (out ++ [Fl.bare 0]) (by have h := ho7; rw [fl_len] at h; exact h) hk7 HO5.out hBw (Nat.le_trans hBw HB5.out.size)); have HG8 := Lib.hid (HG5.out.keep HT8.out.2 (by decide) (by decide)); have y8 := cell_blk HT8.out.1.fBox 0 _ rfl; have HE8 := Lib.hid (HE.out.keep hB6 ((HB5.out.mono hBw).trans HT8.out.2.below)); have cT := Lib.hid (tellGo_any n ga gc n.length ab b w1.heap.size w.heap.size w3.heap.size (w3.heap.size + 1) B _ (Fl.anchors n) rfl hl2 HKI.out HFN.out hal (by omega) hBw hB6 (n.length + 1) 0 0 (out ++ [Fl.bare 0]) _ hl0 (Nat.zero_le _) (by omega) (by rw [fl_len]; have := HL.out; omega) HT8.out.1 HG8.out HE8.out (Nat.le_trans hBw (Nat.le_trans HB5.out.size HT8.out.2.size))); rw [hta] at cT; clear hk7 hb7 ho7))
    | (go_at_call 96; refine cT.out.mono ?_; rintro e w9 ⟨rfl, hD9, hK9, _⟩; obtain ⟨v9, p1, p2⟩ := hD9.oBox; obtain ⟨oa9, oc9, rfl⟩ := own_slice p2; (rw [hlen] at p1 p2); have q9 := cell_blk p1 0 _ rfl; have HP2 := Lib.hid p2; have HX9 := Lib.hid (bnew w9 (.cells #[.int .i64 1, .string ⟨#[]⟩, .string ⟨#[]⟩, .string ⟨#[]⟩, .bool false] 40)); have HK9 := Lib.hid hK9; clear hK9 p2 hD9)
    | (at_builtin; go_loud (refine wpList_pushE (by rfl) (.tmp 19) (.tmp 21) (by rfl) B (.slice oa9 (out.length + 1 + es.length) oc9) ((out ++ [Fl.bare 0]) ++ es) (Fl.bare 1) _ _ (0, 0) (by rfl) (by rfl) ?_ ?_ ?_ ?_ ?_; (exact new_at _ _ _ rfl); (exact HP2.out.below HX9.out); (rw [List.length_append, fl_len]; have h1 := HL.out; have h2 := HES.out; omega); (have h1 := HK9.out.size; have h2 := HT8.out.2.size; have h3 := HB5.out.size; have h4 := HX9.out.size; omega); intro v10 w10 ho10 hk10 hb10)))
  have hB9 : B ≤ w9.heap.size := Nat.le_trans hBw (Nat.le_trans HB5.out.size (Nat.le_trans HT8.out.2.size HK9.out.size))
  have hfin := ((((HB5.out.mono hBw).trans HT8.out.2.below).trans HK9.out.below).trans (HX9.out.mono hB9)).trans hk10.below
  have e : ((out ++ [Fl.bare 0]) ++ es) ++ [Fl.bare 1] = out ++ ((Fl.bare 0 :: es) ++ [Fl.bare 1]) := by simp
  rw [e] at ho10
  go_ret
  exact ⟨⟨_, rfl, ho10⟩, hfin⟩
end Go.Proofs.YtbimjdlkffbncaaDoor
