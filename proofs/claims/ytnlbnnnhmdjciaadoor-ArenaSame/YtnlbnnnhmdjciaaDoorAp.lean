/-
  The walk of Print.
-/
import Derived.Test.YtnlbnnnhmdjciaaDoorAo
import Derived.Test.YtnlbnnnhmdjciaaDoorBc
namespace Go.Proofs.YtnlbnnnhmdjciaaDoor
namespace Ar
theorem mayBe_kind {g : List Nd} {x : Nd} (h : mayBe g x = true) : 0 ≤ x.kind ∧ x.kind < 3 := by
  unfold mayBe may1 at h
  rw [Bool.and_eq_true] at h
  have h := h.2
  split at h
  · omega
  · split at h
    · omega
    · split at h
      · omega
      · cases h
/-- what a normal form holds is small enough to be told -/
structure Told (x : Nd) : Prop where
  k0 : 0 ≤ x.kind
  k3 : x.kind < 3
  tag : x.tag.length ≤ 50000
  text : x.text.length ≤ 50000
  kids : x.kids.length ≤ 1000000
  lim : ∀ k ∈ x.kids, 0 ≤ k ∧ k ≤ 1000000
theorem normal_told (g : List Nd) (hf : ∀ x ∈ g, Fine x) (hs : ∀ x ∈ g, x.tag.length ≤ 50000 ∧ x.text.length ≤ 50000) : ∀ x ∈ normal g, Told x := by
  intro x hx
  have hx' := hx
  unfold normal at hx
  obtain ⟨a, ha, rfl⟩ := List.mem_map.1 hx
  have hr : right g = true := order_right (fun e => by rw [e] at ha; cases ha)
  have hlt := (order_nb g).2 a ha
  have hm := (right_parts (normal_right g hr)).1 _ hx'
  obtain ⟨k0, k3⟩ := mayBe_kind hm
  have hk := mayBe_kids hm
  have hl := right_len (normal_right g hr)
  have ht : (at' g a).tag.length ≤ 50000 ∧ (at' g a).text.length ≤ 50000 ∧ (at' g a).kids.length ≤ 1000000 := by
    rw [at_mem g a hlt]
    exact ⟨(hs _ (List.getElem_mem hlt)).1, (hs _ (List.getElem_mem hlt)).2, (hf _ (List.getElem_mem hlt)).kids⟩
  refine ⟨k0, k3, ht.1, ht.2.1, ?_, fun k hkk => ?_⟩
  · unfold renum; simp only [List.length_map]; exact ht.2.2
  · have := hk k hkk
    unfold isNode at this
    simp only [Bool.and_eq_true, decide_eq_true_eq] at this
    omega
theorem kids_len : ∀ ks : List Int, (∀ k ∈ ks, 0 ≤ k ∧ k ≤ 1000000) → (ks.flatMap kidW).length ≤ 22 * ks.length
  | [], _ => by simp
  | k :: t, h => by
    have h1 := kids_len t (fun q hq => h q (List.mem_cons_of_mem _ hq))
    have h2 := h k List.mem_cons_self
    have h3 := itoa_len k (by omega) (by omega)
    have e : kidW k = 32 :: Lib.itoa k := rfl
    rw [List.flatMap_cons, List.length_append, e, List.length_cons, List.length_cons]
    omega
theorem line_len (i : Nat) (x : Nd) (hi : i ≤ 1000000) (h : Told x) : (line i x).length ≤ 30000000 := by
  have h1 := itoa_len (i : Int) (by omega) (by omega)
  have h2 := tword_len x.tag
  have h3 := quote_len x.text
  have h4 := kids_len x.kids h.lim
  have h5 := h.tag
  have h6 := h.text
  have h7 := h.kids
  unfold line headW
  split <;> simp only [List.length_append, List.length_cons, List.length_nil] <;> omega
theorem linesFrom_drop (n : List Nd) (j : Nat) (h : j < n.length) : linesFrom j (n.drop j) = line j n[j] ++ linesFrom (j + 1) (n.drop (j + 1)) := by
  rw [List.drop_eq_getElem_cons h]; rfl
end Ar
open Go.RowKit Go.Maps

set_option maxHeartbeats 4000000 in
set_option maxRecDepth 100000 in
theorem print_any (v : Value) (g : List Ar.Nd) (w : World) (hg : RdG w w.heap.size v g) (hgl : g.length ≤ 1000000) (hfi : ∀ x ∈ g, Fine x) (hs : ∀ x ∈ g, x.tag.length ≤ 50000 ∧ x.text.length ≤ 50000) (hE : Env w) :
    Calls Tryd.prog 14 #[v] w fun e w' => e = .returned (.string (str (Ar.print g))) ∧ Below w.heap.size w w' := by
  have cN := Lib.hid (normal_any v g w hg hgl hfi hE)
  have HT := Lib.hid (Ar.normal_told g hfi hs)
  have HE := Lib.hid hE
  have h4 := hE.size
  have hnl : (Ar.normal g).length ≤ 2000 := by
    rw [Ar.normal_len]
    have h1 := (Ar.order_nb g).len
    cases hr : Ar.right g
    · unfold Ar.order; rw [hr, if_neg (by decide)]; simp
    · have := (right_len hr).2; omega
  obtain ⟨ANS, hANS⟩ : ∃ ANS, Ar.print g = ANS := ⟨_, rfl⟩
  rw [hANS]
  have HA : Hid ([] ++ Ar.linesFrom 0 ((Ar.normal g).drop 0) = ANS) := hANS
  clear hANS hE hfi hs
  generalize Ar.normal g = n at *
  obtain ⟨ga, gc, rfl, _, _⟩ := hg
  go_enter Tryd.func14, Tryd.ntmps14
  go_wp2_with (go_at_call 15; refine cN.out.mono ?_; rintro e w1 ⟨⟨u, rfl, hu⟩, hb1⟩; have HR := Lib.hid hu.rd; obtain ⟨na, nc, rfl⟩ := hu.form)
  have hs1 := hb1.size
  go_loopg [3, 9] n.length (fun q ov p wr => ∃ (j : Nat) (bb : List UInt8), j ≤ n.length ∧ q = n.length - j ∧ p = .int .i64 j ∧ Own wr w1.heap.size ov bb ∧ Hid (bb ++ Ar.linesFrom j (n.drop j) = ANS) ∧ bb.length ≤ 30000000 * j ∧ Below w1.heap.size w1 wr)
  case atStart => exact ⟨0, [], by omega, by omega, rfl, own_nil _ _, HA, by simp, Below.refl _ _⟩
  case round =>
    obtain ⟨j, bb, hj, rfl, rfl, hown, HK, hbl, hbw⟩ := hrel
    clear HA
    obtain ⟨va, vc, rfl⟩ := own_form hown
    have HO := Lib.hid hown
    have HB := Lib.hid hbw
    have hBr := hbw.size
    clear hown hbw
    by_cases hlt : j < n.length
    · have hK := HK.out
      rw [Ar.linesFrom_drop n j hlt] at hK
      obtain ⟨_, _, hv, _, hcl⟩ := HR.out.below HB.out
      cases hv
      obtain ⟨gg, rfl, hgg, hcl⟩ := hcl (by omega)
      obtain ⟨n0, n1, n2, ⟨a, c, n3, n4⟩⟩ := hcl j hlt
      have ht := HT.out _ (List.getElem_mem hlt)
      have hll := Ar.line_len j _ (by omega) ht
      clear hcl HK
      generalize n[j] = x at *
      have hK2 : (bb ++ Ar.line j x) ++ Ar.linesFrom (j + 1) (n.drop (j + 1)) = ANS := by rw [List.append_assoc]; exact hK
      have HK2 := Lib.hid hK2
      clear hK hK2
      have b1 := bnew wr (.cells #[.int .i64 x.kind, .string (str x.tag), .string (str x.text), .slice a x.kids.length c] 37)
      have k1 := alloc_blk wr (.cells #[.int .i64 x.kind, .string (str x.tag), .string (str x.text), .slice a x.kids.length c] 37)
      obtain ⟨q0, q1, q2, q3⟩ := quad k1
      have hz : wr.heap.size ≤ (wr.alloc (.cells #[.int .i64 x.kind, .string (str x.tag), .string (str x.text), .slice a x.kids.length c] 37)).heap.size := by rw [World.size_alloc]; omega
      have cA := Lib.hid (appendLine_any w1.heap.size (.slice va bb.length vc) bb j x a c (wr.alloc (.cells #[.int .i64 x.kind, .string (str x.tag), .string (str x.text), .slice a x.kids.length c] 37)) (own_alloc HO.out _) (n4.below (b1.mono hBr)) ht.k0 ht.k3 ht.tag ht.text ht.kids ht.lim (by omega) (by omega) (by omega) (by omega) (HE.out.below (hb1.trans ((HB.out.trans (b1.mono hBr)).mono hs1))))
      have HB1 := Lib.hid (HB.out.trans (b1.mono hBr))
      clear n4 b1 k1
      go_wp2_with (go_at_call 27; refine cA.out.mono ?_; rintro e w2 ⟨v2, rfl, ho2, hk2⟩)
      have HO2 := Lib.hid ho2
      have HB2 := Lib.hid (HB1.out.trans hk2.1)
      clear ho2 hk2
      go_roundg (n.length - (j + 1))
      case measure => omega
      case rel => exact ⟨j + 1, _, by omega, rfl, by go_num, HO2.out, HK2, by rw [List.length_append]; omega, HB2.out⟩
    · have hK := HK.out
      rw [List.drop_eq_nil_of_le (by omega)] at hK
      have hK : bb ++ [] = ANS := hK
      rw [List.append_nil] at hK
      subst hK
      have hcv := own_string HO.out
      clear HK
      go_wp2
      go_ret
      exact ⟨rfl, hb1.trans (HB.out.mono hs1)⟩
end Go.Proofs.YtnlbnnnhmdjciaaDoor
