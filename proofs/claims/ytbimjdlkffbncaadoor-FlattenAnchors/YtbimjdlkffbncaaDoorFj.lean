/-
  Rows of graphs that are read; the walks of ContainsFunc and Events.
-/
import Derived.Test.YtbimjdlkffbncaaDoorFi
namespace Go.Proofs.YtbimjdlkffbncaaDoor
namespace Fl
theorem doc_len (g : List Ar.Nd) (hr : Ar.right g = true) (hf : ∀ x ∈ g, Fine x) : (doc g).length ≤ 2000004003 := by
  have hn := Ar.normal_right g hr
  have hfn := normal_fine g hf
  unfold doc
  generalize Ar.normal g = n at *
  obtain ⟨hl0, hl2⟩ := right_len hn
  have hTL := tell_len n (anchors n) 1000000 (right_kids hn) (fun a ha => by rw [Ar.at_get n a (by omega) (by simpa using ha)]; exact (hfn _ (List.getElem_mem _)).kids) (n.length + 1) 0 (0, []) hl0
  have hn2 : (n.length - 0) * (1000000 + 2) ≤ 2000 * 1000002 := Nat.mul_le_mul (by omega) (by omega)
  unfold docN
  simp only [List.length_nil, List.length_append, List.length_cons] at hTL ⊢
  omega
end Fl
open Go.RowKit Go.Maps
/-- a slice that reads as a row of graphs -/
def RdGG (w : World) (B : Nat) (v : Value) (l : List (List Ar.Nd)) : Prop :=
  ∃ a c, v = .slice a l.length c ∧ l.length ≤ c ∧ (0 < l.length → ∃ g o, a = some ⟨g, o, none⟩ ∧ g < B ∧ ∀ j (hj : j < l.length), ∃ u, w.cell? ⟨g, o + j, none⟩ = some u ∧ RdG w B u l[j])
theorem RdGG.below {w w' : World} {B : Nat} {v : Value} {l : List (List Ar.Nd)} (h : RdGG w B v l) (hb : Below B w w') : RdGG w' B v l := by
  obtain ⟨a, c, hv, hc, h1⟩ := h
  refine ⟨a, c, hv, hc, fun h0 => ?_⟩
  obtain ⟨g, o, ha, hg, hcl⟩ := h1 h0
  refine ⟨g, o, ha, hg, fun j hj => ?_⟩
  obtain ⟨u, h2, h3⟩ := hcl j hj
  exact ⟨u, (hb.cell (p := ⟨g, o + j, none⟩) hg).trans h2, h3.below hb⟩
theorem RdGG.mono {w : World} {B C : Nat} {v : Value} {l : List (List Ar.Nd)} (h : RdGG w B v l) (hb : B ≤ C) : RdGG w C v l := by
  obtain ⟨a, c, hv, hc, h1⟩ := h
  refine ⟨a, c, hv, hc, fun h0 => ?_⟩
  obtain ⟨g, o, ha, hg, hcl⟩ := h1 h0
  refine ⟨g, o, ha, Nat.lt_of_lt_of_le hg hb, fun j hj => ?_⟩
  obtain ⟨u, h2, h3⟩ := hcl j hj
  exact ⟨u, h2, h3.mono hb⟩

set_option maxHeartbeats 4000000 in
set_option maxRecDepth 100000 in
theorem indexFuncG1_any (P : List Ar.Nd → Bool) (v : Value) (l : List (List Ar.Nd)) (w : World) (h : RdGG w w.heap.size v l) (hl : l.length ≤ 1000000)
    (hf : ∀ g ∈ l, ∀ gv W, RdG W W.heap.size gv g → Below w.heap.size w W → Calls Tryd.prog 58 #[gv] W fun e w' => e = .returned (.bool (P g)) ∧ Below W.heap.size W w') :
    Calls Tryd.prog 94 #[v, .func (.func 58) #[] #[]] w fun e w' => (∃ k : Int, e = .returned (.int .i64 k) ∧ decide (0 ≤ k) = l.any P) ∧ Below w.heap.size w w' := by
  obtain ⟨a, c, rfl, hc, hcl⟩ := h
  have HC := Lib.hid hcl
  have HF := Lib.hid hf
  obtain ⟨ANS, hANS⟩ : ∃ ANS, l.any P = ANS := ⟨_, rfl⟩
  rw [hANS]
  have HA : Hid ((l.drop 0).any P = ANS) := hANS
  clear hANS hcl hf
  go_enter Tryd.func94, Tryd.ntmps94
  go_wp2
  go_loopg [8] l.length (fun q i wr => ∃ j : Nat, j ≤ l.length ∧ q = l.length - j ∧ i = .int .i64 j ∧ Hid ((l.drop j).any P = ANS) ∧ Hid (Below w.heap.size w wr))
  case atStart => exact ⟨0, by omega, by omega, rfl, HA, Lib.hid (Below.refl _ _)⟩
  case round =>
    obtain ⟨j, hj, rfl, rfl, HI, HB⟩ := hrel
    clear HA
    by_cases hjt : j < l.length
    · have hI := HI.out
      rw [List.drop_eq_getElem_cons hjt, List.any_cons] at hI
      obtain ⟨g, o, rfl, hg, hcl⟩ := HC.out (by omega)
      obtain ⟨u, h2, h3⟩ := hcl j hjt
      have h2 := (HB.out.cell (p := ⟨g, o + j, none⟩) hg).trans h2
      have cF := Lib.hid (HF.out _ (List.getElem_mem hjt) u wr ((h3.below HB.out).mono HB.out.size) HB.out)
      clear hcl h3
      generalize l[j] = gj at *
      cases hp : P gj
      · rw [hp, Bool.false_or] at hI
        rw [hp] at cF
        have HI := Lib.hid hI
        clear hI
        go_wp2_with (go_at_call 58; refine cF.out.mono ?_; rintro e w2 ⟨rfl, hb2⟩)
        go_roundg (l.length - (j + 1))
        case measure => omega
        case rel => exact ⟨j + 1, by omega, rfl, by go_num, HI, Lib.hid (bthen HB.out hb2)⟩
      · rw [hp, Bool.true_or] at hI
        rw [hp] at cF
        subst hI
        go_wp2_with (go_at_call 58; refine cF.out.mono ?_; rintro e w2 ⟨rfl, hb2⟩)
        go_ret
        exact ⟨⟨_, rfl, by simp⟩, bthen HB.out hb2⟩
    · have hI := HI.out
      rw [List.drop_eq_nil_of_le (by omega)] at hI
      subst hI
      go_wp2
      go_ret
      exact ⟨⟨_, rfl, by simp⟩, HB.out⟩

set_option maxHeartbeats 4000000 in
theorem containsFuncG1_any (P : List Ar.Nd → Bool) (v : Value) (l : List (List Ar.Nd)) (w : World) (h : RdGG w w.heap.size v l) (hl : l.length ≤ 1000000)
    (hf : ∀ g ∈ l, ∀ gv W, RdG W W.heap.size gv g → Below w.heap.size w W → Calls Tryd.prog 58 #[gv] W fun e w' => e = .returned (.bool (P g)) ∧ Below W.heap.size W w') :
    Calls Tryd.prog 57 #[v, .func (.func 58) #[] #[]] w fun e w' => e = .returned (.bool (l.any P)) ∧ Below w.heap.size w w' := by
  have cI := Lib.hid (indexFuncG1_any P v l w h hl hf)
  generalize l.any P = b at *
  clear h hf
  go_enter Tryd.func57, Tryd.ntmps57
  go_wp2_with (go_at_call 94; refine cI.out.mono ?_; rintro e w1 ⟨⟨k, rfl, hk⟩, hb1⟩)
  go_ret
  exact ⟨by rw [← hk]; rfl, hb1⟩
set_option maxHeartbeats 4000000 in
set_option maxRecDepth 100000 in
theorem indexFuncG2_any (P : List Ar.Nd → Bool) (v : Value) (l : List (List Ar.Nd)) (w : World) (h : RdGG w w.heap.size v l) (hl : l.length ≤ 1000000)
    (hf : ∀ g ∈ l, ∀ gv W, RdG W W.heap.size gv g → Below w.heap.size w W → Calls Tryd.prog 59 #[gv] W fun e w' => e = .returned (.bool (P g)) ∧ Below W.heap.size W w') :
    Calls Tryd.prog 94 #[v, .func (.func 59) #[] #[]] w fun e w' => (∃ k : Int, e = .returned (.int .i64 k) ∧ decide (0 ≤ k) = l.any P) ∧ Below w.heap.size w w' := by
  obtain ⟨a, c, rfl, hc, hcl⟩ := h
  have HC := Lib.hid hcl
  have HF := Lib.hid hf
  obtain ⟨ANS, hANS⟩ : ∃ ANS, l.any P = ANS := ⟨_, rfl⟩
  rw [hANS]
  have HA : Hid ((l.drop 0).any P = ANS) := hANS
  clear hANS hcl hf
  go_enter Tryd.func94, Tryd.ntmps94
  go_wp2
  go_loopg [8] l.length (fun q i wr => ∃ j : Nat, j ≤ l.length ∧ q = l.length - j ∧ i = .int .i64 j ∧ Hid ((l.drop j).any P = ANS) ∧ Hid (Below w.heap.size w wr))
  case atStart => exact ⟨0, by omega, by omega, rfl, HA, Lib.hid (Below.refl _ _)⟩
  case round =>
    obtain ⟨j, hj, rfl, rfl, HI, HB⟩ := hrel
    clear HA
    by_cases hjt : j < l.length
    · have hI := HI.out
      rw [List.drop_eq_getElem_cons hjt, List.any_cons] at hI
      obtain ⟨g, o, rfl, hg, hcl⟩ := HC.out (by omega)
      obtain ⟨u, h2, h3⟩ := hcl j hjt
      have h2 := (HB.out.cell (p := ⟨g, o + j, none⟩) hg).trans h2
      have cF := Lib.hid (HF.out _ (List.getElem_mem hjt) u wr ((h3.below HB.out).mono HB.out.size) HB.out)
      clear hcl h3
      generalize l[j] = gj at *
      cases hp : P gj
      · rw [hp, Bool.false_or] at hI
        rw [hp] at cF
        have HI := Lib.hid hI
        clear hI
        go_wp2_with (go_at_call 59; refine cF.out.mono ?_; rintro e w2 ⟨rfl, hb2⟩)
        go_roundg (l.length - (j + 1))
        case measure => omega
        case rel => exact ⟨j + 1, by omega, rfl, by go_num, HI, Lib.hid (bthen HB.out hb2)⟩
      · rw [hp, Bool.true_or] at hI
        rw [hp] at cF
        subst hI
        go_wp2_with (go_at_call 59; refine cF.out.mono ?_; rintro e w2 ⟨rfl, hb2⟩)
        go_ret
        exact ⟨⟨_, rfl, by simp⟩, bthen HB.out hb2⟩
    · have hI := HI.out
      rw [List.drop_eq_nil_of_le (by omega)] at hI
      subst hI
      go_wp2
      go_ret
      exact ⟨⟨_, rfl, by simp⟩, HB.out⟩

set_option maxHeartbeats 4000000 in
theorem containsFuncG2_any (P : List Ar.Nd → Bool) (v : Value) (l : List (List Ar.Nd)) (w : World) (h : RdGG w w.heap.size v l) (hl : l.length ≤ 1000000)
    (hf : ∀ g ∈ l, ∀ gv W, RdG W W.heap.size gv g → Below w.heap.size w W → Calls Tryd.prog 59 #[gv] W fun e w' => e = .returned (.bool (P g)) ∧ Below W.heap.size W w') :
    Calls Tryd.prog 57 #[v, .func (.func 59) #[] #[]] w fun e w' => e = .returned (.bool (l.any P)) ∧ Below w.heap.size w w' := by
  have cI := Lib.hid (indexFuncG2_any P v l w h hl hf)
  generalize l.any P = b at *
  clear h hf
  go_enter Tryd.func57, Tryd.ntmps57
  go_wp2_with (go_at_call 94; refine cI.out.mono ?_; rintro e w1 ⟨⟨k, rfl, hk⟩, hb1⟩)
  go_ret
  exact ⟨by rw [← hk]; rfl, hb1⟩

theorem Env.four {w : World} (h : Env w) : 4 ≤ w.heap.size := by
  have h2 := h.pow
  unfold Lib.TabIs World.var? at h2
  rw [powG, Option.bind_some] at h2
  rcases Nat.lt_or_ge 3 w.heap.size with h3 | h3
  · exact h3
  · exfalso
    have h4 : w.heap[3]? = none := Array.getElem?_eq_none h3
    rw [h4] at h2
    cases h2
/-- a graph that can be walked -/
def Easy (g : List Ar.Nd) : Prop := g.length ≤ 1000000 ∧ ∀ x ∈ g, Fine x ∧ x.text.length ≤ 100000
set_option maxHeartbeats 2000000 in
theorem events1_any (gv : Value) (g : List Ar.Nd) (W : World) (hg : RdG W W.heap.size gv g) (he : Easy g) (hE : Env W) : Calls Tryd.prog 58 #[gv] W fun e w' => e = .returned (.bool (!Ar.right g)) ∧ Below W.heap.size W w' := by
  have cR := Lib.hid (right_any gv g W hg he.1 (fun x hx => (he.2 x hx).1) hE)
  generalize Ar.right g = b at *
  go_enter Tryd.func58, Tryd.ntmps58
  go_wp2_with (go_at_call 21; refine cR.out.mono ?_; rintro e w1 ⟨rfl, hb1⟩)
  go_ret
  exact ⟨rfl, hb1⟩
set_option maxHeartbeats 2000000 in
theorem events2_any (gv : Value) (g : List Ar.Nd) (W : World) (hg : RdG W W.heap.size gv g) (he : Easy g) (hE : Env W) : Calls Tryd.prog 59 #[gv] W fun e w' => e = .returned (.bool (decide (40 < Fl.deepOf g))) ∧ Below W.heap.size W w' := by
  have cR := Lib.hid (deep_of_any gv g W hg he.1 (fun x hx => (he.2 x hx).1) hE)
  generalize Fl.deepOf g = b at *
  go_enter Tryd.func59, Tryd.ntmps59
  go_wp2_with (go_at_call 36; refine cR.out.mono ?_; rintro e w1 ⟨rfl, hb1⟩)
  go_ret
  exact ⟨rfl, hb1⟩
/-- what Events answers -/
def EventsR (B : Nat) (o : Except Int (List Ev.E)) (e : Ending) (w' : World) : Prop := match o with
  | .error k => e = .returned (.tuple #[.slice none 0 0, .int .i64 k])
  | .ok es => ∃ u, e = .returned (.tuple #[u, .int .i64 0]) ∧ OwnE w' B u es
theorem docs_len : ∀ (l : List (List Ar.Nd)), (∀ g ∈ l, Ar.right g = true ∧ ∀ x ∈ g, Fine x) → (l.flatMap Fl.doc).length ≤ l.length * 2000004003
  | [], _ => by simp
  | g :: t, h => by
    have h1 := Fl.doc_len g (h g List.mem_cons_self).1 (h g List.mem_cons_self).2
    have h2 := docs_len t (fun x hx => h x (List.mem_cons_of_mem _ hx))
    rw [List.flatMap_cons, List.length_append, List.length_cons, Nat.succ_mul]
    omega

set_option maxHeartbeats 4000000 in
set_option maxRecDepth 100000 in
theorem events_any (v : Value) (l : List (List Ar.Nd)) (w : World) (h : RdGG w w.heap.size v l) (hl : l.length ≤ 40) (he : ∀ g ∈ l, Easy g) (hE : Env w) :
    Calls Tryd.prog 29 #[v] w fun e w' => EventsR w.heap.size (Fl.events l) e w' ∧ Below w.heap.size w w' := by
  have c1 := Lib.hid (containsFuncG1_any (fun g => !Ar.right g) v l w h (by omega) (fun g hg gv W hr hb => events1_any gv g W hr (he g hg) (hE.below hb)))
  have c2 := Lib.hid (fun W (hb : Below w.heap.size w W) => containsFuncG2_any (fun g => decide (40 < Fl.deepOf g)) v l W ((h.below hb).mono hb.size) (by omega) (fun g hg gv W' hr hb' => events2_any gv g W' hr (he g hg) ((hE.below hb).below hb')))
  unfold Fl.events
  cases h1 : l.any (fun g => !Ar.right g)
  · rw [h1] at c1
    rw [if_neg (by decide)]
    have hright : ∀ g ∈ l, Ar.right g = true := by
      intro g hg
      have := List.any_eq_false.1 h1 g hg
      simpa using this
    cases h2 : l.any (fun g => decide (40 < Fl.deepOf g))
    · rw [h2] at c2
      rw [if_neg (by decide)]
      have hdl := docs_len l (fun g hg => ⟨hright g hg, fun x hx => ((he g hg).2 x hx).1⟩)
      have HDL : Hid (∀ j, j ≤ l.length → ((l.take j).flatMap Fl.doc).length ≤ 100000000000) := by
        intro j hj
        have h3 := docs_len (l.take j) (fun g hg => ⟨hright g (List.mem_of_mem_take hg), fun x hx => ((he g (List.mem_of_mem_take hg)).2 x hx).1⟩)
        have h4 : (l.take j).length ≤ 40 := by rw [List.length_take]; omega
        have h5 : (l.take j).length * 2000004003 ≤ 40 * 2000004003 := Nat.mul_le_mul_right _ h4
        omega
      have HH := Lib.hid h
      have HR := Lib.hid hright
      have HEA := Lib.hid he
      have HE := Lib.hid hE
      have h4 := hE.four
      obtain ⟨a, c, rfl, hc, _⟩ := h
      clear hright he hE h1 h2 hdl
      go_enter Tryd.func29, Tryd.ntmps29
      go_wp2_with (first
        | (go_at_call 57; refine c1.out.mono ?_; rintro e w1 ⟨rfl, hb1⟩; have HB1 := Lib.hid hb1; clear hb1)
        | (go_at_call 57; refine (c2.out _ HB1.out).mono ?_; rintro e w2 ⟨rfl, hb2⟩; have HB2 := Lib.hid (bthen HB1.out hb2); clear hb2))
      have h2s := HB2.out.size
      go_loopg [4, 13] l.length (fun q o i wr => ∃ j : Nat, j ≤ l.length ∧ q = l.length - j ∧ i = .int .i64 j ∧ Hid (OwnE wr w.heap.size o ((l.take j).flatMap Fl.doc)) ∧ Hid (Below w.heap.size w wr))
      case atStart => exact ⟨0, by omega, by omega, rfl, Lib.hid (World.ownsRow_nil _ _ _ _), HB2⟩
      case round =>
        obtain ⟨j, hj, rfl, rfl, HO, HB⟩ := hrel
        have hwr := HB.out.size
        by_cases hjt : j < l.length
        · obtain ⟨_, _, hv, _, hcl⟩ := HH.out.below HB.out
          cases hv
          obtain ⟨g, o, rfl, hg, hcl⟩ := hcl (by omega)
          obtain ⟨u, h2, h3⟩ := hcl j hjt
          have hea := HEA.out _ (List.getElem_mem hjt)
          have hri := HR.out _ (List.getElem_mem hjt)
          have HT := Lib.hid (List.take_succ_eq_append_getElem hjt)
          have ho := HO.out
          obtain ⟨oa, oc, rfl⟩ := own_slice ho
          have hdl := HDL.out j hj
          clear hcl
          generalize l[j] = gj at *
          have cD := Lib.hid (appendDocument_any oa oc u _ gj w.heap.size wr hri ho (h3.mono hwr) hea.1 hea.2 hdl h4 hwr (HE.out.below HB.out))
          have HO2 : Hid (∀ w' u', OwnE w' w.heap.size u' ((l.take j).flatMap Fl.doc ++ Fl.doc gj) → OwnE w' w.heap.size u' ((l.take (j + 1)).flatMap Fl.doc)) := by
            intro w' u' h
            rw [HT.out, List.flatMap_append]
            show OwnE _ _ _ (_ ++ (Fl.doc gj ++ []))
            rw [List.append_nil]; exact h
          clear ho hdl HO h3
          generalize (l.take j).flatMap Fl.doc = out at *
          go_wp2_with (go_at_call 60; refine cD.out.mono ?_; rintro e w5 ⟨⟨u5, rfl, ho5⟩, hb5⟩)
          have ho6 := HO2.out _ _ ho5
          go_roundg (l.length - (j + 1))
          case measure => omega
          case rel => exact ⟨j + 1, by omega, rfl, by go_num, Lib.hid ho6, Lib.hid (HB.out.trans hb5)⟩
        · have ho := HO.out
          rw [List.take_of_length_le (by omega)] at ho
          have HO := Lib.hid ho
          clear ho
          go_wp2
          go_ret2
          exact ⟨⟨_, rfl, HO.out⟩, HB.out⟩
    · rw [h2] at c2
      rw [if_pos rfl]
      clear h he hE
      go_enter Tryd.func29, Tryd.ntmps29
      go_wp2_with (first
        | (go_at_call 57; refine c1.out.mono ?_; rintro e w1 ⟨rfl, hb1⟩; have HB1 := Lib.hid hb1; clear hb1)
        | (go_at_call 57; refine (c2.out _ HB1.out).mono ?_; rintro e w2 ⟨rfl, hb2⟩))
      go_ret2
      exact ⟨rfl, bthen HB1.out hb2⟩
  · rw [h1] at c1
    rw [if_pos rfl]
    clear h he hE
    go_enter Tryd.func29, Tryd.ntmps29
    go_wp2_with (first
      | (go_at_call 57; refine c1.out.mono ?_; rintro e w1 ⟨rfl, hb1⟩))
    go_ret2
    exact ⟨rfl, hb1⟩
end Go.Proofs.YtbimjdlkffbncaaDoor
