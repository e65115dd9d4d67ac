/-
  The walk of flatten.Event.
  The walk of the closure that tells a graph's events.
-/
import Derived.Test.YtbimjdlkffbncaaDoorFc
import Derived.Test.YtbimjdlkffbncaaDoorFg
namespace Go.Proofs.YtbimjdlkffbncaaDoor
open Go.RowKit

set_option maxHeartbeats 4000000 in
set_option maxRecDepth 100000 in
theorem event_any (x : Ar.Nd) (a : Option Addr) (c : Nat) (w : World) (hl : x.text.length ≤ 100000) (hE : Env w) :
    Calls Tryd.prog 37 #[ndV x a c] w fun e w' => e = .returned (evV (Fl.event x)) ∧ Below w.heap.size w w' := by
  have cS := ofScalar_any x a c
  obtain ⟨k, t, s, ks⟩ := x
  simp only at hl cS
  unfold ndV at cS ⊢
  simp only at cS ⊢
  obtain ⟨W0, hW0⟩ : ∃ W0, (w.alloc (.cells #[.int .i64 k, .string (str t), .string (str s), .slice a ks.length c] 64)).alloc (.cells #[.int .i64 0, .string ⟨#[]⟩, .string ⟨#[]⟩, .string ⟨#[]⟩, .bool false] 40) = W0 := ⟨_, rfl⟩
  have b1 : Below w.heap.size w W0 := by rw [← hW0]; exact bthen (bnew w _) (bnew _ _)
  have k0 : W0.heap[w.heap.size]? = some (.cells #[.int .i64 k, .string (str t), .string (str s), .slice a ks.length c] 64) := by rw [← hW0]; exact blk_below (alloc_blk w _) (bnew _ _)
  have k1 : W0.heap[w.heap.size + 1]? = some (.cells #[.int .i64 0, .string ⟨#[]⟩, .string ⟨#[]⟩, .string ⟨#[]⟩, .bool false] 40) := by
    rw [← hW0]
    have h := alloc_blk (w.alloc (.cells #[.int .i64 k, .string (str t), .string (str s), .slice a ks.length c] 64)) (.cells #[.int .i64 0, .string ⟨#[]⟩, .string ⟨#[]⟩, .string ⟨#[]⟩, .bool false] 40)
    rw [World.size_alloc] at h
    exact h
  have lt1 := (Array.getElem?_eq_some_iff.1 k1).1
  have lt0 := (Array.getElem?_eq_some_iff.1 k0).1
  have HE := Lib.hid (hE.below b1)
  have HB := Lib.hid b1
  have HK := Lib.hid k1
  have KEEP : ∀ w1, Below W0.heap.size W0 w1 → w1.heap[w.heap.size + 1]? = some (.cells #[.int .i64 0, .string ⟨#[]⟩, .string ⟨#[]⟩, .string ⟨#[]⟩, .bool false] 40) ∧ Below w.heap.size w w1 := fun w1 hb => ⟨(hb.block _ lt1).trans k1, b1.trans (hb.mono b1.size)⟩
  have KP := Lib.hid KEEP
  obtain ⟨q0, q1, q2, q3⟩ := quad k0
  unfold Fl.event evV
  clear b1 k1 KEEP
  by_cases h0 : k = 0
  · subst h0
    have CS := Lib.hid (cS W0 rfl hl HE.out)
    unfold Fl.event evV at CS
    rw [if_pos rfl]
    simp only [if_pos] at CS ⊢
    generalize (if plainB s = true ∧ (Tg.resolve s).w = t then (⟨6, [], [], s, true⟩ : Ev.E) else ⟨6, [], Fl.unless' t Fl.strW, s, false⟩) = E at *
    obtain ⟨ek, ea, et, es, ep⟩ := E
    simp only at CS ⊢
    subst hW0
    go_enter Tryd.func37, Tryd.ntmps37
    go_wp2_with (go_at_call 66; refine CS.out.mono ?_; rintro e w1 ⟨rfl, hb1⟩; obtain ⟨K1, B1⟩ := KP.out w1 hb1; have hZ := st5_blk K1 (.int .i64 ek) (.string (str ea)) (.string (str et)) (.string (str es)) (.bool ep); have hB5 := st5_below B1 (show w.heap.size ≤ w.heap.size + 1 by omega) (.int .i64 ek) (.string (str ea)) (.string (str et)) (.string (str es)) (.bool ep); obtain ⟨⟨u0, u1, u2, u3, u4⟩, v0, v1, v2, v3, v4⟩ := five K1)
    change bodyPost _ _ _ _ _ (st5 w1 (w.heap.size + 1) (.int .i64 ek) (.string (str ea)) (.string (str et)) (.string (str es)) (.bool ep))
    generalize st5 w1 (w.heap.size + 1) (.int .i64 ek) (.string (str ea)) (.string (str et)) (.string (str es)) (.bool ep) = W5 at *
    obtain ⟨⟨x0, x1, x2, x3, x4⟩, _⟩ := five hZ
    refine bodyPost_ret (v := evV ⟨ek, ea, et, es, ep⟩) (by simp [results, go_sem, evV, *]) rfl ⟨rfl, hB5⟩
  · rw [if_neg h0]
    have b0 : (k == 0) = false := beq_eq_false_iff_ne.2 h0
    by_cases h1 : k = 1
    · subst h1
      rw [if_pos rfl]
      subst hW0
      go_enter Tryd.func37, Tryd.ntmps37
      go_wp2_with (go_at_call 67; refine (unless_any t Ar.seqW _).mono ?_; rintro e w1 ⟨rfl, rfl⟩)
      refine bodyPost_ret (v := evV ⟨2, [], Fl.unless' t Ar.seqW, [], false⟩) (by simp [results, go_sem, evV, str_nil]) rfl ⟨rfl, bthen (bnew _ _) (bnew _ _)⟩
    · rw [if_neg h1]
      have b1 : (k == 1) = false := beq_eq_false_iff_ne.2 h1
      by_cases h2 : k = 2
      · subst h2
        rw [if_pos rfl]
        subst hW0
        go_enter Tryd.func37, Tryd.ntmps37
        go_wp2_with (go_at_call 67; refine (unless_any t Ar.mapW _).mono ?_; rintro e w1 ⟨rfl, rfl⟩)
        refine bodyPost_ret (v := evV ⟨4, [], Fl.unless' t Ar.mapW, [], false⟩) (by simp [results, go_sem, evV, str_nil]) rfl ⟨rfl, bthen (bnew _ _) (bnew _ _)⟩
      · rw [if_neg h2]
        have b2 : (k == 2) = false := beq_eq_false_iff_ne.2 h2
        subst hW0
        go_enter Tryd.func37, Tryd.ntmps37
        go_wp2
        refine bodyPost_ret (v := evV ⟨0, [], [], [], false⟩) (by simp [results, go_sem, evV, str_nil]) rfl ⟨rfl, bthen (bnew _ _) (bnew _ _)⟩
end Go.Proofs.YtbimjdlkffbncaaDoor
namespace Go.Proofs.YtbimjdlkffbncaaDoor
open Go.RowKit Go.Maps
/-- a node of a graph that a call owns -/
theorem OwnG.node {w : World} {B gc : Nat} {ga : Option Addr} {ns : List Ar.Nd} (h : OwnG w B (.slice ga ns.length gc) ns) (a : Nat) (ha : a < ns.length) :
    ns.length ≤ gc ∧ ∃ gg ka kc, ga = some ⟨gg, 0, none⟩ ∧ gg < w.heap.size ∧ w.cell? ⟨gg, a * 4, none⟩ = some (.int .i64 ns[a].kind) ∧ w.cell? ⟨gg, a * 4 + 1, none⟩ = some (.string (str ns[a].tag)) ∧ w.cell? ⟨gg, a * 4 + 2, none⟩ = some (.string (str ns[a].text))
      ∧ w.cell? ⟨gg, a * 4 + 3, none⟩ = some (.slice ka ns[a].kids.length kc) ∧ OwnI w B (.slice ka ns[a].kids.length kc) ns[a].kids := by
  obtain ⟨ps, h1, h2, h3⟩ := h
  subst h1
  rw [List.length_map] at h2 ha ⊢
  have h2' := h2
  rcases h2.2 with ⟨e, h0⟩ | ⟨g, cap, cur, e, hB, hh, hnc, hr⟩
  · omega
  · simp only [Value.slice.injEq, true_and] at e
    obtain ⟨rfl, rfl⟩ := e
    have hc := World.ownsRow.cells h2' (g := g) rfl
    have hadd : ∀ k, (⟨g, 0, none⟩ : Addr).add k = ⟨g, k, none⟩ := fun k => by unfold Addr.add; split <;> simp_all
    obtain ⟨e0, e1, e2, e3⟩ := ndCells_at ps a ha
    have a0 := hc _ _ e0
    have a1 := hc _ _ e1
    have a2 := hc _ _ e2
    have a3 := hc _ _ e3
    rw [hadd] at a0 a1 a2 a3
    rw [List.getElem_map]
    have hw := h3 ps[a] (List.getElem_mem ha)
    obtain ⟨ka, kc, hv⟩ := own_form hw
    rw [hv] at a3 hw
    exact ⟨hnc, g, ka, kc, rfl, (Array.getElem?_eq_some_iff.1 hh).1, a0, a1, a2, a3, hw⟩
theorem fl_len (xs : List Ev.E) (y : Ev.E) : (xs ++ [y]).length = xs.length + 1 := by rw [List.length_append]; rfl

set_option maxHeartbeats 8000000 in
set_option maxRecDepth 100000 in
theorem tellGo_any (g : List Ar.Nd) (ga : Option Addr) (gc n ab tb tB oB aB fB B Bg : Nat) (an : List (List UInt8)) (hn : n = g.length) (hn2 : n ≤ 2000) (hkids : Ar.Kids g) (hfi : ∀ x ∈ g, Fine x ∧ x.text.length ≤ 100000) (hal : an.length = n) (hBt : B ≤ tb) (hBo : B ≤ oB) (hB6 : 4 ≤ B) :
    ∀ (f a m : Nat) (out : List Ev.E) (w : World), a < n → m ≤ n → n + 1 ≤ f + m → out.length + (n - m) * 1000002 ≤ 2199000000000 → TellAt w ga gc n ab tb tB oB aB fB B m an out → OwnG w Bg (.slice ga n gc) g → Env w → B ≤ w.heap.size →
    Calls Tryd.prog 96 #[.int .i64 a, .pointer (some ⟨tB, 0, none⟩), .pointer (some ⟨oB, 0, none⟩), .pointer (some ⟨aB, 0, none⟩), .pointer (some ⟨fB, 0, none⟩)] w
      fun e w' => e = .returned (.tuple #[]) ∧ TellAt w' ga gc n ab tb tB oB aB fB B (Fl.tell f g an a (m, out)).1 an (Fl.tell f g an a (m, out)).2 ∧ Keep tellT B w w' ∧ m ≤ (Fl.tell f g an a (m, out)).1 ∧ (Fl.tell f g an a (m, out)).1 ≤ n
        ∧ (Fl.tell f g an a (m, out)).2.length + (n - (Fl.tell f g an a (m, out)).1) * 1000002 ≤ out.length + (n - m) * 1000002 + 1 := by
  subst hn
  intro f
  induction f with
  | zero => intro a m out w ha hmn hf; exact absurd hf (by omega)
  | succ f ih =>
    intro a m out w ha hmn hf hPh hD hG hE hBw
    obtain ⟨ov, o1, o2⟩ := hD.oBox
    obtain ⟨oa, oc, rfl⟩ := own_slice o2
    have c1 := cell_blk hD.tBox 0 _ rfl
    have c2 := cell_blk o1 0 _ rfl
    have z2 := frozen_blk o1 0
    have c3 := cell_blk hD.aBox 0 _ rfl
    have c4 := cell_blk hD.anc a _ (cellsS_at an a (by omega))
    have hx : an.getD a [] = an[a]'(by omega) := by rw [List.getD_eq_getElem?_getD, List.getElem?_eq_getElem (by omega)]; rfl
    obtain ⟨A, hA⟩ : ∃ A, an[a]'(by omega) = A := ⟨_, rfl⟩
    rw [hA] at hx c4
    have hTL := Fl.tell_len g an 1000000 hkids (fun a ha => by rw [Ar.at_get g a (by omega) (by simpa using ha)]; exact (hfi _ (List.getElem_mem _)).1.kids) (f + 1) a (m, out) ha
    have HTL := Lib.hid hTL
    clear hTL
    unfold Fl.tell at HTL ⊢
    rw [hx] at HTL ⊢
    by_cases hm : a < m
    · rw [if_pos hm] at HTL ⊢
      have cF := Lib.hid (first_no tb m a _ w hD.tel hm (by omega))
      have d2 : w.drew.cell? ⟨oB, 0, none⟩ = some (.slice oa out.length oc) := c2
      have d3 : w.drew.cell? ⟨aB, 0, none⟩ = some (.slice (some ⟨ab, 0, none⟩) g.length g.length) := c3
      have d4 : w.drew.cell? ⟨ab, a, none⟩ = some (.string (str A)) := c4
      have hxb := bnew w (.cells #[.int .i64 7, .string (str A), .string ⟨#[]⟩, .string ⟨#[]⟩, .bool false] 40)
      have l2 := (Array.getElem?_eq_some_iff.1 o1).1
      have l3 := (Array.getElem?_eq_some_iff.1 hD.aBox).1
      have l4 := (Array.getElem?_eq_some_iff.1 hD.anc).1
      have e2 := (hxb.cell (p := ⟨oB, 0, none⟩) l2).trans c2
      have e3 := (hxb.cell (p := ⟨aB, 0, none⟩) l3).trans c3
      have e4 := (hxb.cell (p := ⟨ab, a, none⟩) l4).trans c4
      clear hxb
      have HD := Lib.hid hD
      have HO := Lib.hid o2
      have HO1 := Lib.hid o1
      clear hD o2 o1 hG hE ih
      go_enter Tryd.func96, Tryd.ntmps96
      go_wp2_with (go_at_call 65; refine cF.out.mono ?_; rintro e w1 ⟨rfl, rfl⟩)
      go_region_law
        (first
          | (refine step_pushE (by rfl) (.tmp 14) (.tmp 20) (by rfl) B (.slice oa out.length oc) out (Fl.alias' A) _ _ (0, 0) (by rfl) (by rfl) (by exact new_at _ _ _ (by simp)) (by exact HO.out.below (bdrew (bnew w _))) (by omega) (by simp; omega) ?_; intro v1 w1 ho1 hk1 hb1; have hF1 := hk1.blk (new_blk _ _ _ _ HO1.out) (by decide); have y1 := cell_blk hF1 0 _ rfl; have y2 := frozen_blk hF1 0; obtain ⟨va, vc, rfl⟩ := own_slice ho1))
      all_goals
        obtain ⟨hT2, hK2⟩ := HD.out.pushed (bdrew (bnew w _)) (.slice va (out.length + 1) vc) (out ++ [Fl.alias' A]) (by have h := ho1; rw [fl_len] at h; exact h) hk1 HO1.out hBo hBw
        go_wp2
        refine bodyPost_ret (v := .tuple #[]) (by simp [results, go_sem]) rfl ?_
        exact ⟨rfl, hT2, hK2, Nat.le_refl _, hmn, HTL.out⟩
    · rw [if_neg hm] at HTL ⊢
      simp only at HTL ⊢
      have hD1 := hD.meet
      have hk1 := hD.keepMeet hBt
      have cF := Lib.hid (first_yes tb m a _ w hD.tel hm (by omega))
      obtain ⟨W1, hW1⟩ : ∃ W1, w.setCell ⟨tb, 1, none⟩ (.int .i64 ((m + 1 : Nat) : Int)) = W1 := ⟨_, rfl⟩
      rw [hW1] at hD1 hk1 cF
      have hG1 := hG.keep hk1 (by decide) (by decide)
      obtain ⟨hgc, gg, ka, kc, rfl, hgg, n0, n1, n2, n3, n4⟩ := hG1.node a ha
      have hE1 : Env W1 := hE.keep hB6 hk1.below
      have hs1 : w.heap.size ≤ W1.heap.size := hk1.size
      have x1 := cell_blk hD1.tBox 0 _ rfl
      have x2 := cell_blk hD1.tel 0 _ rfl
      have hat : Ar.at' g (a : Int) = g[a] := Ar.at_get g a (by omega) ha
      have hkn := hkids.at' ha
      obtain ⟨hff, hft⟩ := hfi _ (List.getElem_mem ha)
      have hfk := hff.kids
      rw [hat] at hkn HTL ⊢
      clear hat hff hD o1 o2 c2 z2 c3 c4 hG hE
      generalize g[a] = x at *
      have cE := event_any x ka kc
      obtain ⟨k, t, s, ks⟩ := x
      simp only at n0 n1 n2 n3 n4 hkn hft hfk cE HTL ⊢
      unfold ndV at cE
      simp only at cE
      obtain ⟨E, hEv⟩ : ∃ E, Fl.event ⟨k, t, s, ks⟩ = E := ⟨_, rfl⟩
      rw [hEv] at cE HTL ⊢
      obtain ⟨ek, ea, et, es, ep⟩ := E
      have hbn := bnew W1 (.cells #[.int .i64 k, .string (str t), .string (str s), .slice ka ks.length kc] 64)
      have cE := Lib.hid (cE (W1.alloc (.cells #[.int .i64 k, .string (str t), .string (str s), .slice ka ks.length kc] 64)) hft (hE1.below hbn))
      obtain ⟨ov, o1, o2⟩ := hD1.oBox
      obtain ⟨oa, oc, rfl⟩ := own_slice o2
      obtain ⟨R, hR⟩ : ∃ R, ks.foldl (fun s k => Fl.tell f g an k.toNat s) (m + 1, out ++ [Fl.anch A ⟨ek, ea, et, es, ep⟩]) = R := ⟨_, rfl⟩
      unfold evV at cE
      simp only at cE
      rw [hR] at HTL ⊢
      -- what holds behind the call of Event, and the event's own block
      have AFT : Hid (∀ w3, Below (W1.alloc (.cells #[.int .i64 k, .string (str t), .string (str s), .slice ka ks.length kc] 64)).heap.size (W1.alloc (.cells #[.int .i64 k, .string (str t), .string (str s), .slice ka ks.length kc] 64)) w3 →
          Below W1.heap.size W1 w3 ∧ w3.heap[W1.heap.size]? = some (.cells #[.int .i64 k, .string (str t), .string (str s), .slice ka ks.length kc] 64)) := fun w3 hb => ⟨bthen hbn hb, blk_below (alloc_blk W1 _) hb⟩
      have HD1 := Lib.hid hD1
      have HK1 := Lib.hid hk1
      have HR := Lib.hid hR
      have HG1 := Lib.hid hG1
      have HE1 := Lib.hid hE1
      have HO1 := Lib.hid o1
      have HO2 := Lib.hid o2
      have HKN := Lib.hid hkn
      have IH := Lib.hid ih
      have N4 := Lib.hid n4
      clear hD1 hk1 hR hG1 hE1 o1 o2 hkn ih n4
      go_enter Tryd.func96, Tryd.ntmps96
      go_wp2_with (first
        | (go_at_call 65; refine cF.out.mono ?_; rintro e w1 ⟨rfl, rfl⟩)
        | (go_at_call 37; refine cE.out.mono ?_; rintro e w3 ⟨rfl, hb3⟩; obtain ⟨hb3', hn3⟩ := AFT.out w3 hb3; have hbe := bnew w3 (.cells #[.int .i64 ek, .string (str A), .string (str et), .string (str es), .bool ep] 40); have hT4 := HD1.out.call (bthen hb3' hbe); have hT5 := HD1.out.call (bthen hb3' (bnew w3 (.cells #[.int .i64 ek, .string (str ea), .string (str et), .string (str es), .bool ep] 40))); have v3 := cell_blk hT5.aBox 0 _ rfl; have v4 := cell_blk hT5.anc a _ (cellsS_at an a (by omega)); rw [hA] at v4; have y1 := cell_blk hT4.tBox 0 _ rfl; have y3 := cell_blk hT4.aBox 0 _ rfl; have y4 := cell_blk hT4.anc a _ (cellsS_at an a (by omega)); rw [hA] at y4; have ho4 := blk_below HO1.out (bthen hb3' hbe); have y2 := cell_blk ho4 0 _ rfl; have z2 := frozen_blk ho4 0; have HBE := Lib.hid (bthen (bthen hb3' hbe) (bnew (w3.alloc (.cells #[.int .i64 ek, .string (str A), .string (str et), .string (str es), .bool ep] 40)) (.cells #[.int .i64 ek, .string (str A), .string (str et), .string (str es), .bool ep] 40))); have HN4 := Lib.hid (blk_below (blk_below hn3 hbe) (bnew (w3.alloc (.cells #[.int .i64 ek, .string (str A), .string (str et), .string (str es), .bool ep] 40)) (.cells #[.int .i64 ek, .string (str A), .string (str et), .string (str es), .bool ep] 40))); have HO4 := Lib.hid (blk_below ho4 (bnew (w3.alloc (.cells #[.int .i64 ek, .string (str A), .string (str et), .string (str es), .bool ep] 40)) (.cells #[.int .i64 ek, .string (str A), .string (str et), .string (str es), .bool ep] 40))); clear hT4 hT5 hn3 ho4)
        | (at_builtin; go_loud (refine wpList_pushE (by rfl) (.tmp 36) (.tmp 38) (by rfl) B (.slice oa out.length oc) out ⟨ek, A, et, es, ep⟩ _ _ (0, 0) (by rfl) (by rfl) ?_ ?_ ?_ ?_ ?_; (exact new_at _ _ _ (by rw [World.size_alloc])); (exact HO2.out.below HBE.out); omega; (have := HBE.out.size; omega); intro v5 w5 ho5 hk5 hb5; obtain ⟨va, vc, rfl⟩ := own_slice ho5; have HN5 := Lib.hid (hk5.blk HN4.out (by decide)); have HO5 := Lib.hid (hk5.blk HO4.out (by decide)); have y5 := cell_blk HO5.out 0 _ rfl; have z5 := frozen_blk HO5.out 0; have HT6 := Lib.hid (HD1.out.pushed HBE.out (.slice va (out.length + 1) vc) (out ++ [⟨ek, A, et, es, ep⟩]) (by have h := ho5; rw [fl_len] at h; exact h) hk5 HO1.out hBo (Nat.le_trans hBw hs1)); have HN6 := Lib.hid (other_set HN5.out ⟨oB, 0, none⟩ (.slice va (out.length + 1) vc) (blk_ne HN5.out HO5.out (by decide))); obtain ⟨p0, p1, p2, p3⟩ := quad HN6.out; clear hk5 hb5 ho5)))
      obtain ⟨hT6, hK6⟩ := HT6.out
      have HD6 := Lib.hid hT6
      have HK6 := Lib.hid hK6
      clear hT6 hK6 HT6 y5 z5 p1 p2
      go_loopg [43] ks.length (fun q i wr => ∃ (j m2 : Nat) (out2 : List Ev.E), j ≤ ks.length ∧ q = ks.length - j ∧ i = .int .i64 j ∧ Hid ((ks.drop j).foldl (fun s k => Fl.tell f g an k.toNat s) (m2, out2) = R) ∧ Hid (TellAt wr (some ⟨gg, 0, none⟩) gc g.length ab tb tB oB aB fB B m2 an out2) ∧ m + 1 ≤ m2 ∧ m2 ≤ g.length ∧ out2.length + (g.length - m2) * 1000002 ≤ out.length + 1 + (g.length - (m + 1)) * 1000002 + j ∧ Hid (Keep tellT B w1 wr) ∧ Hid (wr.heap[w1.heap.size]? = some (.cells #[.int .i64 k, .string (str t), .string (str s), .slice ka ks.length kc] 64)))
      case atStart => exact ⟨0, m + 1, out ++ [⟨ek, A, et, es, ep⟩], by omega, by omega, rfl, HR, HD6, Nat.le_refl _, by omega, by rw [fl_len]; omega, HK6, HN6⟩
      case round =>
        obtain ⟨j, m2, out2, hj, rfl, rfl, HI, HD, hm1, hm2, hph2, HK, HN⟩ := hrel
        clear HR HD6 HK6 HN6
        have hwr := HK.out.size
        have hBwr : B ≤ wr.heap.size := by omega
        by_cases hjt : j < ks.length
        · have hI := HI.out
          rw [List.drop_eq_getElem_cons hjt, List.foldl_cons] at hI
          obtain ⟨_, _, hv, _, hcl0⟩ := row_rdI (HK.out.row N4.out (by decide))
          cases hv
          obtain ⟨kg, ko, rfl, _, hcl⟩ := hcl0 (by omega)
          have hkm := hcl j hjt
          have hkk := HKN.out _ (List.getElem_mem hjt)
          clear hcl hcl0
          generalize ks[j] = kk at *
          obtain ⟨y, rfl⟩ : ∃ y : Nat, kk = (y : Int) := ⟨kk.toNat, by omega⟩
          rw [Int.toNat_natCast] at hI hkk
          have cI := IH.out y m2 out2 wr hkk.2 hm2 (by omega) (by omega) HD.out (HG1.out.keep HK.out (by decide) (by decide)) (HE1.out.keep hB6 HK.out.below) hBwr
          have y4 := cell_blk HD.out.fBox 0 _ rfl
          generalize Fl.tell f g an y (m2, out2) = r at *
          obtain ⟨m3, out3⟩ := r
          have HI := Lib.hid hI
          have CI := Lib.hid cI
          clear hI cI
          go_wp2_with (go_at_call 96; refine (CI.out).mono ?_; rintro e w9 ⟨rfl, hD9, hK9, h9, h10, h11⟩)
          have hN9 := hK9.blk HN.out (by decide)
          go_roundg (ks.length - (j + 1))
          case measure => omega
          case rel => exact ⟨j + 1, m3, out3, by omega, rfl, by go_num, HI, Lib.hid hD9, by omega, h10, by omega, Lib.hid (HK.out.trans hK9), Lib.hid hN9⟩
        · have hI := HI.out
          rw [List.drop_eq_nil_of_le (by omega)] at hI
          have hI : (m2, out2) = R := hI
          subst hI
          clear HI
          simp only at HTL ⊢
          obtain ⟨r0, _, _, _⟩ := quad HN.out
          obtain ⟨ov2, q1, q2⟩ := HD.out.oBox
          obtain ⟨oa2, oc2, rfl⟩ := own_slice q2
          have r2 := cell_blk q1 0 _ rfl
          have QO1 := Lib.hid q1
          have QO2 := Lib.hid q2
          clear q1 q2
          by_cases hk1 : k = 1
          · subst hk1
            have hcl : Fl.closing 1 = [Fl.bare 3] := rfl
            rw [hcl] at HTL
            have hxb := bnew wr (.cells #[.int .i64 3, .string ⟨#[]⟩, .string ⟨#[]⟩, .string ⟨#[]⟩, .bool false] 40)
            have e2 := (hxb.cell (p := ⟨oB, 0, none⟩) (Array.getElem?_eq_some_iff.1 QO1.out).1).trans r2
            have HXB := Lib.hid hxb
            clear hxb
            go_wp2_with (at_builtin; go_loud (refine wpList_pushE (by rfl) (.tmp 55) (.tmp 57) (by rfl) B (.slice oa2 out2.length oc2) out2 (Fl.bare 3) _ _ (0, 0) (by rfl) (by rfl) ?_ ?_ ?_ ?_ ?_; (exact new_at _ _ _ rfl); (exact QO2.out.below HXB.out); omega; (rw [World.size_alloc]; omega); intro v8 w8 ho8 hk8 hb8; obtain ⟨va8, vc8, rfl⟩ := own_slice ho8; have HO8 := Lib.hid (hk8.blk (blk_below QO1.out HXB.out) (by decide)); have y8 := cell_blk HO8.out 0 _ rfl; have z8 := frozen_blk HO8.out 0; have HT8 := Lib.hid (HD.out.pushed HXB.out (.slice va8 (out2.length + 1) vc8) (out2 ++ [Fl.bare 3]) (by have h := ho8; rw [fl_len] at h; exact h) hk8 QO1.out hBo hBwr); clear hk8 hb8 ho8))
            obtain ⟨hT8, hK8⟩ := HT8.out
            refine ⟨rfl, .tuple #[], by simp [results, go_sem], rfl, hT8, HK1.out.trans (HK.out.trans hK8), ?_⟩
            (have h := HTL.out; simp only [List.length_append, List.length_cons, List.length_nil] at h; omega)
          · by_cases hk2 : k = 2
            · subst hk2
              have hcl : Fl.closing 2 = [Fl.bare 5] := rfl
              rw [hcl] at HTL
              have hxb := bnew wr (.cells #[.int .i64 5, .string ⟨#[]⟩, .string ⟨#[]⟩, .string ⟨#[]⟩, .bool false] 40)
              have e2 := (hxb.cell (p := ⟨oB, 0, none⟩) (Array.getElem?_eq_some_iff.1 QO1.out).1).trans r2
              have HXB := Lib.hid hxb
              clear hxb
              go_wp2_with (at_builtin; go_loud (refine wpList_pushE (by rfl) (.tmp 61) (.tmp 63) (by rfl) B (.slice oa2 out2.length oc2) out2 (Fl.bare 5) _ _ (0, 0) (by rfl) (by rfl) ?_ ?_ ?_ ?_ ?_; (exact new_at _ _ _ rfl); (exact QO2.out.below HXB.out); omega; (rw [World.size_alloc]; omega); intro v8 w8 ho8 hk8 hb8; obtain ⟨va8, vc8, rfl⟩ := own_slice ho8; have HO8 := Lib.hid (hk8.blk (blk_below QO1.out HXB.out) (by decide)); have y8 := cell_blk HO8.out 0 _ rfl; have z8 := frozen_blk HO8.out 0; have HT8 := Lib.hid (HD.out.pushed HXB.out (.slice va8 (out2.length + 1) vc8) (out2 ++ [Fl.bare 5]) (by have h := ho8; rw [fl_len] at h; exact h) hk8 QO1.out hBo hBwr); clear hk8 hb8 ho8))
              obtain ⟨hT8, hK8⟩ := HT8.out
              refine ⟨rfl, .tuple #[], by simp [results, go_sem], rfl, hT8, HK1.out.trans (HK.out.trans hK8), ?_⟩
              (have h := HTL.out; simp only [List.length_append, List.length_cons, List.length_nil] at h; omega)
            · have b1 : (k == 1) = false := beq_eq_false_iff_ne.2 hk1
              have b2 : (k == 2) = false := beq_eq_false_iff_ne.2 hk2
              have hcl : Fl.closing k = [] := by unfold Fl.closing; rw [if_neg hk1, if_neg hk2]
              rw [hcl, List.append_nil] at HTL
              go_wp2
              refine ⟨rfl, .tuple #[], by simp [results, go_sem], rfl, HD.out, HK1.out.trans HK.out, ?_⟩
              (have h := HTL.out; omega)
end Go.Proofs.YtbimjdlkffbncaaDoor
