/-
  Mathematics: the tag of a node's event is the node's.
  What is not too heavy; the walk of FlattenTag.
-/
import Derived.Test.YtbimjdlkffbncaaDoorFa
import Derived.Test.YtbimjdlkffbncaaDoorFq
namespace Go.Proofs.YtbimjdlkffbncaaDoor
namespace Fl
theorem right_nil : Tg.right [] = false := by decide +kernel
theorem own_nil : Tg.isOwn [] = false := by decide +kernel
theorem fits_nil (s : List UInt8) : Tg.fits [] s = false := by
  unfold Tg.fits Tg.fitsK
  rw [if_neg (by decide), if_neg (by decide), if_neg (by decide)]
  exact own_nil
theorem group_back (c t : List UInt8) (h : Ar.isTagOf c t = true) : Co.groupTag c (unless' t c) = .ok t := by
  unfold unless' Co.groupTag
  by_cases ht : t = c
  · rw [if_pos ht, if_pos (.inl rfl), ht]
  · rw [if_neg ht]
    unfold Ar.isTagOf at h
    have hb : (t == c) = false := beq_eq_false_iff_ne.2 ht
    rw [hb, Bool.false_or, Bool.and_eq_true] at h
    have hn : ¬ (t = [] ∨ t = c) := by
      rintro (e | e)
      · rw [e, right_nil] at h; exact absurd h.1 (by decide)
      · exact ht e
    rw [if_neg hn, if_pos ⟨h.1, by simpa using h.2⟩]
theorem tag_back (g : List Ar.Nd) (x : Ar.Nd) (h : Ar.mayBe g x = true) :
    Co.tagOf (event x) = .ok x.tag ∧ (event x).text = x.text ∧ (event x).anchor = [] ∧ ((event x).plain = true → (event x).tag = []) := by
  unfold Ar.mayBe at h
  rw [Bool.and_eq_true] at h
  have h2 := h.2
  unfold Ar.may1 at h2
  unfold event
  split at h2
  · rename_i h0
    rw [if_pos h0]
    rw [Bool.and_eq_true, Bool.and_eq_true] at h2
    obtain ⟨_, _, hf⟩ := h2
    split
    · rename_i hp
      refine ⟨?_, rfl, rfl, fun _ => rfl⟩
      show Co.scalarTag [] x.text true = _
      unfold Co.scalarTag
      rw [if_pos rfl, if_pos rfl, hp.2]
    · refine ⟨?_, rfl, rfl, fun h => by simp at h⟩
      show Co.scalarTag (unless' x.tag strW) x.text false = _
      unfold Co.scalarTag unless'
      by_cases ht : x.tag = strW
      · rw [if_pos ht, if_pos rfl, if_neg (by decide), ht]; rfl
      · rw [if_neg ht]
        have hn : ¬ x.tag = [] := fun e => by rw [e, fits_nil] at hf; cases hf
        rw [if_neg hn, if_pos hf]
  · rename_i h0
    rw [if_neg h0]
    split at h2
    · rename_i h1
      rw [if_pos h1]
      rw [Bool.and_eq_true] at h2
      have ht : x.text = [] := List.isEmpty_iff.1 h2.1
      refine ⟨?_, ht.symm, rfl, fun h => by simp at h⟩
      show Co.groupTag Ar.seqW _ = _
      exact group_back _ _ h2.2
    · rename_i h1
      rw [if_neg h1]
      split at h2
      · rename_i h3
        rw [if_pos h3]
        rw [Bool.and_eq_true, Bool.and_eq_true] at h2
        have ht : x.text = [] := List.isEmpty_iff.1 h2.1
        refine ⟨?_, ht.symm, rfl, fun h => by simp at h⟩
        show Co.groupTag Ar.mapW _ = _
        exact group_back _ _ h2.2.1
      · cases h2
end Fl
end Go.Proofs.YtbimjdlkffbncaaDoor
namespace Go.Proofs.YtbimjdlkffbncaaDoor
namespace Ar
/-- what is not too heavy -/
structure Light (g : List Nd) : Prop where
  len : g.length ≤ 120
  each : ∀ x ∈ g, x.kids.length ≤ 200 ∧ x.text.length ≤ 2000 ∧ x.tag.length ≤ 2000
theorem light_of (g : List Nd) (h : heavy g = false) : Light g := by
  unfold heavy at h
  rw [Bool.or_eq_false_iff, decide_eq_false_iff_not] at h
  refine ⟨by omega, fun x hx => ?_⟩
  have := List.any_eq_false.1 h.1 x hx
  simp only [Bool.or_eq_true, decide_eq_true_eq, not_or] at this
  omega
theorem Light.fine {g : List Nd} (h : Light g) : ∀ x ∈ g, Fine x := fun x hx => by
  have := h.each x hx
  exact ⟨by omega, by omega, by omega⟩
theorem Light.easy {g : List Nd} (h : Light g) : Easy g := ⟨by have := h.len; omega, fun x hx => ⟨h.fine x hx, by have := h.each x hx; omega⟩⟩
end Ar
open Go.RowKit Go.Maps
/-- one node, in a block of its own, reads as a graph -/
theorem rd_one {w : World} {g B : Nat} {k : Int} {t s : List UInt8} {ks : List Int} {a : Option Addr} {c : Nat} {ty : TypeId} {fr : Nat × Nat} (h : w.heap[g]? = some (.cells #[.int .i64 k, .string (str t), .string (str s), .slice a ks.length c] ty fr)) (hk : RdI w B (.slice a ks.length c) ks) (hg : g < B) :
    RdG w B (.slice (some ⟨g, 0, none⟩) 1 1) [⟨k, t, s, ks⟩] := by
  refine ⟨_, 1, rfl, Nat.le_refl _, fun _ => ⟨g, rfl, hg, fun j hj => ?_⟩⟩
  have : j = 0 := by simp at hj; omega
  subst this
  obtain ⟨q0, q1, q2, q3⟩ := quad h
  exact ⟨q0, q1, q2, a, c, q3, hk⟩
/-- without its kids -/
theorem OwnG.bare {w : World} {B : Nat} {v : Value} {k : Int} {t s : List UInt8} {ks : List Int} (h : OwnG w B v [⟨k, t, s, ks⟩]) :
    ∃ g c, v = .slice (some ⟨g, 0, none⟩) 1 c ∧ B ≤ g ∧ g < w.heap.size ∧ 1 ≤ c ∧ w.frozen? ⟨g, 3, none⟩ = false ∧ (∃ u, w.cell? ⟨g, 3, none⟩ = some u) ∧ (w.setCell ⟨g, 3, none⟩ (.slice none 0 0)).cell? ⟨g, 0, none⟩ = some (.int .i64 k) ∧ (w.setCell ⟨g, 3, none⟩ (.slice none 0 0)).cell? ⟨g, 1, none⟩ = some (.string (str t)) ∧ (w.setCell ⟨g, 3, none⟩ (.slice none 0 0)).cell? ⟨g, 2, none⟩ = some (.string (str s)) ∧ (w.setCell ⟨g, 3, none⟩ (.slice none 0 0)).cell? ⟨g, 3, none⟩ = some (.slice none 0 0) := by
  have hrd := h.rd
  obtain ⟨ps, h1, h2, h3⟩ := h
  rcases h2.2 with ⟨_, h0⟩ | ⟨g, cap, cur, e, hB, hh, hnc, hr⟩
  · simp at h0
  · subst e
    obtain ⟨_, _, hv, _, hcl⟩ := hrd
    cases hv
    obtain ⟨_, hv, hg, hcl⟩ := hcl (by simp)
    cases hv
    obtain ⟨q0, q1, q2, ⟨a, c, q3, _⟩⟩ := hcl 0 (by simp)
    have keep : ∀ i u, i ≠ 3 → w.cell? ⟨g, i, none⟩ = some u → (w.setCell ⟨g, 3, none⟩ (.slice none 0 0)).cell? ⟨g, i, none⟩ = some u := by
      intro i u hi hu
      have h4 := blk_set hh 3 (.slice none 0 0)
      simp only [World.cell?, hh] at hu
      simp only [World.cell?, h4]
      rw [Array.getElem?_setIfInBounds_ne (by omega)]
      exact hu
    have q3' : w.cell? ⟨g, 3, none⟩ = some (.slice a ks.length c) := by simpa using q3
    have here : (w.setCell ⟨g, 3, none⟩ (.slice none 0 0)).cell? ⟨g, 3, none⟩ = some (.slice none 0 0) := by
      have h4 := blk_set hh 3 (.slice none 0 0)
      simp only [World.cell?, hh] at q3'
      have hs : 3 < cur.size := by
        rcases Nat.lt_or_ge 3 cur.size with h | h
        · exact h
        · rw [Array.getElem?_eq_none h] at q3'; simp at q3'
      simp only [World.cell?, h4]
      rw [Array.getElem?_setIfInBounds_self_of_lt hs]
      rfl
    exact ⟨g, cap, rfl, hB, hg, hnc, frozen_blk hh 3, ⟨_, q3'⟩, keep 0 _ (by decide) (by simpa using q0), keep 1 _ (by decide) (by simpa using q1), keep 2 _ (by decide) (by simpa using q2), here⟩

theorem rd_bare {W : World} {g c : Nat} {k : Int} {t s : List UInt8} (hg : g < W.heap.size) (hc : 1 ≤ c) (p0 : W.cell? ⟨g, 0, none⟩ = some (.int .i64 k)) (p1 : W.cell? ⟨g, 1, none⟩ = some (.string (str t))) (p2 : W.cell? ⟨g, 2, none⟩ = some (.string (str s))) (p3 : W.cell? ⟨g, 3, none⟩ = some (.slice none 0 0)) :
    RdG W W.heap.size (.slice (some ⟨g, 0, none⟩) 1 c) [⟨k, t, s, []⟩] := by
  refine ⟨_, c, rfl, hc, fun _ => ⟨g, rfl, hg, fun j hj => ?_⟩⟩
  have : j = 0 := by simp at hj; omega
  subst this
  exact ⟨by simpa using p0, by simpa using p1, by simpa using p2, none, 0, by simpa using p3, none, 0, rfl, Nat.le_refl _, fun h => absurd h (Nat.lt_irrefl 0)⟩
set_option maxHeartbeats 8000000 in
set_option maxRecDepth 100000 in
theorem tag_walk (x : Ar.Nd) (ka : Option Addr) (kc : Nat) (w : World) (hk : RdI w w.heap.size (.slice ka x.kids.length kc) x.kids) (hl : x.kids.length ≤ 9223372036854775807) (hl1 : x.tag.length ≤ 9223372036854775807) (hl2 : x.text.length ≤ 9223372036854775807) (hE : Env w) :
    Calls Tryd.prog 11 #[ndV x ka kc] w fun e w' => e = .returned (.bool true) ∧ Below w.heap.size w w' := by
  obtain ⟨k, t, s, ks⟩ := x
  simp only at hk hl hl1 hl2
  unfold ndV
  simp only
  have hb0 := bnew w (.cells #[.int .i64 k, .string (str t), .string (str s), .slice ka ks.length kc] 66)
  have k0 := alloc_blk w (.cells #[.int .i64 k, .string (str t), .string (str s), .slice ka ks.length kc] 66)
  have cA := Lib.hid (flAlive_any (w.alloc (.cells #[.int .i64 k, .string (str t), .string (str s), .slice ka ks.length kc] 66)) (hE.below hb0))
  have AFT : Hid (∀ W, Below (w.alloc (.cells #[.int .i64 k, .string (str t), .string (str s), .slice ka ks.length kc] 66)).heap.size (w.alloc (.cells #[.int .i64 k, .string (str t), .string (str s), .slice ka ks.length kc] 66)) W →
      Below w.heap.size w W ∧ W.heap[w.heap.size]? = some (.cells #[.int .i64 k, .string (str t), .string (str s), .slice ka ks.length kc] 66)) := fun W hb => ⟨bthen hb0 hb, blk_below k0 hb⟩
  have HE := Lib.hid hE
  have HK := Lib.hid hk
  have ONE : Hid (∀ W g, Below w.heap.size w W → W.heap[g]? = some (.cells #[.int .i64 k, .string (str t), .string (str s), .slice ka ks.length kc] 66) → RdGo W W.heap.size (.slice (some ⟨g, 0, none⟩) 1 1) [⟨k, t, s, ks⟩]) := fun W g hb h => (rd_one h ((hk.below hb).mono hb.size) (Array.getElem?_eq_some_iff.1 h).1).any
  clear hE hk
  cases hh : Ar.heavy [⟨k, t, s, ks⟩]
  · have hL := Ar.light_of _ hh
    obtain ⟨l1, l2, l3⟩ := hL.each _ (List.mem_singleton.2 rfl)
    simp only at l1 l2 l3
    have cH : Hid (∀ W g, Below w.heap.size w W → W.heap[g]? = some (.cells #[.int .i64 k, .string (str t), .string (str s), .slice ka ks.length kc] 66) → Calls Tryd.prog 28 #[.slice (some ⟨g, 0, none⟩) 1 1] W fun e w' => e = .returned (.bool false) ∧ Below W.heap.size W w') := fun W g hb h => by rw [← hh]; exact heavy_any _ _ W (ONE.out W g hb h) (by simp)
    have cT : Hid (∀ W g, Below w.heap.size w W → W.heap[g]? = some (.cells #[.int .i64 k, .string (str t), .string (str s), .slice ka ks.length kc] 66) → Calls Tryd.prog 30 #[.slice (some ⟨g, 0, none⟩) 1 1] W fun e w' => (∃ u, e = .returned u ∧ OwnG w' W.heap.size u [⟨k, t, s, ks⟩]) ∧ Below W.heap.size W w') := fun W g hb h => theirs_any _ _ W (ONE.out W g hb h) (by simp) (fun x hx => by rw [List.mem_singleton] at hx; subst hx; simp only; omega)
    have hfb : ∀ x ∈ [(⟨k, t, s, []⟩ : Ar.Nd)], Fine x := fun x hx => by
      rw [List.mem_singleton] at hx
      subst hx
      exact ⟨by show t.length ≤ 1000000; omega, by show s.length ≤ 1000000; omega, by simp⟩
    cases hr : Ar.right [⟨k, t, s, []⟩]
    · go_enter Tryd.func11, Tryd.ntmps11
      go_wp2_with (first
        | (go_at_call 27; refine cA.out.mono ?_; rintro e w1 ⟨rfl, hb1⟩; obtain ⟨hb1', k1⟩ := AFT.out w1 hb1; obtain ⟨q0, q1, q2, q3⟩ := quad k1; have HB1 := Lib.hid hb1')
        | (go_at_call 28; refine (cH.out _ w1.heap.size (bthen HB1.out (bnew w1 _)) (alloc_blk w1 _)).mono ?_; rintro e w2 ⟨rfl, hb2⟩; have k2 := blk_below (blk_below k1 (bnew w1 (.cells #[.int .i64 k, .string (str t), .string (str s), .slice ka ks.length kc] 66))) hb2; obtain ⟨r0, r1, r2, r3⟩ := quad k2; have HB2 := Lib.hid (bthen (bthen HB1.out (bnew w1 (.cells #[.int .i64 k, .string (str t), .string (str s), .slice ka ks.length kc] 66))) hb2))
        | (go_at_call 30; refine (cT.out _ w2.heap.size (bthen HB2.out (bnew w2 _)) (alloc_blk w2 _)).mono ?_; rintro e w3 ⟨⟨u, rfl, ho⟩, hb3⟩; obtain ⟨gg, c, rfl, hBg, hgg, hc1, fz, ⟨u3, uq⟩, p0, p1, p2, p3⟩ := ho.bare; have hlw := HB2.out.size; (rw [World.size_alloc] at hBg); have HB4 := Lib.hid ((bthen (bthen HB2.out (bnew w2 (.cells #[.int .i64 k, .string (str t), .string (str s), .slice ka ks.length kc] 66))) hb3).setCell (p := ⟨gg, 3, none⟩) (by show w.heap.size ≤ gg; omega) (.slice none 0 0)); have k4 := Lib.hid (other_set (blk_below (blk_below k2 (bnew w2 (.cells #[.int .i64 k, .string (str t), .string (str s), .slice ka ks.length kc] 66))) hb3) ⟨gg, 3, none⟩ (.slice none 0 0) (by show w.heap.size ≠ gg; omega)); have cR' := Lib.hid (right_any (.slice (some ⟨gg, 0, none⟩) 1 c) [⟨k, t, s, []⟩] (w3.setCell ⟨gg, 3, none⟩ (.slice none 0 0)) (rd_bare (by rw [World.size_setCell]; exact hgg) hc1 p0 p1 p2 p3) (by simp) hfb (HE.out.below HB4.out)); (rw [hr] at cR'); clear ho)
        | (go_at_call 21; refine cR'.out.mono ?_; rintro e w5 ⟨rfl, hb5⟩; have k5 := Lib.hid (blk_below k4.out hb5); have HB5 := Lib.hid (bthen HB4.out hb5)))
      go_ret
      exact ⟨rfl, HB5.out⟩
    · obtain ⟨b1, b2, b3, b4⟩ := Fl.tag_back _ _ ((Ar.right_parts hr).1 _ (List.mem_singleton.2 rfl))
      have cE := Lib.hid (fun W hE => event_any ⟨k, t, s, []⟩ none 0 W (show s.length ≤ 100000 by omega) hE)
      unfold ndV at cE
      simp only at cE b1 b2 b3 b4
      have htl : (Fl.event ⟨k, t, s, []⟩).tag.length ≤ 1000000 := by
        unfold Fl.event Fl.unless'
        simp only
        repeat' split
        all_goals simp only [List.length_nil] <;> omega
      have cG := Lib.hid (fun W => tagOf_any (Fl.event ⟨k, t, s, []⟩) W htl (by rw [b2]; omega))
      rw [b1] at cG
      generalize Fl.event ⟨k, t, s, []⟩ = E at *
      obtain ⟨ek, ea, et, es, ep⟩ := E
      simp only at b2 b3 b4
      subst b2 b3
      unfold evV tagE at cG
      unfold evV at cE
      simp only at cG cE
      have cE : Hid (∀ W : World, Env W → Calls Tryd.prog 37 #[.agg #[.int .i64 k, .string (str t), .string (str es), .slice none 0 0]] W fun e w' => e = .returned (.agg #[.int .i64 ek, .string ⟨#[]⟩, .string (str et), .string (str es), .bool ep]) ∧ Below W.heap.size W w') := cE.out
      have cG : Hid (∀ W : World, Calls Tryd.prog 19 #[.agg #[.int .i64 ek, .string ⟨#[]⟩, .string (str et), .string (str es), .bool ep]] W fun e w' => e = .returned (.tuple #[.string (str t), .int .i64 0]) ∧ Below W.heap.size W w') := cG.out
      go_enter Tryd.func11, Tryd.ntmps11
      go_wp2_with (first
        | (go_at_call 27; refine cA.out.mono ?_; rintro e w1 ⟨rfl, hb1⟩; obtain ⟨hb1', k1⟩ := AFT.out w1 hb1; obtain ⟨q0, q1, q2, q3⟩ := quad k1; have HB1 := Lib.hid hb1')
        | (go_at_call 28; refine (cH.out _ w1.heap.size (bthen HB1.out (bnew w1 _)) (alloc_blk w1 _)).mono ?_; rintro e w2 ⟨rfl, hb2⟩; have k2 := blk_below (blk_below k1 (bnew w1 (.cells #[.int .i64 k, .string (str t), .string (str es), .slice ka ks.length kc] 66))) hb2; obtain ⟨r0, r1, r2, r3⟩ := quad k2; have HB2 := Lib.hid (bthen (bthen HB1.out (bnew w1 (.cells #[.int .i64 k, .string (str t), .string (str es), .slice ka ks.length kc] 66))) hb2))
        | (go_at_call 30; refine (cT.out _ w2.heap.size (bthen HB2.out (bnew w2 _)) (alloc_blk w2 _)).mono ?_; rintro e w3 ⟨⟨u, rfl, ho⟩, hb3⟩; obtain ⟨gg, c, rfl, hBg, hgg, hc1, fz, ⟨u3, uq⟩, p0, p1, p2, p3⟩ := ho.bare; have hlw := HB2.out.size; (rw [World.size_alloc] at hBg); have HB4 := Lib.hid ((bthen (bthen HB2.out (bnew w2 (.cells #[.int .i64 k, .string (str t), .string (str es), .slice ka ks.length kc] 66))) hb3).setCell (p := ⟨gg, 3, none⟩) (by show w.heap.size ≤ gg; omega) (.slice none 0 0)); have k4 := Lib.hid (other_set (blk_below (blk_below k2 (bnew w2 (.cells #[.int .i64 k, .string (str t), .string (str es), .slice ka ks.length kc] 66))) hb3) ⟨gg, 3, none⟩ (.slice none 0 0) (by show w.heap.size ≠ gg; omega)); have cR' := Lib.hid (right_any (.slice (some ⟨gg, 0, none⟩) 1 c) [⟨k, t, es, []⟩] (w3.setCell ⟨gg, 3, none⟩ (.slice none 0 0)) (rd_bare (by rw [World.size_setCell]; exact hgg) hc1 p0 p1 p2 p3) (by simp) hfb (HE.out.below HB4.out)); (rw [hr] at cR'); clear ho)
        | (go_at_call 21; refine cR'.out.mono ?_; rintro e w5 ⟨rfl, hb5⟩; have k5 := Lib.hid (blk_below k4.out hb5); have HB5 := Lib.hid (bthen HB4.out hb5); have lg : gg < (w3.setCell ⟨gg, 3, none⟩ (.slice none 0 0)).heap.size := (by rw [World.size_setCell]; exact hgg); have s0 := (hb5.cell (p := ⟨gg, 0, none⟩) lg).trans p0; have s1 := (hb5.cell (p := ⟨gg, 1, none⟩) lg).trans p1; have s2 := (hb5.cell (p := ⟨gg, 2, none⟩) lg).trans p2; have s3 := (hb5.cell (p := ⟨gg, 3, none⟩) lg).trans p3)
        | (go_at_call 37; refine (cE.out _ (HE.out.below HB5.out)).mono ?_; rintro e w6 ⟨rfl, hb6⟩; have hbe := bnew w6 (.cells #[.int .i64 ek, .string ⟨#[]⟩, .string (str et), .string (str es), .bool ep] 40); have k7 := Lib.hid (blk_below (blk_below k5.out hb6) hbe); have e7 := Lib.hid (alloc_blk w6 (.cells #[.int .i64 ek, .string ⟨#[]⟩, .string (str et), .string (str es), .bool ep] 40)); obtain ⟨⟨v0, v1, v2, v3, v4⟩, _⟩ := five e7.out; have HB7 := Lib.hid (bthen (bthen HB5.out hb6) hbe))
        | (go_at_call 19; refine (cG.out _).mono ?_; rintro e w7 ⟨rfl, hb7⟩; obtain ⟨t0, t1, t2, t3⟩ := quad (blk_below k7.out hb7); obtain ⟨⟨f0, f1, f2, f3, f4⟩, _⟩ := five (blk_below e7.out hb7)))
      all_goals first
        | (go_ret; exact ⟨rfl, bthen HB7.out hb7⟩)
        | (obtain rfl := b4 (by first | rfl | assumption); go_ret; exact ⟨ret_bool (by simp [str_toL]), bthen HB7.out hb7⟩)
  · have cH : Hid (∀ W g, Below w.heap.size w W → W.heap[g]? = some (.cells #[.int .i64 k, .string (str t), .string (str s), .slice ka ks.length kc] 66) → Calls Tryd.prog 28 #[.slice (some ⟨g, 0, none⟩) 1 1] W fun e w' => e = .returned (.bool true) ∧ Below W.heap.size W w') := fun W g hb h => by rw [← hh]; exact heavy_any _ _ W (ONE.out W g hb h) (by simp)
    go_enter Tryd.func11, Tryd.ntmps11
    go_wp2_with (first
      | (go_at_call 27; refine cA.out.mono ?_; rintro e w1 ⟨rfl, hb1⟩; obtain ⟨hb1', k1⟩ := AFT.out w1 hb1; obtain ⟨q0, q1, q2, q3⟩ := quad k1; have HB1 := Lib.hid hb1')
      | (go_at_call 28; refine (cH.out _ w1.heap.size (bthen HB1.out (bnew w1 _)) (alloc_blk w1 _)).mono ?_; rintro e w2 ⟨rfl, hb2⟩))
    go_ret
    exact ⟨rfl, bthen (bthen HB1.out (bnew w1 _)) hb2⟩
end Go.Proofs.YtbimjdlkffbncaaDoor
