/-
  The walk of reader.comes.
-/
import Derived.Test.YtjcfmghijfnehaaGreatDoorJd
import Derived.Deep.RegionLaw
import Derived.Test.YtjcfmghijfnehaaGreatDoorJe
namespace Go.Proofs.YtjcfmghijfnehaaGreatDoor
open Go.RowKit

theorem Behind.keep {w w' : World} {C : Nat} {u : Value} {ys : List Ev.E} (h : Behind w C u ys) (hs : w.heap.size ≤ w'.heap.size) (hk : ∀ k, C ≤ k → k < w.heap.size → w'.heap[k]? = w.heap[k]?) : Behind w' C u ys := by
  rcases h with h | ⟨g, o, c, e, h1, h2, h3⟩
  · exact .inl h
  · refine .inr ⟨g, o, c, e, h1, Nat.lt_of_lt_of_le h2 hs, fun j u hu => ?_⟩
    have := h3 j u hu
    rw [Addr.add_lit] at this ⊢
    exact (World.cell?_of_block (a := ⟨g, o + j, none⟩) (hk g h1 h2)).trans this
theorem Behind.below {w w' : World} {C : Nat} {u : Value} {ys : List Ev.E} (h : Behind w C u ys) (hb : Below w.heap.size w w') : Behind w' C u ys := h.keep hb.size fun k _ hk => hb.block k hk
theorem Behind.set {w : World} {C g i : Nat} {u v : Value} {ys : List Ev.E} (h : Behind w C u ys) (hg : g < C ∨ w.heap.size ≤ g) : Behind (w.setCell ⟨g, i, none⟩ v) C u ys :=
  h.keep (by simp [World.setCell]) fun k hk hks => Below.heap_setCell w ⟨g, i, none⟩ v k (by simp only; omega)
/-- what lies between C and the size of w is as it was -/
def Mid (w : World) (C : Nat) (w' : World) : Prop := ∀ k, C ≤ k → k < w.heap.size → w'.heap[k]? = w.heap[k]?
theorem Mid.call {w w1 w2 : World} {C : Nat} (h : Mid w C w1) (hs : w.heap.size ≤ w1.heap.size) (hb : Below w1.heap.size w1 w2) : Mid w C w2 := fun k hk hks => (hb.block k (by omega)).trans (h k hk hks)
theorem Mid.set {w w1 : World} {C g i : Nat} {v : Value} (h : Mid w C w1) (hg : g < C ∨ w.heap.size ≤ g) : Mid w C (w1.setCell ⟨g, i, none⟩ v) := fun k hk hks => (Below.heap_setCell w1 ⟨g, i, none⟩ v k (by simp only; omega)).trans (h k hk hks)
theorem five_set {w : World} {X : Nat} {a0 a1 a2 a3 a4 b0 b1 b2 b3 b4 : Value} {t : TypeId} {fr : Nat × Nat} (h : w.heap[X]? = some (.cells #[a0, a1, a2, a3, a4] t fr)) :
    (((((w.setCell ⟨X, 0, none⟩ b0).setCell ⟨X, 1, none⟩ b1).setCell ⟨X, 2, none⟩ b2).setCell ⟨X, 3, none⟩ b3).setCell ⟨X, 4, none⟩ b4).heap[X]? = some (.cells #[b0, b1, b2, b3, b4] t fr) := blk_set (blk_set (blk_set (blk_set (blk_set h 0 b0) 1 b1) 2 b2) 3 b3) 4 b4
theorem RdAt.aside {w : World} {B R X i : Nat} {bv ov v : Value} {st : Px.St} (h : RdAt w B R bv ov st) (hR : R ≠ X) (hb : bv.ownBlock ≠ some X) (ho : ov.ownBlock ≠ some X) : RdAt (w.setCell ⟨X, i, none⟩ v) B R bv ov st :=
  ⟨other_set h.cell _ _ hR, row_kept h.blocks fun k hk => Below.heap_setCell w ⟨X, i, none⟩ v k (fun e => hb (by rw [hk, e])), row_kept h.out fun k hk => Below.heap_setCell w ⟨X, i, none⟩ v k (fun e => ho (by rw [hk, e]))⟩
theorem drew_heap (w : World) : w.drew.heap = w.heap := rfl

set_option maxHeartbeats 8000000 in
set_option maxRecDepth 100000 in
theorem comes_any (B R : Nat) (st : Px.St) (b : Px.Bk) (t : List Px.Bk) (x : Ev.E) (u : Value) (ys : List Ev.E) (w0 w : World) (h0 : RdrAt w0 B R st) (hb0 : Below w0.heap.size w0 w) (hbl : st.blocks = b :: t) (hB : B ≤ R) (hu : Behind w w0.heap.size u ys) (ht : t.length ≤ 1000) (hl : st.out.length + ys.length ≤ 2199023255480) :
    Calls Tryz.prog 176 #[.pointer (some ⟨R, 0, none⟩), evV x, u] w fun e w' => RdrR B R (Px.comes st x ys) e w' ∧ Keep rdT B w w' := by
  obtain ⟨bv, ov, h0⟩ := h0
  have hR0 := h0.lt
  have h := h0.below hb0
  have hov : ∀ k, w0.heap.size ≤ k → ov.ownBlock ≠ some k := fun k hk => own_not h0.out hk
  obtain ⟨bs, hd, out⟩ := st
  simp only at hbl
  subst hbl
  obtain ⟨g, cap, cur0, rfl, hBg, hcap, hg0, _⟩ := h0.top
  have hgl : g < w0.heap.size := (Array.getElem?_eq_some_iff.1 hg0).1
  have hsz := hb0.size
  have hBw : B ≤ w.heap.size := by omega
  have huf : ∃ ua uc, u = .slice ua ys.length uc := by
    rcases hu with ⟨rfl, rfl⟩ | ⟨g', o', c', rfl, _⟩
    · exact ⟨_, _, rfl⟩
    · exact ⟨_, _, rfl⟩
  obtain ⟨ua, uc, rfl⟩ := huf
  obtain ⟨k, an, tg, tx, pl⟩ := x
  have hX := alloc_blk w (.cells #[.int .i64 k, .string (str an), .string (str tg), .string (str tx), .bool pl] 47)
  have hC1 := new_blk w _ (.cells #[.int .i64 k, .string (str an), .string (str tg), .string (str tx), .bool pl] 47) R h.cell
  obtain ⟨⟨c0, c1, c2, c3⟩, f0, f1, f2, f3⟩ := four hC1
  obtain ⟨⟨x0, x1, x2, x3, x4⟩, z0, z1, z2, z3, z4⟩ := five hX
  have HX := Lib.hid hX
  have HR := Lib.hid (h.below (bnew w (.cells #[.int .i64 k, .string (str an), .string (str tg), .string (str tx), .bool pl] 47)))
  have HU := Lib.hid hu
  have HM := Lib.hid (show Mid w w0.heap.size (w.alloc (.cells #[.int .i64 k, .string (str an), .string (str tg), .string (str tx), .bool pl] 47)) from fun kk _ hk => (bnew w (.cells #[.int .i64 k, .string (str an), .string (str tg), .string (str tx), .bool pl] 47)).block kk hk)
  have HB1 := Lib.hid (bnew w (.cells #[.int .i64 k, .string (str an), .string (str tg), .string (str tx), .bool pl] 47))
  have CS1 := Lib.hid (fun w => some_any hd w)
  have hpr : prV hd = .agg #[.string (str hd.anchor), .string (str hd.tag)] := rfl
  rw [hpr] at CS1
  have CL := Lib.hid (fun w hc => last_any R g t.length cap w hc (by omega))
  clear hX hC1 h h0 hu hg0 cur0
  unfold evV Px.comes Px.dress
  simp only
  cases hs : hd.some
  · rw [hs] at CS1
    simp only [Bool.false_eq_true, if_false]
    clear hs hpr
    go_enter Tryz.func176, Tryz.ntmps176
    go_upto_region 6 with (go_at_call 225; go_fit (CS1.out _); rintro e w1 ⟨rfl, hb1⟩; have HR1 := Lib.hid (HR.out.below hb1); have HX1 := Lib.hid (blk_below HX.out hb1); have HM1 := Lib.hid (HM.out.call (by simp) hb1); have HK1 := Lib.hid (keep_of (ts := rdT) (bthen HB1.out hb1) hBw); have hsz1 := hb1.size; rw [World.size_alloc] at hsz1; clear CS1 c0 c1 c2 c3 f0 f1 f2 f3 x0 x1 x2 x3 x4 z0 z1 z2 z3 z4; obtain ⟨⟨c0, c1, c2, c3⟩, f0, f1, f2, f3⟩ := four HR1.out.cell; obtain ⟨⟨x0, x1, x2, x3, x4⟩, z0, z1, z2, z3, z4⟩ := five HX1.out)
    have HR5 := Lib.hid ((HR1.out).clear)
    have HX5 := Lib.hid (other_set (other_set HX1.out ⟨R, 1, none⟩ (.string ⟨#[]⟩) (fun e => by simp only at e; omega)) ⟨R, 2, none⟩ (.string ⟨#[]⟩) (fun e => by simp only at e; omega))
    have HM5 := Lib.hid (((HM1.out).set (g := R) (i := 1) (v := .string ⟨#[]⟩) (.inl hR0)).set (g := R) (i := 2) (v := .string ⟨#[]⟩) (.inl hR0))
    have HK5 := Lib.hid (((HK1.out).set (i := 1) (v := .string ⟨#[]⟩) (HR1.out).cell (by decide) hB).set (i := 2) (v := .string ⟨#[]⟩) (blk_set (HR1.out).cell 1 _) (by decide) hB)
    go_wp2_with (go_at_call 174; go_fit (CL.out _ (by have h := HR5.out.cell; exact cell_blk h 0 _ rfl)); rintro e w6 ⟨rfl, hb6⟩; clear CL; have HR6 := Lib.hid (HR5.out.below hb6); have HX6 := Lib.hid (blk_below HX5.out hb6); have HM6 := Lib.hid (HM5.out.call HK5.out.size hb6); have HK6 := Lib.hid (HK5.out.call hb6 hBw); obtain ⟨g6, cap6, cur6, e6, _, _, hg6, t0, t1, t2, t3, tf⟩ := HR6.out.top; cases e6; have HG6 := Lib.hid hg6; clear hg6; have HR7 := Lib.hid (HR6.out.setW false); have hsz6 := hb6.size; have hR6 := HR6.out.lt; have hX6 := (Array.getElem?_eq_some_iff.1 HX6.out).1; have HX7 := Lib.hid (other_set HX6.out ⟨g, t.length * 4 + 3, none⟩ (.bool false) (fun e => by simp only at e; omega)); have HK7 := Lib.hid (HK6.out.set (i := t.length * 4 + 3) (v := .bool false) HG6.out (by decide) hBg); have HU7 := Lib.hid (HU.out.keep HK7.out.size (HM6.out.set (g := g) (i := t.length * 4 + 3) (v := .bool false) (.inl hgl))); obtain ⟨⟨d0, d1, d2, d3⟩, j0, j1, j2, j3⟩ := four HR7.out.cell; obtain ⟨⟨y0, y1, y2, y3, y4⟩, _⟩ := five HX7.out)
    have hle : out.length ≤ 2199023255488 := by omega
    go_region_law (first
      | (refine step_pushE (by rfl) (.tmp 38) (.tmp 40) (by rfl) B ov out ⟨k, an, tg, tx, pl⟩ _ _ (0, 0) (by rfl) (by rfl) ?_ ?_ ?_ ?_ ?_; (exact new_at _ _ _ (by simp [World.setCell])); (exact row_below HR7.out.out (bdrew (bnew _ _))); (exact hle); (have := HK7.out.size; rw [World.size_alloc] at *; first | omega | (simp [World.setCell] at *; omega)); intro v8 w8 ho8 hk8 hb8; have HO8 := Lib.hid ho8; have HC8 := Lib.hid (hk8.blk (new_blk _ _ (.cells #[.int .i64 k, .string (str an), .string (str tg), .string (str tx), .bool pl] 47) _ HR7.out.cell) (by decide)); have HU8 := Lib.hid ((HU7.out.below (bdrew (bnew _ (.cells #[.int .i64 k, .string (str an), .string (str tg), .string (str tx), .bool pl] 47)))).keep hk8.size (fun k hk hks => hb8 k hks (hov k hk))); have HB8 := Lib.hid (hk8.row (row_below HR7.out.blocks (bdrew (bnew _ (.cells #[.int .i64 k, .string (str an), .string (str tg), .string (str tx), .bool pl] 47)))) (by decide)); have HK8 := Lib.hid ((HK7.out.call (bdrew (bnew _ (.cells #[.int .i64 k, .string (str an), .string (str tg), .string (str tx), .bool pl] 47))) hBw).trans (hk8.wide (by decide))); obtain ⟨va, vc, rfl⟩ := own_slice ho8; have hs8 := HK8.out.size; clear ho8 hk8 hb8)
      | (refine step_appB (by rfl) (.tmp 41) (.tmp 42) (by rfl) B _ _ (out ++ [⟨k, an, tg, tx, pl⟩]) ys w0.heap.size (by rfl) (by rfl) ?_ ?_ ?_ ?_ ?_; (have h := HO8.out; rw [List.length_append] at h; exact h); (exact HU8.out); (simp only [List.length_append, List.length_cons, List.length_nil]; omega); omega; intro v9 w9 ho9 hk9; have HO9 := Lib.hid ho9; have HC9 := Lib.hid (hk9.blk HC8.out (by decide)); have HB9 := Lib.hid (hk9.row HB8.out (by decide)); have HK9 := Lib.hid (HK8.out.trans (hk9.wide (by decide))); obtain ⟨va9, vc9, rfl⟩ := own_slice ho9; obtain ⟨⟨e0, e1, e2, e3⟩, i0, i1, i2, i3⟩ := four HC9.out; clear ho9 hk9))
    all_goals go_wp2
    all_goals go_end0
    all_goals have hO := HO9.out
    all_goals rw [List.append_assoc, List.singleton_append, List.length_append, List.length_cons] at hO
    all_goals exact ⟨⟨rfl, _, _, ⟨blk_set HC9.out 3 _, row_set HB9.out HC9.out (by decide), row_set hO HC9.out (by decide)⟩⟩, HK9.out.set HC9.out (by decide) hB⟩
  · rw [hs] at CS1
    simp only [if_true]
    have CP := Lib.hid (fun w => propertiesOf_any ⟨k, an, tg, tx, pl⟩ w)
    have CS2 := Lib.hid (fun w => some_any ⟨an, tg⟩ w)
    have CO := Lib.hid (fun w => on_any hd ⟨k, an, tg, tx, pl⟩ w)
    have hp2 : prV (Px.prOf ⟨k, an, tg, tx, pl⟩) = .agg #[.string (str an), .string (str tg)] := rfl
    have hp3 : prV ⟨an, tg⟩ = .agg #[.string (str an), .string (str tg)] := rfl
    have he2 : evV ⟨k, an, tg, tx, pl⟩ = .agg #[.int .i64 k, .string (str an), .string (str tg), .string (str tx), .bool pl] := rfl
    have he3 : evV (hd.on ⟨k, an, tg, tx, pl⟩) = .agg #[.int .i64 k, .string (str hd.anchor), .string (str hd.tag), .string (str tx), .bool pl] := rfl
    rw [hp2, he2] at CP
    rw [hp3] at CS2
    rw [hpr, he2, he3] at CO
    clear hs hpr hp2 hp3 he2 he3
    by_cases k7 : k = 7
    · subst k7
      rw [if_pos (.inl rfl)]
      go_enter Tryz.func176, Tryz.ntmps176
      go_wp2_with (go_at_call 225; go_fit (CS1.out _); rintro e w1 ⟨rfl, hb1⟩; have HR1 := Lib.hid (HR.out.below hb1); have HX1 := Lib.hid (blk_below HX.out hb1); have HM1 := Lib.hid (HM.out.call (by simp) hb1); have HK1 := Lib.hid (keep_of (ts := rdT) (bthen HB1.out hb1) hBw); have hsz1 := hb1.size; rw [World.size_alloc] at hsz1; clear CS1 c0 c1 c2 c3 f0 f1 f2 f3 x0 x1 x2 x3 x4 z0 z1 z2 z3 z4; obtain ⟨⟨c0, c1, c2, c3⟩, f0, f1, f2, f3⟩ := four HR1.out.cell; obtain ⟨⟨x0, x1, x2, x3, x4⟩, z0, z1, z2, z3, z4⟩ := five HX1.out)
      exact ⟨rfl, rfl, HK1.out⟩
    · have b7 : (k == 7) = false := beq_eq_false_iff_ne.2 k7
      cases h2 : (Px.prOf ⟨k, an, tg, tx, pl⟩).some
      · have h2' : (⟨an, tg⟩ : Px.Pr).some = false := h2
        rw [h2'] at CS2
        rw [if_neg (by simp [k7])]
        clear h2 h2' k7
        go_enter Tryz.func176, Tryz.ntmps176
        go_wp2_with (first
          | (go_at_call 225; go_fit (CS1.out _); rintro e w1 ⟨rfl, hb1⟩; have HR1 := Lib.hid (HR.out.below hb1); have HX1 := Lib.hid (blk_below HX.out hb1); have HM1 := Lib.hid (HM.out.call (by simp) hb1); have HK1 := Lib.hid (keep_of (ts := rdT) (bthen HB1.out hb1) hBw); have hsz1 := hb1.size; rw [World.size_alloc] at hsz1; clear CS1 c0 c1 c2 c3 f0 f1 f2 f3 x0 x1 x2 x3 x4 z0 z1 z2 z3 z4; obtain ⟨⟨c0, c1, c2, c3⟩, f0, f1, f2, f3⟩ := four HR1.out.cell; obtain ⟨⟨x0, x1, x2, x3, x4⟩, z0, z1, z2, z3, z4⟩ := five HX1.out)
          | (go_at_call 226; go_fit (CP.out _); rintro e w2 ⟨rfl, hb2⟩; clear CP; have HR2 := Lib.hid (HR1.out.below hb2); have HX2 := Lib.hid (blk_below HX1.out hb2); have HM2 := Lib.hid (HM1.out.call HK1.out.size hb2); have HK2 := Lib.hid (HK1.out.call hb2 hBw); clear c0 c1 c2 c3 f0 f1 f2 f3 x0 x1 x2 x3 x4 z0 z1 z2 z3 z4; obtain ⟨⟨c0, c1, c2, c3⟩, f0, f1, f2, f3⟩ := four HR2.out.cell; obtain ⟨⟨x0, x1, x2, x3, x4⟩, z0, z1, z2, z3, z4⟩ := five HX2.out)
          | (go_at_call 225; go_fit (CS2.out _); rintro e w3 ⟨rfl, hb3⟩; clear CS2; have HR3 := Lib.hid (HR2.out.below hb3); have HX3 := Lib.hid (blk_below HX2.out hb3); have HM3 := Lib.hid (HM2.out.call HK2.out.size hb3); have HK3 := Lib.hid (HK2.out.call hb3 hBw); clear c0 c1 c2 c3 f0 f1 f2 f3 x0 x1 x2 x3 x4 z0 z1 z2 z3 z4; obtain ⟨⟨c0, c1, c2, c3⟩, f0, f1, f2, f3⟩ := four HR3.out.cell; obtain ⟨⟨x0, x1, x2, x3, x4⟩, z0, z1, z2, z3, z4⟩ := five HX3.out))
        go_region_law (first
          | (go_simp; go_at_call 203; go_fit (CO.out _); rintro e w4 ⟨rfl, hb4⟩; have hb4' : Below w3.heap.size w3 w4 := ⟨hb4.os, hb4.tape, hb4.output, hb4.size, hb4.block⟩; have HR4 := Lib.hid (HR3.out.below hb4'); have HX4 := Lib.hid (blk_below HX3.out hb4'); have HM4 := Lib.hid (HM3.out.call HK3.out.size hb4'); have HK4 := Lib.hid (HK3.out.call hb4' hBw); have hR4 := HR4.out.lt; have hX4l := (Array.getElem?_eq_some_iff.1 HX4.out).1; obtain ⟨⟨x0, x1, x2, x3, x4⟩, z0, z1, z2, z3, z4⟩ := five HX4.out; obtain ⟨⟨c0, c1, c2, c3⟩, f0, f1, f2, f3⟩ := four HR4.out.cell))
        all_goals have hov1 : ov.ownBlock ≠ some w.heap.size := hov _ hsz
        all_goals have hbv1 : (Value.slice (some ⟨g, 0, none⟩) (t.length + 1) cap).ownBlock ≠ some w.heap.size := fun e => by simp only [Value.ownBlock, Option.some.injEq] at e; omega
        all_goals have hRX : R ≠ w.heap.size := by omega
        all_goals have HRx := Lib.hid (((((HR4.out.aside (i := 0) (v := .int .i64 k) hRX hbv1 hov1).aside (i := 1) (v := .string (str hd.anchor)) hRX hbv1 hov1).aside (i := 2) (v := .string (str hd.tag)) hRX hbv1 hov1).aside (i := 3) (v := .string (str tx)) hRX hbv1 hov1).aside (i := 4) (v := .bool pl) hRX hbv1 hov1)
        all_goals have HXx := Lib.hid (five_set (b0 := .int .i64 k) (b1 := .string (str hd.anchor)) (b2 := .string (str hd.tag)) (b3 := .string (str tx)) (b4 := .bool pl) HX4.out)
        all_goals have HMx := Lib.hid (((((HM4.out.set (g := w.heap.size) (i := 0) (v := .int .i64 k) (.inr (Nat.le_refl _))).set (g := w.heap.size) (i := 1) (v := .string (str hd.anchor)) (.inr (Nat.le_refl _))).set (g := w.heap.size) (i := 2) (v := .string (str hd.tag)) (.inr (Nat.le_refl _))).set (g := w.heap.size) (i := 3) (v := .string (str tx)) (.inr (Nat.le_refl _))).set (g := w.heap.size) (i := 4) (v := .bool pl) (.inr (Nat.le_refl _)))
        all_goals have HKx := Lib.hid (((((HK4.out.fresh (b := w.heap.size) (i := 0) (v := .int .i64 k) (Nat.le_refl _) hBw).fresh (b := w.heap.size) (i := 1) (v := .string (str hd.anchor)) (Nat.le_refl _) hBw).fresh (b := w.heap.size) (i := 2) (v := .string (str hd.tag)) (Nat.le_refl _) hBw).fresh (b := w.heap.size) (i := 3) (v := .string (str tx)) (Nat.le_refl _) hBw).fresh (b := w.heap.size) (i := 4) (v := .bool pl) (Nat.le_refl _) hBw)
        all_goals (
          have HR5 := Lib.hid ((HRx.out).clear)
          have HX5 := Lib.hid (other_set (other_set HXx.out ⟨R, 1, none⟩ (.string ⟨#[]⟩) (fun e => by simp only at e; omega)) ⟨R, 2, none⟩ (.string ⟨#[]⟩) (fun e => by simp only at e; omega))
          have HM5 := Lib.hid (((HMx.out).set (g := R) (i := 1) (v := .string ⟨#[]⟩) (.inl hR0)).set (g := R) (i := 2) (v := .string ⟨#[]⟩) (.inl hR0))
          have HK5 := Lib.hid (((HKx.out).set (i := 1) (v := .string ⟨#[]⟩) (HRx.out).cell (by decide) hB).set (i := 2) (v := .string ⟨#[]⟩) (blk_set (HRx.out).cell 1 _) (by decide) hB)
          clear c0 c1 c2 c3 f0 f1 f2 f3 x0 x1 x2 x3 x4 z0 z1 z2 z3 z4
          obtain ⟨⟨c0, c1, c2, c3⟩, f0, f1, f2, f3⟩ := four HRx.out.cell
          go_wp2_with (go_at_call 174; go_fit (CL.out _ (by have h := HR5.out.cell; exact cell_blk h 0 _ rfl)); rintro e w6 ⟨rfl, hb6⟩; clear CL; have HR6 := Lib.hid (HR5.out.below hb6); have HX6 := Lib.hid (blk_below HX5.out hb6); have HM6 := Lib.hid (HM5.out.call HK5.out.size hb6); have HK6 := Lib.hid (HK5.out.call hb6 hBw); obtain ⟨g6, cap6, cur6, e6, _, _, hg6, t0, t1, t2, t3, tf⟩ := HR6.out.top; cases e6; have HG6 := Lib.hid hg6; clear hg6; have HR7 := Lib.hid (HR6.out.setW false); have hsz6 := hb6.size; have hR6 := HR6.out.lt; have hX6 := (Array.getElem?_eq_some_iff.1 HX6.out).1; have HX7 := Lib.hid (other_set HX6.out ⟨g, t.length * 4 + 3, none⟩ (.bool false) (fun e => by simp only at e; omega)); have HK7 := Lib.hid (HK6.out.set (i := t.length * 4 + 3) (v := .bool false) HG6.out (by decide) hBg); have HU7 := Lib.hid (HU.out.keep HK7.out.size (HM6.out.set (g := g) (i := t.length * 4 + 3) (v := .bool false) (.inl hgl))); obtain ⟨⟨d0, d1, d2, d3⟩, j0, j1, j2, j3⟩ := four HR7.out.cell; obtain ⟨⟨y0, y1, y2, y3, y4⟩, _⟩ := five HX7.out)
          have hle : out.length ≤ 2199023255488 := by omega
          go_region_law (first
            | (refine step_pushE (by rfl) (.tmp 38) (.tmp 40) (by rfl) B ov out ⟨k, hd.anchor, hd.tag, tx, pl⟩ _ _ (0, 0) (by rfl) (by rfl) ?_ ?_ ?_ ?_ ?_; (exact new_at _ _ _ (by simp [World.setCell])); (exact row_below HR7.out.out (bdrew (bnew _ _))); (exact hle); (have := HK7.out.size; rw [World.size_alloc] at *; first | omega | (simp [World.setCell] at *; omega)); intro v8 w8 ho8 hk8 hb8; have HO8 := Lib.hid ho8; have HC8 := Lib.hid (hk8.blk (new_blk _ _ (.cells #[.int .i64 k, .string (str hd.anchor), .string (str hd.tag), .string (str tx), .bool pl] 47) _ HR7.out.cell) (by decide)); have HU8 := Lib.hid ((HU7.out.below (bdrew (bnew _ (.cells #[.int .i64 k, .string (str hd.anchor), .string (str hd.tag), .string (str tx), .bool pl] 47)))).keep hk8.size (fun k hk hks => hb8 k hks (hov k hk))); have HB8 := Lib.hid (hk8.row (row_below HR7.out.blocks (bdrew (bnew _ (.cells #[.int .i64 k, .string (str hd.anchor), .string (str hd.tag), .string (str tx), .bool pl] 47)))) (by decide)); have HK8 := Lib.hid ((HK7.out.call (bdrew (bnew _ (.cells #[.int .i64 k, .string (str hd.anchor), .string (str hd.tag), .string (str tx), .bool pl] 47))) hBw).trans (hk8.wide (by decide))); obtain ⟨va, vc, rfl⟩ := own_slice ho8; have hs8 := HK8.out.size; clear ho8 hk8 hb8)
            | (refine step_appB (by rfl) (.tmp 41) (.tmp 42) (by rfl) B _ _ (out ++ [⟨k, hd.anchor, hd.tag, tx, pl⟩]) ys w0.heap.size (by rfl) (by rfl) ?_ ?_ ?_ ?_ ?_; (have h := HO8.out; rw [List.length_append] at h; exact h); (exact HU8.out); (simp only [List.length_append, List.length_cons, List.length_nil]; omega); omega; intro v9 w9 ho9 hk9; have HO9 := Lib.hid ho9; have HC9 := Lib.hid (hk9.blk HC8.out (by decide)); have HB9 := Lib.hid (hk9.row HB8.out (by decide)); have HK9 := Lib.hid (HK8.out.trans (hk9.wide (by decide))); obtain ⟨va9, vc9, rfl⟩ := own_slice ho9; obtain ⟨⟨e0, e1, e2, e3⟩, i0, i1, i2, i3⟩ := four HC9.out; clear ho9 hk9))
          all_goals go_wp2
          all_goals go_end0
          all_goals have hO := HO9.out
          all_goals rw [List.append_assoc, List.singleton_append, List.length_append, List.length_cons] at hO
          all_goals exact ⟨⟨rfl, _, _, ⟨blk_set HC9.out 3 _, row_set HB9.out HC9.out (by decide), row_set hO HC9.out (by decide)⟩⟩, HK9.out.set HC9.out (by decide) hB⟩
        )
      · have h2' : (⟨an, tg⟩ : Px.Pr).some = true := h2
        rw [h2'] at CS2
        rw [if_pos (.inr rfl)]
        clear h2 h2' k7
        go_enter Tryz.func176, Tryz.ntmps176
        go_wp2_with (first
          | (go_at_call 225; go_fit (CS1.out _); rintro e w1 ⟨rfl, hb1⟩; have HR1 := Lib.hid (HR.out.below hb1); have HX1 := Lib.hid (blk_below HX.out hb1); have HM1 := Lib.hid (HM.out.call (by simp) hb1); have HK1 := Lib.hid (keep_of (ts := rdT) (bthen HB1.out hb1) hBw); have hsz1 := hb1.size; rw [World.size_alloc] at hsz1; clear CS1 c0 c1 c2 c3 f0 f1 f2 f3 x0 x1 x2 x3 x4 z0 z1 z2 z3 z4; obtain ⟨⟨c0, c1, c2, c3⟩, f0, f1, f2, f3⟩ := four HR1.out.cell; obtain ⟨⟨x0, x1, x2, x3, x4⟩, z0, z1, z2, z3, z4⟩ := five HX1.out)
          | (go_at_call 226; go_fit (CP.out _); rintro e w2 ⟨rfl, hb2⟩; clear CP; have HR2 := Lib.hid (HR1.out.below hb2); have HX2 := Lib.hid (blk_below HX1.out hb2); have HM2 := Lib.hid (HM1.out.call HK1.out.size hb2); have HK2 := Lib.hid (HK1.out.call hb2 hBw); clear c0 c1 c2 c3 f0 f1 f2 f3 x0 x1 x2 x3 x4 z0 z1 z2 z3 z4; obtain ⟨⟨c0, c1, c2, c3⟩, f0, f1, f2, f3⟩ := four HR2.out.cell; obtain ⟨⟨x0, x1, x2, x3, x4⟩, z0, z1, z2, z3, z4⟩ := five HX2.out)
          | (go_at_call 225; go_fit (CS2.out _); rintro e w3 ⟨rfl, hb3⟩; clear CS2; have HR3 := Lib.hid (HR2.out.below hb3); have HX3 := Lib.hid (blk_below HX2.out hb3); have HM3 := Lib.hid (HM2.out.call HK2.out.size hb3); have HK3 := Lib.hid (HK2.out.call hb3 hBw); clear c0 c1 c2 c3 f0 f1 f2 f3 x0 x1 x2 x3 x4 z0 z1 z2 z3 z4; obtain ⟨⟨c0, c1, c2, c3⟩, f0, f1, f2, f3⟩ := four HR3.out.cell; obtain ⟨⟨x0, x1, x2, x3, x4⟩, z0, z1, z2, z3, z4⟩ := five HX3.out))
        exact ⟨rfl, rfl, HK3.out⟩
end Go.Proofs.YtjcfmghijfnehaaGreatDoor
