/-
  Walks of reader: hold, closeLast.
-/
import Derived.Test.YtjcfmghijfnehaaGreatDoorJl
namespace Go.Proofs.YtjcfmghijfnehaaGreatDoor
open Go.RowKit
namespace Px
theorem nop_of (p : Pr) (h : p.some = false) : p = nop := by
  obtain ⟨a, t⟩ := p
  unfold Pr.some at h
  cases a <;> cases t <;> simp at h
  rfl
/-- an event without properties comes -/
theorem comes_plain (s : St) (x : Ev.E) (h1 : x.kind ≠ 7) (h2 : x.anchor = []) (h3 : x.tag = []) : comes s x [] = .ok (fill s x) := by
  unfold comes dress fill
  obtain ⟨k, a, t, tx, pl⟩ := x
  simp only at h1 h2 h3
  subst h2 h3
  cases hs : s.held.some
  · rw [if_neg (by decide)]
    have := nop_of _ hs
    rw [this]
    rfl
  · rw [if_pos rfl, if_neg (by simp [h1, prOf, Pr.some])]
end Px

set_option maxHeartbeats 2000000 in
theorem hold_any (B R : Nat) (st : Px.St) (p : Px.Pr) (w : World) (h : RdrAt w B R st) (hB : B ≤ R) :
    Calls Tryz.prog 227 #[.pointer (some ⟨R, 0, none⟩), prV p] w fun e w' => RdrR B R (Px.hold st p) e w' ∧ Keep rdT B w w' := by
  obtain ⟨bv, ov, h⟩ := h
  have hR := h.lt
  have hBw : B ≤ w.heap.size := by omega
  have HB := Lib.hid (bnew w (.cells #[.string (str p.anchor), .string (str p.tag)] 117))
  have HR := Lib.hid (h.below HB.out)
  have HX := Lib.hid (alloc_blk w (.cells #[.string (str p.anchor), .string (str p.tag)] 117))
  obtain ⟨⟨c0, c1, c2, c3⟩, f0, f1, f2, f3⟩ := four HR.out.cell
  have CS := Lib.hid (fun w => some_any st.held w)
  have hpr : prV st.held = .agg #[.string (str st.held.anchor), .string (str st.held.tag)] := rfl
  have hpr2 : prV p = .agg #[.string (str p.anchor), .string (str p.tag)] := rfl
  rw [hpr] at CS
  rw [hpr2]
  unfold Px.hold
  clear h hpr hpr2
  cases hs : st.held.some
  · rw [hs] at CS
    simp only [Bool.false_eq_true, if_false]
    clear hs
    go_enter Tryz.func227, Tryz.ntmps227
    go_wp2_with (go_at_call 225; go_fit (CS.out _); rintro e w1 ⟨rfl, hb1⟩; have HR1 := Lib.hid (HR.out.below hb1); obtain ⟨⟨x0, x1⟩, _⟩ := two (blk_below HX.out hb1); clear c0 c1 c2 c3 f0 f1 f2 f3; obtain ⟨⟨c0, c1, c2, c3⟩, f0, f1, f2, f3⟩ := four HR1.out.cell)
    go_end0
    exact ⟨⟨rfl, _, _, HR1.out.hold p⟩, ((keep_of (bthen HB.out hb1) hBw).set (i := 1) (v := .string (str p.anchor)) HR1.out.cell (by decide) hB).set (i := 2) (v := .string (str p.tag)) (blk_set HR1.out.cell 1 _) (by decide) hB⟩
  · rw [hs] at CS
    simp only [if_true]
    clear hs
    go_enter Tryz.func227, Tryz.ntmps227
    go_wp2_with (go_at_call 225; go_fit (CS.out _); rintro e w1 ⟨rfl, hb1⟩)
    exact ⟨rfl, rfl, keep_of (bthen HB.out hb1) hBw⟩

set_option maxHeartbeats 8000000 in
set_option maxRecDepth 100000 in
theorem close_any (B R : Nat) (st : Px.St) (b : Px.Bk) (t : List Px.Bk) (w : World) (h : RdrAt w B R st) (hbl : st.blocks = b :: t) (hB : B ≤ R) (ht : t.length ≤ 1000) (hl : st.out.length ≤ 2199023255470) :
    Calls Tryz.prog 116 #[.pointer (some ⟨R, 0, none⟩)] w fun e w' => RdrR B R (.ok (Px.close1 st)) e w' ∧ Keep rdT B w w' := by
  have HH := Lib.hid h
  obtain ⟨bv, ov, h⟩ := h
  have hR := h.lt
  have hBw : B ≤ w.heap.size := by omega
  obtain ⟨bs, hd, out⟩ := st
  simp only at hbl hl
  subst hbl
  obtain ⟨g, cap, cur, rfl, hBg, hcap, hg, t0, t1, t2, t3, tf⟩ := h.top
  have CL := Lib.hid (fun g cap w hc => last_any R g t.length cap w hc (by omega))
  have CL2 := Lib.hid (fun g cap w hc => last_any R g t.length cap w hc (by omega))
  have HR := Lib.hid h
  have c0 := cell_blk h.cell 0 _ rfl
  have hap : ∀ n : Nat, n ≤ 1000 → IntKind.i64.wrap (((n + 1 : Nat) : Int) - 1) = (n : Int) := fun n hn => by rw [IntWalk.i64_in _ (by omega)]; omega
  have hap1 := hap t.length ht
  have hc1 : (t.length : Int) ≤ (cap : Int) := by omega
  have hc0 : (0 : Int) ≤ (t.length : Int) := by omega
  clear h hap hg
  unfold Px.close1
  simp only
  cases hw : b.waits
  · rw [hw] at t3
    simp only [Bool.false_eq_true, if_false]
    go_enter Tryz.func116, Tryz.ntmps116
    go_upto_region 2 with (go_at_call 174; go_fit (CL.out _ _ _ c0); rintro e w1 ⟨rfl, hb1⟩; clear CL t0 t1 t2 t3 tf c0; have HR1 := Lib.hid (HR.out.below hb1); have HK1 := Lib.hid (keep_of (ts := rdT) hb1 hBw); obtain ⟨g1, cap1, cur1, e1, _, _, hg1, t0, t1, t2, t3, tf⟩ := HR1.out.top; cases e1; clear hg1; rw [hw] at t3; obtain ⟨⟨c0, c1, c2, c3⟩, f0, f1, f2, f3⟩ := four HR1.out.cell; have hR1 := HR1.out.lt)
    go_region_law (first
      | (refine step_pushE (by rfl) (.tmp 14) (.tmp 21) (by rfl) B ov out (Px.ev b.fin) _ _ (0, 0) (by rfl) (by rfl) ?_ ?_ ?_ ?_ ?_; (exact new_at _ _ _ (by simp)); (exact row_below HR2.out.out (bnew _ _)); (first | omega | (simp only [List.length_append, List.length_cons, List.length_nil]; omega)); (exact Nat.le_trans hBw (HK2.out.call (bnew _ (.cells #[.int .i64 b.fin, .string ⟨#[]⟩, .string ⟨#[]⟩, .string ⟨#[]⟩, .bool false] 47)) hBw).size); intro v3 w3 ho3 hk3 hb3; have HO3 := Lib.hid ho3; have HC3 := Lib.hid (hk3.blk (new_blk _ _ (.cells #[.int .i64 b.fin, .string ⟨#[]⟩, .string ⟨#[]⟩, .string ⟨#[]⟩, .bool false] 47) _ HR2.out.cell) (by decide)); have HB3 := Lib.hid (hk3.row (row_below HR2.out.blocks (bnew _ (.cells #[.int .i64 b.fin, .string ⟨#[]⟩, .string ⟨#[]⟩, .string ⟨#[]⟩, .bool false] 47))) (by decide)); have HK3 := Lib.hid ((HK2.out.call (bnew _ (.cells #[.int .i64 b.fin, .string ⟨#[]⟩, .string ⟨#[]⟩, .string ⟨#[]⟩, .bool false] 47)) hBw).trans (hk3.wide (by decide))); obtain ⟨va, vc, rfl⟩ := own_slice ho3; obtain ⟨⟨d0, d1, d2, d3⟩, j0, j1, j2, j3⟩ := four HC3.out; clear ho3 hk3 hb3)
      | (go_simp; go_at_call 174; go_fit (CL2.out _ _ w1.drew c0); rintro e w2 ⟨rfl, hb2⟩; have hb2' : Below w1.heap.size w1 w2 := ⟨hb2.os, hb2.tape, hb2.output, hb2.size, hb2.block⟩; have HR2 := Lib.hid (HR1.out.below hb2'); have HK2 := Lib.hid (HK1.out.call hb2' hBw); obtain ⟨g2, cap2, cur2, e2, _, _, hg2, u0, u1, u2, u3, uf⟩ := HR2.out.top; cases e2; clear hg2; obtain ⟨⟨d0, d1, d2, d3⟩, j0, j1, j2, j3⟩ := four HR2.out.cell; have hR2 := HR2.out.lt))
    all_goals clear CL2 t0 t1 t2 t3 tf c0 c1 c2 c3 f0 f1 f2 f3 u0 u1 u2 u3 uf
    all_goals have HO4 : Hid (OwnE w3 B (.slice va (out.length + 1) vc) (out ++ [Px.ev b.fin])) := (by have h := HO3.out; simp only [List.length_append, List.length_cons, List.length_nil, Nat.zero_add] at h; exact h)
    all_goals have HR4 := Lib.hid (show RdAt (w3.setCell ⟨R, 3, none⟩ (.slice va (out.length + 1) vc)) B R (.slice (some ⟨g, 0, none⟩) (t.length + 1) cap) (.slice va (out.length + 1) vc) ⟨b :: t, hd, out ++ [Px.ev b.fin]⟩ from ⟨blk_set HC3.out 3 _, row_set HB3.out HC3.out (by decide), row_set HO4.out HC3.out (by decide)⟩)
    all_goals have HK4 := Lib.hid (HK3.out.set (i := 3) (v := .slice va (out.length + 1) vc) HC3.out (by decide) hB)
    all_goals obtain ⟨⟨e0, e1, e2, e3⟩, i0, i1, i2, i3⟩ := four HR4.out.cell
    all_goals have hcz : ¬ cap = 0 := (by omega)
    all_goals go_upto_region 3 with fail
    all_goals go_region
    all_goals go_wp2
    all_goals go_end0
    all_goals exact ⟨⟨rfl, _, _, (HR4.out.setB (OwnB.pop HR4.out.blocks)).drew⟩, (HK4.out.set (i := 0) HR4.out.cell (by decide) hB).drew⟩
  · rw [hw] at t3
    simp only [if_true]
    have CE := Lib.hid (fun w => emptyNode_any w)
    have CC := Lib.hid (fun w6 (hb : Below w.heap.size w w6) => comes_any B R ⟨b :: t, hd, out⟩ b t Px.hole (.slice none 0 0) [] w w6 HH.out hb rfl hB (.inl ⟨rfl, rfl⟩) ht (by simp only [List.length_nil]; omega))
    have hcp : Px.comes ⟨b :: t, hd, out⟩ Px.hole [] = .ok ⟨⟨b.kind, b.fin, b.col, false⟩ :: t, Px.nop, out ++ [hd.on Px.hole]⟩ := Px.comes_plain _ _ (by decide) rfl rfl
    have hho : evV Px.hole = .agg #[.int .i64 6, .string ⟨#[]⟩, .string ⟨#[]⟩, .string ⟨#[]⟩, .bool true] := rfl
    rw [hho] at CE CC
    rw [hcp] at CC
    clear hcp hho HH
    go_enter Tryz.func116, Tryz.ntmps116
    go_upto_region 2 with (first
      | (go_at_call 174; go_fit (CL.out _ _ _ c0); rintro e w5 ⟨rfl, hb5⟩; clear CL t0 t1 t2 t3 tf c0; have HR5 := Lib.hid (HR.out.below hb5); obtain ⟨g5, cap5, cur5, e5, _, _, hg5, t0, t1, t2, t3, tf⟩ := HR5.out.top; cases e5; clear hg5; rw [hw] at t3)
      | (go_at_call 177; go_fit (CE.out _); rintro e w6 ⟨rfl, hb6⟩; clear CE t0 t1 t2 t3 tf; have HB6 := Lib.hid (bthen hb5 hb6))
      | (go_at_call 176; go_fit (CC.out _ HB6.out); rintro e w1 ⟨⟨rfl, bv1, ov1, hr1⟩, hk1⟩; clear CC; have HR1 := Lib.hid hr1; have HK1 := Lib.hid ((keep_of (ts := rdT) HB6.out hBw).trans hk1); obtain ⟨g1, cap1, cur1, e1, hBg1, hcap1, hg1, t0, t1, t2, t3, tf⟩ := hr1.top; subst e1; clear hg1; have hc11 : (t.length : Int) ≤ (cap1 : Int) := (by omega); obtain ⟨⟨c0, c1, c2, c3⟩, f0, f1, f2, f3⟩ := four hr1.cell; have hR1 := hr1.lt; clear hr1))
    go_region_law (first
      | (refine step_pushE (by rfl) (.tmp 14) (.tmp 21) (by rfl) B ov1 (out ++ [hd.on Px.hole]) (Px.ev b.fin) _ _ (0, 0) (by rfl) (by rfl) ?_ ?_ ?_ ?_ ?_; (exact new_at _ _ _ (by simp)); (exact row_below HR2.out.out (bnew _ _)); (first | omega | (simp only [List.length_append, List.length_cons, List.length_nil]; omega)); (exact Nat.le_trans hBw (HK2.out.call (bnew _ (.cells #[.int .i64 b.fin, .string ⟨#[]⟩, .string ⟨#[]⟩, .string ⟨#[]⟩, .bool false] 47)) hBw).size); intro v3 w3 ho3 hk3 hb3; have HO3 := Lib.hid ho3; have HC3 := Lib.hid (hk3.blk (new_blk _ _ (.cells #[.int .i64 b.fin, .string ⟨#[]⟩, .string ⟨#[]⟩, .string ⟨#[]⟩, .bool false] 47) _ HR2.out.cell) (by decide)); have HB3 := Lib.hid (hk3.row (row_below HR2.out.blocks (bnew _ (.cells #[.int .i64 b.fin, .string ⟨#[]⟩, .string ⟨#[]⟩, .string ⟨#[]⟩, .bool false] 47))) (by decide)); have HK3 := Lib.hid ((HK2.out.call (bnew _ (.cells #[.int .i64 b.fin, .string ⟨#[]⟩, .string ⟨#[]⟩, .string ⟨#[]⟩, .bool false] 47)) hBw).trans (hk3.wide (by decide))); obtain ⟨va, vc, rfl⟩ := own_slice ho3; obtain ⟨⟨d0, d1, d2, d3⟩, j0, j1, j2, j3⟩ := four HC3.out; clear ho3 hk3 hb3)
      | (go_simp; go_at_call 174; go_fit (CL2.out _ _ w1.drew c0); rintro e w2 ⟨rfl, hb2⟩; have hb2' : Below w1.heap.size w1 w2 := ⟨hb2.os, hb2.tape, hb2.output, hb2.size, hb2.block⟩; have HR2 := Lib.hid (HR1.out.below hb2'); have HK2 := Lib.hid (HK1.out.call hb2' hBw); obtain ⟨g2, cap2, cur2, e2, _, _, hg2, u0, u1, u2, u3, uf⟩ := HR2.out.top; cases e2; clear hg2; obtain ⟨⟨d0, d1, d2, d3⟩, j0, j1, j2, j3⟩ := four HR2.out.cell; have hR2 := HR2.out.lt))
    all_goals clear CL2 t0 t1 t2 t3 tf c0 c1 c2 c3 f0 f1 f2 f3 u0 u1 u2 u3 uf
    all_goals have HO4 : Hid (OwnE w3 B (.slice va (out.length + 1 + 1) vc) ((out ++ [hd.on Px.hole]) ++ [Px.ev b.fin])) := (by have h := HO3.out; simp only [List.length_append, List.length_cons, List.length_nil, Nat.zero_add] at h; exact h)
    all_goals have HR4 := Lib.hid (show RdAt (w3.setCell ⟨R, 3, none⟩ (.slice va (out.length + 1 + 1) vc)) B R (.slice (some ⟨g1, 0, none⟩) (t.length + 1) cap1) (.slice va (out.length + 1 + 1) vc) ⟨⟨b.kind, b.fin, b.col, false⟩ :: t, Px.nop, (out ++ [hd.on Px.hole]) ++ [Px.ev b.fin]⟩ from ⟨blk_set HC3.out 3 _, row_set HB3.out HC3.out (by decide), row_set HO4.out HC3.out (by decide)⟩)
    all_goals have HK4 := Lib.hid (HK3.out.set (i := 3) (v := .slice va (out.length + 1 + 1) vc) HC3.out (by decide) hB)
    all_goals obtain ⟨⟨e0, e1, e2, e3⟩, i0, i1, i2, i3⟩ := four HR4.out.cell
    all_goals have hcz : ¬ cap1 = 0 := (by omega)
    all_goals go_upto_region 3 with fail
    all_goals go_region
    all_goals go_wp2
    all_goals go_end0
    all_goals exact ⟨⟨rfl, _, _, (by have h := HR4.out.setB (OwnB.pop HR4.out.blocks); rw [List.append_assoc] at h; exact h.drew)⟩, (HK4.out.set (i := 0) HR4.out.cell (by decide) hB).drew⟩
end Go.Proofs.YtjcfmghijfnehaaGreatDoor
