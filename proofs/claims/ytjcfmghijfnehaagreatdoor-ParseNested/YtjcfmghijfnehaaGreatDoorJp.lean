/-
  Walks of reader: endDocument, enter.
-/
import Derived.Test.YtjcfmghijfnehaaGreatDoorJo
import Derived.Test.YtjcfmghijfnehaaGreatDoorJh
namespace Go.Proofs.YtjcfmghijfnehaaGreatDoor
open Go.RowKit

theorem RdrAt.lenAt {w : World} {B R : Nat} {st : Px.St} (h : RdrAt w B R st) : lenAt R w = st.blocks.length := by
  obtain ⟨ba, bc, oa, oc, h⟩ := h.two
  have := cell_blk h.cell 0 _ rfl
  unfold Go.Proofs.YtjcfmghijfnehaaGreatDoor.lenAt
  rw [this]; rfl

set_option maxHeartbeats 4000000 in
set_option maxRecDepth 100000 in
theorem end_any' (B R : Nat) (st : Px.St) (w : World) (h : RdrAt w B R st) (hB : B ≤ R) (hb : st.blocks.length ≤ 1000) (hl : Px.wt st ≤ 2199023255470) :
    Calls Tryz.prog 68 #[.pointer (some ⟨R, 0, none⟩)] w fun e w' => RdrR B R (.ok (Px.endDoc st)) e w' ∧ Keep rdT B w w' := by
  obtain ⟨ANS, hANS⟩ : ∃ ANS, Px.endDoc st = ANS := ⟨_, rfl⟩
  rw [hANS]
  have HA : Hid (Px.endGo st.blocks.length st = ANS) := hANS
  have HH := Lib.hid h
  clear hANS h
  go_enter Tryz.func68, Tryz.ntmps68
  go_wp2
  go_loopw [] (fun wr => ∃ (s : Px.St), Hid (RdrAt wr B R s) ∧ Hid (Px.endGo s.blocks.length s = ANS) ∧ Hid (Keep rdT B w wr) ∧ s.blocks.length ≤ 1000 ∧ Px.wt s ≤ 2199023255470) (fun wr => lenAt R wr)
  case atStart => exact ⟨st, HH, HA, Keep.refl _ _ _, hb, hl⟩
  case round =>
    obtain ⟨s, HS, HK, HKp, hsb, hsl⟩ := hrel
    clear HA HH hb hl
    have HL := Lib.hid HS.out.lenAt
    obtain ⟨ba, bc, oa, oc, hr⟩ := HS.out.two
    obtain ⟨⟨c0, c1, c2, c3⟩, f0, f1, f2, f3⟩ := four hr.cell
    clear hr
    cases hbl : s.blocks with
    | nil =>
      rw [hbl] at c0
      have hA : s = ANS := by rw [← HK.out, hbl]; rfl
      have HA := Lib.hid hA
      clear hA hbl
      go_wp2
      go_end0
      exact ⟨⟨rfl, by rw [← HA.out]; exact HS.out⟩, HKp.out⟩
    | cons b t =>
      rw [hbl] at c0
      have CC := Lib.hid (close_any B R s b t wr HS.out hbl hB (by rw [hbl] at hsb; simp only [List.length_cons] at hsb; omega) (by unfold Px.wt at hsl; omega))
      have hc1 := Px.close1_wt s
      have hc2 := Px.close1_len s
      have HA : Hid (Px.endGo (Px.close1 s).blocks.length (Px.close1 s) = ANS) := by
        show _ = _
        rw [hc2, ← HK.out, hbl]
        rfl
      have hpos : s.blocks.length = t.length + 1 := by rw [hbl]; rfl
      have hn : (0 : Int) < (((b :: t).length : Nat) : Int) := by simp only [List.length_cons]; omega
      clear hbl
      generalize (b :: t).length = nn at *
      go_wp2_with (go_at_call 116; go_fit CC.out; rintro e w1 ⟨⟨rfl, hr1⟩, hk1⟩)
      go_roundw
      case rel => exact ⟨Px.close1 s, hr1, HA, HKp.out.trans hk1, by omega, by omega⟩
      case measure => rw [hr1.lenAt, HL.out, hc2, hpos]; omega

set_option maxHeartbeats 8000000 in
set_option maxRecDepth 100000 in
theorem enter_any (B R : Nat) (st : Px.St) (b : Px.Bk) (t : List Px.Bk) (kind fin col : Int) (w : World) (h : RdrAt w B R st) (hbl : st.blocks = b :: t) (hB : B ≤ R) (ht : t.length ≤ 900) (hl : st.out.length ≤ 2199023255460) (hk7 : kind ≠ 7) :
    Calls Tryz.prog 179 #[.pointer (some ⟨R, 0, none⟩), .int .i64 kind, .int .i64 fin, .int .i64 col] w fun e w' => RdrR B R (Px.enter st kind fin col) e w' ∧ Keep rdT B w w' := by
  have HH := Lib.hid h
  obtain ⟨bv, ov, h⟩ := h
  have hR := h.lt
  have hBw : B ≤ w.heap.size := by omega
  obtain ⟨bs, hd, out⟩ := st
  simp only at hbl hl
  subst hbl
  obtain ⟨g, cap, cur, rfl, hBg, hcap, hg, t0, t1, t2, t3, tf⟩ := h.top
  have CL1 := Lib.hid (fun g cap w hc => last_any R g t.length cap w hc (by omega))
  have CL2 := Lib.hid (fun g cap w hc => last_any R g t.length cap w hc (by omega))
  have CD := Lib.hid (fun a cap w hc => rdepth_any R t.length cap a w hc (by omega))
  have HR0 := Lib.hid h
  have HK0 := Lib.hid (Keep.refl rdT B w)
  have c0 := cell_blk h.cell 0 _ rfl
  clear h hg
  unfold Px.enter
  simp only
  by_cases hkc : b.kind = kind ∧ b.col = col
  · rw [if_pos hkc]
    obtain ⟨h1, h2⟩ := hkc
    have q1 : (b.kind == kind) = true := beq_iff_eq.2 h1
    have q2 : (b.col == col) = true := beq_iff_eq.2 h2
    clear h1 h2 CD
    go_enter Tryz.func179, Tryz.ntmps179
    go_wp2_with (first
      | (go_at_call 174; go_fit (CL1.out _ _ _ c0); rintro e w1 ⟨rfl, hb1⟩; clear CL1 t0 t1 t2 t3 tf c0; have HR1 := Lib.hid (HR0.out.below hb1); have HK1 := Lib.hid (HK0.out.call hb1 hBw); obtain ⟨g1, cap1, cur1, e1, _, _, hg1, t0, t1, t2, t3, tf⟩ := HR1.out.top; cases e1; clear hg1; have c0 := cell_blk HR1.out.cell 0 _ rfl)
      | (go_at_call 174; go_fit (CL2.out _ _ _ c0); rintro e w2 ⟨rfl, hb2⟩; clear CL2 t0 t1 t2 t3 tf c0; have HR2 := Lib.hid (HR1.out.below hb2); have HK2 := Lib.hid (HK1.out.call hb2 hBw); obtain ⟨g2, cap2, cur2, e2, _, _, hg2, t0, t1, t2, t3, tf⟩ := HR2.out.top; cases e2; clear hg2; have c0 := cell_blk HR2.out.cell 0 _ rfl))
    first | go_end0 | refine bodyPost_ret (results_none rfl _ _ _) rfl ?_
    exact ⟨⟨rfl, _, _, HR2.out⟩, HK2.out⟩
  · rw [if_neg hkc]
    have q0 : (b.kind == kind) = false ∨ ((b.kind == kind) = true ∧ (b.col == col) = false) := by
      by_cases h1 : b.kind = kind
      · exact .inr ⟨beq_iff_eq.2 h1, beq_eq_false_iff_ne.2 fun h2 => hkc ⟨h1, h2⟩⟩
      · exact .inl (beq_eq_false_iff_ne.2 h1)
    clear hkc
    by_cases h40 : 40 ≤ t.length
    · rw [if_pos h40]
      have h40' : (40 : Int) ≤ (t.length : Int) := by omega
      rcases q0 with q1 | ⟨q1, q2⟩
      · go_enter Tryz.func179, Tryz.ntmps179
        go_wp2_with (first
          | (go_at_call 174; go_fit (CL1.out _ _ _ c0); rintro e w1 ⟨rfl, hb1⟩; clear CL1 t0 t1 t2 t3 tf c0; have HR1 := Lib.hid (HR0.out.below hb1); have HK1 := Lib.hid (HK0.out.call hb1 hBw); obtain ⟨g1, cap1, cur1, e1, _, _, hg1, t0, t1, t2, t3, tf⟩ := HR1.out.top; cases e1; clear hg1; have c0 := cell_blk HR1.out.cell 0 _ rfl)
          | (go_at_call 173; go_fit (CD.out _ _ _ c0); rintro e w' ⟨rfl, rfl⟩))
        exact ⟨rfl, rfl, HK1.out⟩
      · go_enter Tryz.func179, Tryz.ntmps179
        go_wp2_with (first
          | (go_at_call 174; go_fit (CL1.out _ _ _ c0); rintro e w1 ⟨rfl, hb1⟩; clear CL1 t0 t1 t2 t3 tf c0; have HR1 := Lib.hid (HR0.out.below hb1); have HK1 := Lib.hid (HK0.out.call hb1 hBw); obtain ⟨g1, cap1, cur1, e1, _, _, hg1, t0, t1, t2, t3, tf⟩ := HR1.out.top; cases e1; clear hg1; have c0 := cell_blk HR1.out.cell 0 _ rfl)
          | (go_at_call 174; go_fit (CL2.out _ _ _ c0); rintro e w2 ⟨rfl, hb2⟩; clear CL2 t0 t1 t2 t3 tf c0; have HR2 := Lib.hid (HR1.out.below hb2); have HK2 := Lib.hid (HK1.out.call hb2 hBw); obtain ⟨g2, cap2, cur2, e2, _, _, hg2, t0, t1, t2, t3, tf⟩ := HR2.out.top; cases e2; clear hg2; have c0 := cell_blk HR2.out.cell 0 _ rfl)
          | (go_at_call 173; go_fit (CD.out _ _ _ c0); rintro e w' ⟨rfl, rfl⟩))
        exact ⟨rfl, rfl, HK2.out⟩
    · rw [if_neg h40]
      have h40' : ¬ (40 : Int) ≤ (t.length : Int) := by omega
      have CC := Lib.hid (fun w6 (hb : Below w.heap.size w w6) => comes_any B R ⟨b :: t, hd, out⟩ b t (Px.ev kind) (.slice none 0 0) [] w w6 HH.out hb rfl hB (.inl ⟨rfl, rfl⟩) (by omega) (by simp only [List.length_nil]; omega))
      have hcp : Px.comes ⟨b :: t, hd, out⟩ (Px.ev kind) [] = .ok ⟨b.still :: t, Px.nop, out ++ [hd.on (Px.ev kind)]⟩ := Px.comes_plain _ _ hk7 rfl rfl
      have hho : evV (Px.ev kind) = .agg #[.int .i64 kind, .string ⟨#[]⟩, .string ⟨#[]⟩, .string ⟨#[]⟩, .bool false] := rfl
      rw [hho, hcp] at CC
      clear hcp hho HH
      rcases q0 with q1 | ⟨q1, q2⟩
      · go_enter Tryz.func179, Tryz.ntmps179
        go_wp2_with (first
          | (go_at_call 174; go_fit (CL1.out _ _ _ c0); rintro e w1 ⟨rfl, hb1⟩; clear CL1 t0 t1 t2 t3 tf c0; have HR1 := Lib.hid (HR0.out.below hb1); have HK1 := Lib.hid (HK0.out.call hb1 hBw); obtain ⟨g1, cap1, cur1, e1, _, _, hg1, t0, t1, t2, t3, tf⟩ := HR1.out.top; cases e1; clear hg1; have c0 := cell_blk HR1.out.cell 0 _ rfl)
          | (go_at_call 173; go_fit (CD.out _ _ _ c0); rintro e w' ⟨rfl, rfl⟩; clear CD; have HB1 := Lib.hid (hb1))
          | (go_at_call 176; go_fit (CC.out _ HB1.out); rintro e w6 ⟨⟨rfl, hr6⟩, hk6⟩; clear CC; obtain ⟨ba6, bc6, oa6, oc6, hr6⟩ := hr6.two; have HR6 := Lib.hid hr6; have HK6 := Lib.hid (HK1.out.trans hk6); clear c0; obtain ⟨⟨c0, c1, c2, c3⟩, f0, f1, f2, f3⟩ := four hr6.cell; clear hr6)
          | (at_builtin; refine wpList_pushB (by rfl) (.tmp 36) (.tmp 41) (by rfl) B _ (b.still :: t) ⟨kind, fin, col, false⟩ _ _ (0, 0) (by rfl) (by rfl) ?_ ?_ ?_ ?_ ?_; (exact new_at _ _ _ (by simp)); (exact row_below HR6.out.blocks (bnew _ _)); (simp only [List.length_cons]; omega); (exact Nat.le_trans hBw (HK6.out.call (bnew _ (.cells #[.int .i64 kind, .int .i64 fin, .int .i64 col, .bool false] 193)) hBw).size); intro v7 w7 ho7 hk7; have HC7 := Lib.hid (hk7.blk (new_blk _ _ (.cells #[.int .i64 kind, .int .i64 fin, .int .i64 col, .bool false] 193) _ HR6.out.cell) (by decide)); have HO7 := Lib.hid (hk7.row (row_below HR6.out.out (bnew _ (.cells #[.int .i64 kind, .int .i64 fin, .int .i64 col, .bool false] 193))) (by decide)); have HK7 := Lib.hid ((HK6.out.call (bnew _ (.cells #[.int .i64 kind, .int .i64 fin, .int .i64 col, .bool false] 193)) hBw).trans (hk7.wide (by decide))); obtain ⟨vb, vd, rfl⟩ := own_slice ho7; have HB7 := Lib.hid ho7; clear ho7 hk7; obtain ⟨⟨e0, e1, e2, e3⟩, i0, i1, i2, i3⟩ := four HC7.out))
        go_end0
        exact ⟨⟨rfl, _, _, ⟨blk_set HC7.out 0 _, row_set HB7.out HC7.out (by decide), row_set HO7.out HC7.out (by decide)⟩⟩, HK7.out.set (i := 0) HC7.out (by decide) hB⟩
      · go_enter Tryz.func179, Tryz.ntmps179
        go_wp2_with (first
          | (go_at_call 174; go_fit (CL1.out _ _ _ c0); rintro e w1 ⟨rfl, hb1⟩; clear CL1 t0 t1 t2 t3 tf c0; have HR1 := Lib.hid (HR0.out.below hb1); have HK1 := Lib.hid (HK0.out.call hb1 hBw); obtain ⟨g1, cap1, cur1, e1, _, _, hg1, t0, t1, t2, t3, tf⟩ := HR1.out.top; cases e1; clear hg1; have c0 := cell_blk HR1.out.cell 0 _ rfl)
          | (go_at_call 174; go_fit (CL2.out _ _ _ c0); rintro e w2 ⟨rfl, hb2⟩; clear CL2 t0 t1 t2 t3 tf c0; have HR2 := Lib.hid (HR1.out.below hb2); have HK2 := Lib.hid (HK1.out.call hb2 hBw); obtain ⟨g2, cap2, cur2, e2, _, _, hg2, t0, t1, t2, t3, tf⟩ := HR2.out.top; cases e2; clear hg2; have c0 := cell_blk HR2.out.cell 0 _ rfl)
          | (go_at_call 173; go_fit (CD.out _ _ _ c0); rintro e w' ⟨rfl, rfl⟩; clear CD; have HB2 := Lib.hid (bthen hb1 hb2))
          | (go_at_call 176; go_fit (CC.out _ HB2.out); rintro e w6 ⟨⟨rfl, hr6⟩, hk6⟩; clear CC; obtain ⟨ba6, bc6, oa6, oc6, hr6⟩ := hr6.two; have HR6 := Lib.hid hr6; have HK6 := Lib.hid (HK2.out.trans hk6); clear c0; obtain ⟨⟨c0, c1, c2, c3⟩, f0, f1, f2, f3⟩ := four hr6.cell; clear hr6)
          | (at_builtin; refine wpList_pushB (by rfl) (.tmp 36) (.tmp 41) (by rfl) B _ (b.still :: t) ⟨kind, fin, col, false⟩ _ _ (0, 0) (by rfl) (by rfl) ?_ ?_ ?_ ?_ ?_; (exact new_at _ _ _ (by simp)); (exact row_below HR6.out.blocks (bnew _ _)); (simp only [List.length_cons]; omega); (exact Nat.le_trans hBw (HK6.out.call (bnew _ (.cells #[.int .i64 kind, .int .i64 fin, .int .i64 col, .bool false] 193)) hBw).size); intro v7 w7 ho7 hk7; have HC7 := Lib.hid (hk7.blk (new_blk _ _ (.cells #[.int .i64 kind, .int .i64 fin, .int .i64 col, .bool false] 193) _ HR6.out.cell) (by decide)); have HO7 := Lib.hid (hk7.row (row_below HR6.out.out (bnew _ (.cells #[.int .i64 kind, .int .i64 fin, .int .i64 col, .bool false] 193))) (by decide)); have HK7 := Lib.hid ((HK6.out.call (bnew _ (.cells #[.int .i64 kind, .int .i64 fin, .int .i64 col, .bool false] 193)) hBw).trans (hk7.wide (by decide))); obtain ⟨vb, vd, rfl⟩ := own_slice ho7; have HB7 := Lib.hid ho7; clear ho7 hk7; obtain ⟨⟨e0, e1, e2, e3⟩, i0, i1, i2, i3⟩ := four HC7.out))
        go_end0
        exact ⟨⟨rfl, _, _, ⟨blk_set HC7.out 0 _, row_set HB7.out HC7.out (by decide), row_set HO7.out HC7.out (by decide)⟩⟩, HK7.out.set (i := 0) HC7.out (by decide) hB⟩
end Go.Proofs.YtjcfmghijfnehaaGreatDoor
