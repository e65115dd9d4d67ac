/-
  The walk of reader.value.
-/
import Derived.Test.YtjcfmghijfnehaaGreatDoorJr
namespace Go.Proofs.YtjcfmghijfnehaaGreatDoor
open Go.RowKit

set_option maxHeartbeats 16000000 in
set_option maxRecDepth 100000 in
theorem value_any (B R : Nat) (st : Px.St) (b : Px.Bk) (t : List Px.Bk) (v : Value) (ws : List Lx.Wd) (tx : List UInt8) (w : World) (h : RdrAt w B R st) (hbl : st.blocks = b :: t) (hB : B ≤ R) (ht : t.length ≤ 40) (hl : st.out.length + 2 * ws.length ≤ 2199023255400)
    (hW : RdW w B v ws) :
    Calls Tryz.prog 182 #[.pointer (some ⟨R, 0, none⟩), v, .string (str tx)] w fun e w' => RdrR B R (Px.value st ws tx) e w' ∧ Keep rdT B w w' := by
  have hR := h.lt
  have hBw : B ≤ w.heap.size := by omega
  have CC := Lib.hid (cut_any v ws B w hW hBw)
  have HR := Lib.hid h
  have HW := Lib.hid hW
  obtain ⟨va, vc, rfl, _, _⟩ := hW
  unfold Px.value
  clear h
  cases hc : Px.cutP Px.nop ws with
  | error n =>
    rw [hc] at CC
    unfold CutR fault at CC
    simp only at CC
    clear hc
    go_enter Tryz.func182, Tryz.ntmps182
    go_wp2_with (go_at_call 201; go_fit CC.out; rintro e w2 ⟨rfl, hb2⟩)
    exact ⟨rfl, rfl, keep_of hb2 hBw⟩
  | ok y =>
    obtain ⟨p, r⟩ := y
    rw [hc] at CC
    unfold CutR at CC
    simp only at CC ⊢
    have hpr : prV p = .agg #[.string (str p.anchor), .string (str p.tag)] := rfl
    rw [hpr] at CC
    clear hc
    cases r with
    | nil =>
      rw [if_pos (by rfl)]
      have CH := Lib.hid (fun w1 h => hold_any B R st p w1 h hB)
      rw [hpr] at CH
      clear hpr
      cases ho : Px.hold st p with
      | error n =>
        rw [ho] at CH
        unfold RdrR fault at CH
        simp only at CH
        clear ho
        go_enter Tryz.func182, Tryz.ntmps182
        go_wp2_with (first
          | (go_at_call 201; go_fit CC.out; rintro e w2 ⟨⟨v2, rfl, hv2⟩, hb2⟩; clear CC; have HV2 := Lib.hid (hv2.below (Below.mono (bnew w2 (.cells #[.string (str p.anchor), .string (str p.tag)] 117)) (Nat.le_trans hBw hb2.size))); have HR2 := Lib.hid ((HR.out.call hb2).call (bnew w2 (.cells #[.string (str p.anchor), .string (str p.tag)] 117))); have HK2 := Lib.hid ((keep_of (ts := rdT) hb2 hBw).alloc hBw (.cells #[.string (str p.anchor), .string (str p.tag)] 117)); obtain ⟨⟨y0, y1⟩, _⟩ := two (alloc_blk w2 (.cells #[.string (str p.anchor), .string (str p.tag)] 117)); have HW2 := Lib.hid ((HW.out.below (hb2.mono hBw)).below (Below.mono (bnew w2 (.cells #[.string (str p.anchor), .string (str p.tag)] 117)) (Nat.le_trans hBw hb2.size))); obtain ⟨a2, c2, rfl⟩ := hv2.nil_form)
          | (go_at_call 227; go_fit (CH.out _ HR2.out); rintro e w3 ⟨rfl, hk3⟩))
        exact ⟨rfl, rfl, HK2.out.trans hk3⟩
      | ok s1 =>
        rw [ho] at CH
        unfold RdrR at CH
        simp only at CH
        clear ho
        go_enter Tryz.func182, Tryz.ntmps182
        go_wp2_with (first
          | (go_at_call 201; go_fit CC.out; rintro e w2 ⟨⟨v2, rfl, hv2⟩, hb2⟩; clear CC; have HV2 := Lib.hid (hv2.below (Below.mono (bnew w2 (.cells #[.string (str p.anchor), .string (str p.tag)] 117)) (Nat.le_trans hBw hb2.size))); have HR2 := Lib.hid ((HR.out.call hb2).call (bnew w2 (.cells #[.string (str p.anchor), .string (str p.tag)] 117))); have HK2 := Lib.hid ((keep_of (ts := rdT) hb2 hBw).alloc hBw (.cells #[.string (str p.anchor), .string (str p.tag)] 117)); obtain ⟨⟨y0, y1⟩, _⟩ := two (alloc_blk w2 (.cells #[.string (str p.anchor), .string (str p.tag)] 117)); have HW2 := Lib.hid ((HW.out.below (hb2.mono hBw)).below (Below.mono (bnew w2 (.cells #[.string (str p.anchor), .string (str p.tag)] 117)) (Nat.le_trans hBw hb2.size))); obtain ⟨a2, c2, rfl⟩ := hv2.nil_form)
          | (go_at_call 227; go_fit (CH.out _ HR2.out); rintro e w3 ⟨⟨rfl, hr3⟩, hk3⟩))
        first | go_end0 | refine bodyPost_ret (results_none rfl _ _ _) rfl ?_
        exact ⟨⟨rfl, hr3⟩, HK2.out.trans hk3⟩
    | cons x tr =>
      rw [if_neg (by simp)]
      have hn0 : ¬ ((tr.length + 1 : Nat) : Int) = 0 := by omega
      have hnn : (0 : Int) < ((tr.length + 1 : Nat) : Int) := by omega
      by_cases hbar : tr = [] ∧ x.kind = 13
      · obtain ⟨rfl, h13⟩ := hbar
        rw [if_pos ⟨rfl, by unfold Px.bk; simp [h13]⟩]
        have q13 : ((x.kind : Int) == 13) = true := beq_iff_eq.2 (by omega)
        have CO := Lib.hid (fun w => on_any p ⟨6, [], [], tx, false⟩ w)
        have CM := Lib.hid (fun w2 (h2 : RdrAt w2 B R st) w3 (hb : Below w2.heap.size w2 w3) => comes_any B R st b t (p.on ⟨6, [], [], tx, false⟩) (.slice none 0 0) [] w2 w3 h2 hb hbl hB (.inl ⟨rfl, rfl⟩) (by omega) (by simp only [List.length_nil]; omega))
        have he1 : evV ⟨6, [], [], tx, false⟩ = .agg #[.int .i64 6, .string ⟨#[]⟩, .string ⟨#[]⟩, .string (str tx), .bool false] := rfl
        have he2 : evV (p.on ⟨6, [], [], tx, false⟩) = .agg #[.int .i64 6, .string (str p.anchor), .string (str p.tag), .string (str tx), .bool false] := rfl
        rw [hpr, he1, he2] at CO
        rw [he2] at CM
        clear he1 he2 hpr h13
        cases hcm : Px.comes st (p.on ⟨6, [], [], tx, false⟩) [] with
        | error n =>
          rw [hcm] at CM
          unfold RdrR fault at CM
          simp only at CM
          clear hcm
          go_enter Tryz.func182, Tryz.ntmps182
          go_wp2_with (first
            | (go_at_call 201; go_fit CC.out; rintro e w2 ⟨⟨v2, rfl, hv2⟩, hb2⟩; clear CC; have HV2 := Lib.hid (hv2.below (Below.mono (bnew w2 (.cells #[.string (str p.anchor), .string (str p.tag)] 117)) (Nat.le_trans hBw hb2.size))); have HR2 := Lib.hid ((HR.out.call hb2).call (bnew w2 (.cells #[.string (str p.anchor), .string (str p.tag)] 117))); have HK2 := Lib.hid ((keep_of (ts := rdT) hb2 hBw).alloc hBw (.cells #[.string (str p.anchor), .string (str p.tag)] 117)); obtain ⟨⟨y0, y1⟩, _⟩ := two (alloc_blk w2 (.cells #[.string (str p.anchor), .string (str p.tag)] 117)); have HW2 := Lib.hid ((HW.out.below (hb2.mono hBw)).below (Below.mono (bnew w2 (.cells #[.string (str p.anchor), .string (str p.tag)] 117)) (Nat.le_trans hBw hb2.size))); obtain ⟨g2, o2, c2, rfl, hc2, hg2, _⟩ := HV2.out.cons; obtain ⟨g3, o3, c3, ev3, _, _, hat3⟩ := HV2.out.cons; cases ev3; obtain ⟨m0, m1, m2⟩ := hat3)
            | (go_at_call 203; go_fit (CO.out _); rintro e w5 ⟨rfl, hb5⟩; clear CO)
            | (go_at_call 176; go_fit (CM.out _ HR2.out _ hb5); rintro e w6 ⟨rfl, hk6⟩))
          exact ⟨rfl, rfl, (HK2.out.call hb5 hBw).trans hk6⟩
        | ok s2 =>
          rw [hcm] at CM
          unfold RdrR at CM
          simp only at CM
          clear hcm
          go_enter Tryz.func182, Tryz.ntmps182
          go_wp2_with (first
            | (go_at_call 201; go_fit CC.out; rintro e w2 ⟨⟨v2, rfl, hv2⟩, hb2⟩; clear CC; have HV2 := Lib.hid (hv2.below (Below.mono (bnew w2 (.cells #[.string (str p.anchor), .string (str p.tag)] 117)) (Nat.le_trans hBw hb2.size))); have HR2 := Lib.hid ((HR.out.call hb2).call (bnew w2 (.cells #[.string (str p.anchor), .string (str p.tag)] 117))); have HK2 := Lib.hid ((keep_of (ts := rdT) hb2 hBw).alloc hBw (.cells #[.string (str p.anchor), .string (str p.tag)] 117)); obtain ⟨⟨y0, y1⟩, _⟩ := two (alloc_blk w2 (.cells #[.string (str p.anchor), .string (str p.tag)] 117)); have HW2 := Lib.hid ((HW.out.below (hb2.mono hBw)).below (Below.mono (bnew w2 (.cells #[.string (str p.anchor), .string (str p.tag)] 117)) (Nat.le_trans hBw hb2.size))); obtain ⟨g2, o2, c2, rfl, hc2, hg2, _⟩ := HV2.out.cons; obtain ⟨g3, o3, c3, ev3, _, _, hat3⟩ := HV2.out.cons; cases ev3; obtain ⟨m0, m1, m2⟩ := hat3)
            | (go_at_call 203; go_fit (CO.out _); rintro e w5 ⟨rfl, hb5⟩; clear CO)
            | (go_at_call 176; go_fit (CM.out _ HR2.out _ hb5); rintro e w6 ⟨⟨rfl, hr6⟩, hk6⟩))
          first | go_end0 | refine bodyPost_ret (results_none rfl _ _ _) rfl ?_
          exact ⟨⟨rfl, hr6⟩, (HK2.out.call hb5 hBw).trans hk6⟩
      · rw [if_neg (fun h => hbar ⟨List.length_eq_zero_iff.1 (by have := h.1; simp only [List.length_cons] at this; omega), by have := h.2; unfold Px.bk at this; simpa using this⟩)]
        have qb : ¬ ((tr.length + 1 : Nat) : Int) = 1 ∨ (((tr.length + 1 : Nat) : Int) = 1 ∧ ((x.kind : Int) == 13) = false) := by
          by_cases h1 : tr = []
          · right
            refine ⟨by rw [h1]; rfl, beq_eq_false_iff_ne.2 fun h => hbar ⟨h1, by omega⟩⟩
          · left
            have := List.length_pos_iff.2 h1
            omega
        clear hbar
        have hd : st.blocks.length - 1 = t.length := by rw [hbl]; rfl
        rw [hd]
        have CF := Lib.hid (fun w1 (h : RdW w1 B (.slice va ws.length vc) ws) hB1 => flowOf_any (.slice va ws.length vc) ws t.length w1 (h.mono hB1) ht (by omega))
        have CD := Lib.hid (fun a cap w hc => rdepth_any R t.length cap a w hc (by omega))
        cases hfl : Px.flowOf ws t.length with
        | error n =>
          rw [hfl] at CF
          unfold FlowR fault at CF
          simp only at CF
          clear hfl
          rcases qb with q1 | ⟨q1, q2⟩
          all_goals go_enter Tryz.func182, Tryz.ntmps182
          all_goals go_wp2_with (first
            | (go_at_call 201; go_fit CC.out; rintro e w2 ⟨⟨v2, rfl, hv2⟩, hb2⟩; clear CC; have HV2 := Lib.hid (hv2.below (Below.mono (bnew w2 (.cells #[.string (str p.anchor), .string (str p.tag)] 117)) (Nat.le_trans hBw hb2.size))); have HR2 := Lib.hid ((HR.out.call hb2).call (bnew w2 (.cells #[.string (str p.anchor), .string (str p.tag)] 117))); have HK2 := Lib.hid ((keep_of (ts := rdT) hb2 hBw).alloc hBw (.cells #[.string (str p.anchor), .string (str p.tag)] 117)); obtain ⟨⟨y0, y1⟩, _⟩ := two (alloc_blk w2 (.cells #[.string (str p.anchor), .string (str p.tag)] 117)); have HW2 := Lib.hid ((HW.out.below (hb2.mono hBw)).below (Below.mono (bnew w2 (.cells #[.string (str p.anchor), .string (str p.tag)] 117)) (Nat.le_trans hBw hb2.size))); obtain ⟨g2, o2, c2, rfl, hc2, hg2, _⟩ := HV2.out.cons; obtain ⟨g3, o3, c3, ev3, _, _, hat3⟩ := HV2.out.cons; cases ev3; obtain ⟨m0, m1, m2⟩ := hat3; obtain ⟨ba, bc, oa, oc, hr2⟩ := HR2.out.two; have c0 := cell_blk hr2.cell 0 _ rfl; rw [hbl] at c0; clear hr2)
            | (go_at_call 173; go_fit (CD.out _ _ _ c0); rintro e w' ⟨rfl, rfl⟩; clear CD)
            | (go_at_call 51; go_fit (CF.out _ HW2.out (Nat.le_trans hBw HK2.out.size)); rintro e w5 ⟨rfl, hb5⟩))
          all_goals exact ⟨rfl, rfl, HK2.out.call hb5 hBw⟩
        | ok es =>
          have hfe := Px.flowOf_len _ _ _ hfl
          rw [hfl] at CF
          unfold FlowR at CF
          simp only at CF
          clear hfl
          cases es with
          | nil => simp at hfe
          | cons y ys =>
            obtain ⟨hf1, hf2⟩ := hfe
            simp only [List.length_cons] at hf2
            have CM := Lib.hid (fun w4 w5 (h2 : RdrAt w4 B R st) (hb : Below w4.heap.size w4 w5) u (hu : Behind w5 w4.heap.size u ys) => comes_any B R st b t y u ys w4 w5 h2 hb hbl hB hu (by omega) (by omega))
            unfold evV at CM
            have hy0 : (0 : Int) < ((ys.length + 1 : Nat) : Int) := by omega
            have hy1 : (1 : Int) ≤ ((ys.length + 1 : Nat) : Int) := by omega
            have hy2 : ((1 : Int) ≤ (ys.length : Int) + 1) = True := eq_true (by omega)
            clear hf1 hf2 hd
            cases hcm : Px.comes st y ys with
            | error n =>
              have hfi : Px.flowIn st (.ok (y :: ys)) = .error n := hcm
              rw [hfi]
              rw [hcm] at CM
              unfold RdrR fault at CM
              simp only at CM
              clear hcm hfi
              rcases qb with q1 | ⟨q1, q2⟩
              all_goals go_enter Tryz.func182, Tryz.ntmps182
              all_goals go_upto_region 2 with (first
                | (go_at_call 201; go_fit CC.out; rintro e w2 ⟨⟨v2, rfl, hv2⟩, hb2⟩; clear CC; have HV2 := Lib.hid (hv2.below (Below.mono (bnew w2 (.cells #[.string (str p.anchor), .string (str p.tag)] 117)) (Nat.le_trans hBw hb2.size))); have HR2 := Lib.hid ((HR.out.call hb2).call (bnew w2 (.cells #[.string (str p.anchor), .string (str p.tag)] 117))); have HK2 := Lib.hid ((keep_of (ts := rdT) hb2 hBw).alloc hBw (.cells #[.string (str p.anchor), .string (str p.tag)] 117)); obtain ⟨⟨y0, y1⟩, _⟩ := two (alloc_blk w2 (.cells #[.string (str p.anchor), .string (str p.tag)] 117)); have HW2 := Lib.hid ((HW.out.below (hb2.mono hBw)).below (Below.mono (bnew w2 (.cells #[.string (str p.anchor), .string (str p.tag)] 117)) (Nat.le_trans hBw hb2.size))); obtain ⟨g2, o2, c2, rfl, hc2, hg2, _⟩ := HV2.out.cons; obtain ⟨g3, o3, c3, ev3, _, _, hat3⟩ := HV2.out.cons; cases ev3; obtain ⟨m0, m1, m2⟩ := hat3; obtain ⟨ba, bc, oa, oc, hr2⟩ := HR2.out.two; have c0 := cell_blk hr2.cell 0 _ rfl; rw [hbl] at c0; clear hr2)
                | (go_at_call 173; go_fit (CD.out _ _ _ c0); rintro e w' ⟨rfl, rfl⟩; clear CD)
                | (go_at_call 51; go_fit (CF.out _ HW2.out (Nat.le_trans hBw HK2.out.size)); rintro e w5 ⟨⟨v5, rfl, ho5⟩, hb5⟩; clear CF; obtain ⟨g5, c5, rfl, hc5, hg5, hBg5, hnw⟩ := ownE_form ho5 (by simp); obtain ⟨aE, cE, eE, _, hE⟩ := rowE_rd ho5; obtain ⟨gE, oE, eG, _, hcl⟩ := hE (by simp); have h0 : EvAt w5 g5 0 y := (by cases eE; cases eG; have h0 := hcl 0 (by simp); simp only [Nat.zero_mul, Nat.add_zero, List.getElem_cons_zero] at h0; exact h0); obtain ⟨n0, n1, n2, n3, n4⟩ := h0; have hc5' : ((ys.length + 1 : Nat) : Int) ≤ (c5 : Int) := (by simp only [List.length_cons] at hc5; omega); have HNW := Lib.hid hnw; clear hE hcl ho5 hnw c0 eE eG))
              all_goals by_cases hc1 : c5 = 1
              all_goals go_region_law (first
                | (go_simp; go_at_call 176; (first | (have htn : ys = [] := List.length_eq_zero_iff.1 (by simp only [List.length_cons] at hc5; omega); subst htn; have HBH : Behind (World.drew w5) (w2.alloc (.cells #[.string (str p.anchor), .string (str p.tag)] 117)).heap.size (.slice (some ⟨g5, 0, none⟩) 0 0) [] := .inr ⟨g5, 0, 0, rfl, hBg5, hg5, NewsE.nil _ _⟩) | (have HBH : Behind (World.drew w5) (w2.alloc (.cells #[.string (str p.anchor), .string (str p.tag)] 117)).heap.size (.slice (some ⟨g5, 5, none⟩) ys.length (c5 - 1)) ys := .inr ⟨g5, 5, c5 - 1, rfl, hBg5, hg5, (HNW.out.drop0 1 (by simp)).heap rfl⟩)); go_fit (CM.out (w2.alloc (.cells #[.string (str p.anchor), .string (str p.tag)] 117)) (World.drew w5) HR2.out (bdrew hb5) _ HBH); rintro e w6 ⟨rfl, hk6⟩; refine any_stop (P := Tryz.prog) ⟨#[], []⟩ w6 ?_))
              all_goals exact ⟨rfl, rfl, (HK2.out.call (bdrew hb5) hBw).trans hk6⟩
            | ok s2 =>
              have hfi : Px.flowIn st (.ok (y :: ys)) = .ok s2 := hcm
              rw [hfi]
              rw [hcm] at CM
              unfold RdrR at CM
              simp only at CM
              clear hcm hfi
              rcases qb with q1 | ⟨q1, q2⟩
              all_goals go_enter Tryz.func182, Tryz.ntmps182
              all_goals go_upto_region 2 with (first
                | (go_at_call 201; go_fit CC.out; rintro e w2 ⟨⟨v2, rfl, hv2⟩, hb2⟩; clear CC; have HV2 := Lib.hid (hv2.below (Below.mono (bnew w2 (.cells #[.string (str p.anchor), .string (str p.tag)] 117)) (Nat.le_trans hBw hb2.size))); have HR2 := Lib.hid ((HR.out.call hb2).call (bnew w2 (.cells #[.string (str p.anchor), .string (str p.tag)] 117))); have HK2 := Lib.hid ((keep_of (ts := rdT) hb2 hBw).alloc hBw (.cells #[.string (str p.anchor), .string (str p.tag)] 117)); obtain ⟨⟨y0, y1⟩, _⟩ := two (alloc_blk w2 (.cells #[.string (str p.anchor), .string (str p.tag)] 117)); have HW2 := Lib.hid ((HW.out.below (hb2.mono hBw)).below (Below.mono (bnew w2 (.cells #[.string (str p.anchor), .string (str p.tag)] 117)) (Nat.le_trans hBw hb2.size))); obtain ⟨g2, o2, c2, rfl, hc2, hg2, _⟩ := HV2.out.cons; obtain ⟨g3, o3, c3, ev3, _, _, hat3⟩ := HV2.out.cons; cases ev3; obtain ⟨m0, m1, m2⟩ := hat3; obtain ⟨ba, bc, oa, oc, hr2⟩ := HR2.out.two; have c0 := cell_blk hr2.cell 0 _ rfl; rw [hbl] at c0; clear hr2)
                | (go_at_call 173; go_fit (CD.out _ _ _ c0); rintro e w' ⟨rfl, rfl⟩; clear CD)
                | (go_at_call 51; go_fit (CF.out _ HW2.out (Nat.le_trans hBw HK2.out.size)); rintro e w5 ⟨⟨v5, rfl, ho5⟩, hb5⟩; clear CF; obtain ⟨g5, c5, rfl, hc5, hg5, hBg5, hnw⟩ := ownE_form ho5 (by simp); obtain ⟨aE, cE, eE, _, hE⟩ := rowE_rd ho5; obtain ⟨gE, oE, eG, _, hcl⟩ := hE (by simp); have h0 : EvAt w5 g5 0 y := (by cases eE; cases eG; have h0 := hcl 0 (by simp); simp only [Nat.zero_mul, Nat.add_zero, List.getElem_cons_zero] at h0; exact h0); obtain ⟨n0, n1, n2, n3, n4⟩ := h0; have hc5' : ((ys.length + 1 : Nat) : Int) ≤ (c5 : Int) := (by simp only [List.length_cons] at hc5; omega); have HNW := Lib.hid hnw; clear hE hcl ho5 hnw c0 eE eG))
              all_goals by_cases hc1 : c5 = 1
              all_goals go_region_law (first
                | (go_simp; go_at_call 176; (first | (have htn : ys = [] := List.length_eq_zero_iff.1 (by simp only [List.length_cons] at hc5; omega); subst htn; have HBH : Behind (World.drew w5) (w2.alloc (.cells #[.string (str p.anchor), .string (str p.tag)] 117)).heap.size (.slice (some ⟨g5, 0, none⟩) 0 0) [] := .inr ⟨g5, 0, 0, rfl, hBg5, hg5, NewsE.nil _ _⟩) | (have HBH : Behind (World.drew w5) (w2.alloc (.cells #[.string (str p.anchor), .string (str p.tag)] 117)).heap.size (.slice (some ⟨g5, 5, none⟩) ys.length (c5 - 1)) ys := .inr ⟨g5, 5, c5 - 1, rfl, hBg5, hg5, (HNW.out.drop0 1 (by simp)).heap rfl⟩)); go_fit (CM.out (w2.alloc (.cells #[.string (str p.anchor), .string (str p.tag)] 117)) (World.drew w5) HR2.out (bdrew hb5) _ HBH); rintro e w6 ⟨⟨rfl, hr6⟩, hk6⟩))
              all_goals go_wp2
              all_goals go_end0
              all_goals exact ⟨⟨rfl, hr6⟩, (HK2.out.call (bdrew hb5) hBw).trans hk6⟩
end Go.Proofs.YtjcfmghijfnehaaGreatDoor
