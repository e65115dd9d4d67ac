/-
  The walk of EventWraps, whole.
-/
import Derived.Test.YthkedlcmpibkjaaDoorEu
namespace Go.Proofs.YthkedlcmpibkjaaDoor
open Go.RowKit
theorem docs_drop (es : List Ev.E) (j : Nat) (h : j < es.length) : ((Ev.kinds es).drop j).countP (fun k => decide (k = 0)) = ((Ev.kinds es).drop (j + 1)).countP (fun k => decide (k = 0)) + (if es[j].kind = 0 then 1 else 0) := by
  rw [Ev.kinds_drop es j h, List.countP_cons]
  simp

set_option maxHeartbeats 4000000 in
set_option maxRecDepth 100000 in
theorem wraps_any (v : Value) (es : List Ev.E) (w : World) (hR : RdE w w.heap.size v es) (hl : es.length ≤ 2199023255488)
    (hS : ∀ x ∈ es, x.anchor.length ≤ 9223372036854775807 ∧ x.tag.length ≤ 9223372036854775807 ∧ x.text.length ≤ 9223372036854775807) (hE : Env w) :
    Calls Tryd.prog 6 #[v] w fun e w' => e = .returned (.bool true) ∧ Below w.heap.size w w' := by
  have HR := Lib.hid hR
  obtain ⟨aa, ac, rfl, hac, _⟩ := hR
  have cA := Lib.hid (alive_any w hE)
  have cH := Lib.hid (fun W (hb : Below w.heap.size w W) => heavy_any _ es W ((HR.out.below hb).mono hb.size) (by omega) hS)
  have cT := Lib.hid (fun W (hb : Below w.heap.size w W) => theirs_any _ es W ((HR.out.below hb).mono hb.size) hl)
  have HE := Lib.hid hE
  clear hS hE
  cases h1 : Ev.heavy es
  · rw [h1] at cH
    obtain ⟨lx, sx⟩ := Ev.light es h1
    have SX := Lib.hid (Ev.light_small es h1)
    have RX := Lib.hid (fun v W (h : RdE W W.heap.size v es) (hE : Env W) => right_any v es W h (by omega) SX.out hE)
    have DX := Lib.hid (fun v W (h : RdE W W.heap.size v es) => depth_any v es W h (by omega))
    clear sx hl
    cases hrx : Ev.right es
    · rw [hrx] at RX
      go_enter Tryd.func6, Tryd.ntmps6
      go_wp2_with (first
        | (go_at_call 8; refine cA.out.mono ?_; rintro e w1 ⟨rfl, hb1⟩)
        | (go_at_call 10; go_fit (cT.out _ hb1); rintro e w2 ⟨⟨xv, rfl, hxo⟩, hb2⟩; obtain ⟨xa, xc, rfl⟩ := own_slice hxo; have HX2 := Lib.hid (rowE_rd hxo); clear hxo)
        | (go_at_call 9; go_fit (cH.out _ (bthen hb1 hb2)); rintro e w3 ⟨rfl, hb3⟩)
        | (go_at_call 11; go_fit (RX.out _ _ ((HX2.out.below hb3).mono hb3.size) (HE.out.below (bthen (bthen hb1 hb2) hb3))); rintro e w4 ⟨rfl, hb4⟩))
      go_ret
      exact ⟨rfl, bthen (bthen (bthen hb1 hb2) hb3) hb4⟩
    · rw [hrx] at RX
      by_cases h3 : es.length < 3
      · have h3' : (es.length : Int) < 3 := by omega
        go_enter Tryd.func6, Tryd.ntmps6
        go_wp2_with (first
          | (go_at_call 8; refine cA.out.mono ?_; rintro e w1 ⟨rfl, hb1⟩)
          | (go_at_call 10; go_fit (cT.out _ hb1); rintro e w2 ⟨⟨xv, rfl, hxo⟩, hb2⟩; obtain ⟨xa, xc, rfl⟩ := own_slice hxo; have HX2 := Lib.hid (rowE_rd hxo); clear hxo)
          | (go_at_call 9; go_fit (cH.out _ (bthen hb1 hb2)); rintro e w3 ⟨rfl, hb3⟩)
          | (go_at_call 11; go_fit (RX.out _ _ ((HX2.out.below hb3).mono hb3.size) (HE.out.below (bthen (bthen hb1 hb2) hb3))); rintro e w4 ⟨rfl, hb4⟩))
        go_ret
        exact ⟨rfl, bthen (bthen (bthen hb1 hb2) hb3) hb4⟩
      · have h3' : ¬ (es.length : Int) < 3 := by omega
        have hpos : 0 < es.length := by omega
        have HWR := Lib.hid (fun (h : Ev.docs es = 1) => Ev.right_wrap es hrx h)
        obtain ⟨ANS, hANS⟩ : ∃ ANS, Ev.docs es = ANS := ⟨_, rfl⟩
        rw [hANS] at HWR
        have HA : Hid (0 + ((Ev.kinds es).drop 0).countP (fun k => decide (k = 0)) = ANS) := by show _ = _; rw [List.drop_zero, Nat.zero_add]; exact hANS
        clear hANS hrx
        go_enter Tryd.func6, Tryd.ntmps6
        go_wp2_with (first
          | (go_at_call 8; refine cA.out.mono ?_; rintro e w1 ⟨rfl, hb1⟩)
          | (go_at_call 10; go_fit (cT.out _ hb1); rintro e w2 ⟨⟨xv, rfl, hxo⟩, hb2⟩; obtain ⟨g, xc, rfl, hxc, hg2, _, hnw⟩ := ownE_form hxo hpos; have HX2 := Lib.hid (rowE_rd hxo); have HN2 := Lib.hid hnw; clear hxo hnw)
          | (go_at_call 9; go_fit (cH.out _ (bthen hb1 hb2)); rintro e w3 ⟨rfl, hb3⟩)
          | (go_at_call 11; go_fit (RX.out _ _ ((HX2.out.below hb3).mono hb3.size) (HE.out.below (bthen (bthen hb1 hb2) hb3))); rintro e w4 ⟨rfl, hb4⟩; have HN4 := Lib.hid ((HN2.out.below hb3 hg2).below hb4 (Nat.lt_of_lt_of_le hg2 hb3.size)); have HX4 := Lib.hid ((((HX2.out.below hb3).mono hb3.size).below hb4).mono hb4.size)))
        have hg4 : g < w4.heap.size := Nat.lt_of_lt_of_le (Nat.lt_of_lt_of_le hg2 hb3.size) hb4.size
        have HB4 := Lib.hid (bthen (bthen (bthen hb1 hb2) hb3) hb4)
        clear hb1 hb2 hb3 hb4 cA cH cT RX HX2 HN2 hg2
        go_loopw [4, 28] (fun dv i wr => ∃ (j n : Nat), j ≤ es.length ∧ dv = .int .i64 n ∧ i = .int .i64 j ∧ Hid (n + ((Ev.kinds es).drop j).countP (fun k => decide (k = 0)) = ANS) ∧ n ≤ j ∧ Below w4.heap.size w4 wr) (fun _ i _ => es.length - (intOf i).toNat)
        case atStart => exact ⟨0, 0, by omega, rfl, rfl, HA, by omega, Below.refl _ _⟩
        case round =>
          obtain ⟨j, n, hj, rfl, rfl, HK, hn, hbw⟩ := hrel
          clear HA
          have hBr := hbw.size
          by_cases hlt : j < es.length
          · have hK := HK.out
            rw [docs_drop es j hlt] at hK
            have HX := (HX4.out.below hbw).mono hBr
            obtain ⟨_, _, hv', _, hcl⟩ := HX
            obtain ⟨g', o', hgo, hg', hcl⟩ := hcl hpos
            simp only [Value.slice.injEq] at hv'
            obtain ⟨hv1, _, hv2⟩ := hv'
            rw [← hv1] at hgo
            simp only [Option.some.injEq, Addr.mk.injEq] at hgo
            obtain ⟨rfl, rfl, _⟩ := hgo
            obtain ⟨c0, c1, c2, c3, c4⟩ := hcl j hlt
            rw [Nat.zero_add] at c0 c1 c2 c3 c4
            clear hcl HK hv1 hv2 hg'
            generalize es[j].kind = k at *
            generalize es[j] = x at *
            by_cases k0 : k = 0
            · subst k0
              rw [if_pos rfl] at hK
              have HK : Hid (n + 1 + ((Ev.kinds es).drop (j + 1)).countP (fun k => decide (k = 0)) = ANS) := by show _ = _; omega
              clear hK
              go_wp2
              go_roundw
              case rel => exact ⟨j + 1, n + 1, by omega, by go_num, by go_num, HK, by omega, hbw.alloc hBr _⟩
              case measure => simp [intOf]; omega
            · rw [if_neg k0] at hK
              have HK : Hid (n + ((Ev.kinds es).drop (j + 1)).countP (fun k => decide (k = 0)) = ANS) := by show _ = _; omega
              have b0 : (k == 0) = false := beq_eq_false_iff_ne.2 k0
              clear hK k0
              go_wp2
              go_roundw
              case rel => exact ⟨j + 1, n, by omega, by go_num, by go_num, HK, by omega, hbw.alloc hBr _⟩
              case measure => simp [intOf]; omega
          · have hje : j = es.length := by omega
            subst hje
            have hnA : n = ANS := by
              have h := HK.out
              rw [List.drop_of_length_le (by rw [Ev.kinds_len]; exact Nat.le_refl _)] at h
              simpa using h
            subst hnA
            clear HK
            by_cases hn1 : n = 1
            · subst hn1
              have hsub : IntKind.i64.wrap ((es.length : Int) - 1) = (es.length : Int) - 1 := IntWalk.i64_in _ (by omega)
              have q1 : (1 : Int) ≤ (es.length : Int) - 1 := by omega
              have q2 : (0 : Int) ≤ (es.length : Int) - 1 := by omega
              have q3 : ((es.length : Int) - 1).toNat = es.length - 1 := by omega
              have q4 : (es.length : Int) - 1 ≤ (xc : Int) := by omega
              have q5 : ¬ xc = 1 := by omega
              have hwr := HWR.out rfl
              have hdm := Ev.dmax_nonneg (Ev.kinds es)
              have HBA : Hid (Below wr.heap.size wr (wr.alloc (.cells #[.slice (some ⟨g, 5, none⟩) (es.length - 1 - 1) (xc - 1)] 25))) := bnew wr _
              have HXA := Lib.hid ((((HX4.out.below hbw).mono hBr).below HBA.out).mono HBA.out.size)
              have HNA : Hid (NewsE (wr.alloc (.cells #[.slice (some ⟨g, 5, none⟩) (es.length - 1 - 1) (xc - 1)] 25)) ⟨g, 5, none⟩ (Ev.nodeE es)) :=
                ((NewsE.drop0 (HN4.out.below hbw hg4) 1 (by omega)).take (es.length - 2)).below HBA.out (Nat.lt_of_lt_of_le hg4 hBr)
              have HEA := Lib.hid (HE.out.below (bthen (bthen HB4.out hbw) HBA.out))
              have hgA : g < (wr.alloc (.cells #[.slice (some ⟨g, 5, none⟩) (es.length - 1 - 1) (xc - 1)] 25)).heap.size := by rw [World.size_alloc]; omega
              have hpA : wr.heap.size < (wr.alloc (.cells #[.slice (some ⟨g, 5, none⟩) (es.length - 1 - 1) (xc - 1)] 25)).heap.size := by rw [World.size_alloc]; omega
              have HPA : Hid ((wr.alloc (.cells #[.slice (some ⟨g, 5, none⟩) (es.length - 1 - 1) (xc - 1)] 25)).cell? ⟨wr.heap.size, 0, none⟩ = some (.slice (some ⟨g, 5, none⟩) (es.length - 1 - 1) (xc - 1))) := cell_blk (alloc_blk wr _) 0 _ rfl
              have hbz := Below.refl (wr.alloc (.cells #[.slice (some ⟨g, 5, none⟩) (es.length - 1 - 1) (xc - 1)] 25)).heap.size (wr.alloc (.cells #[.slice (some ⟨g, 5, none⟩) (es.length - 1 - 1) (xc - 1)] 25))
              have HBE := Lib.hid (bthen (bthen HB4.out hbw) HBA.out)
              clear HBA
              generalize hWA : wr.alloc (.cells #[.slice (some ⟨g, 5, none⟩) (es.length - 1 - 1) (xc - 1)] 25) = WA at HXA HNA HEA hgA hpA HPA hbz HBE
              have CW : Hid (∀ W, Below WA.heap.size WA W → ∀ (k : Int) (n : Nat), (k = 2 ∨ k = 4) → n ≤ 3 → Calls Tryd.prog 22 #[.int .i64 k, .int .i64 n, .pointer (some ⟨wr.heap.size, 0, none⟩)] W fun e w' => (∃ u, e = .returned u ∧ OwnE w' W.heap.size u (Ev.wrapE k n (Ev.nodeE es))) ∧ Below W.heap.size W w') :=
                fun W hb k n hk hn => wrap_any k n wr.heap.size g 5 (xc - 1) (Ev.nodeE es) W hk hn (by rw [Ev.node_len]; omega) (by rw [Ev.node_len]; exact (hb.cell (p := ⟨wr.heap.size, 0, none⟩) hpA).trans HPA.out) (Nat.lt_of_lt_of_le hpA hb.size) (Nat.lt_of_lt_of_le hgA hb.size) (HNA.out.below hb hgA)
              have C21 : Hid (∀ W, Below WA.heap.size WA W → Calls Tryd.prog 22 #[.int .i64 2, .int .i64 1, .pointer (some ⟨wr.heap.size, 0, none⟩)] W fun e w' => (∃ u, e = .returned u ∧ OwnE w' W.heap.size u (Ev.wrapE 2 1 (Ev.nodeE es))) ∧ Below W.heap.size W w') := fun W hb => CW.out W hb 2 1 (by decide) (by decide)
              have R21 := Lib.hid (fun v W (h : RdE W W.heap.size v (Ev.wrapE 2 1 (Ev.nodeE es))) (hb : Below WA.heap.size WA W) => right_any v (Ev.wrapE 2 1 (Ev.nodeE es)) W h (by rw [Ev.wrap_len, Ev.node_len]; omega) (Ev.small_wrap es SX.out 2 1) (HEA.out.below hb))
              rw [hwr 2 (by decide) 1 (by decide)] at R21
              have C42 : Hid (∀ W, Below WA.heap.size WA W → Calls Tryd.prog 22 #[.int .i64 4, .int .i64 2, .pointer (some ⟨wr.heap.size, 0, none⟩)] W fun e w' => (∃ u, e = .returned u ∧ OwnE w' W.heap.size u (Ev.wrapE 4 2 (Ev.nodeE es))) ∧ Below W.heap.size W w') := fun W hb => CW.out W hb 4 2 (by decide) (by decide)
              have R42 := Lib.hid (fun v W (h : RdE W W.heap.size v (Ev.wrapE 4 2 (Ev.nodeE es))) (hb : Below WA.heap.size WA W) => right_any v (Ev.wrapE 4 2 (Ev.nodeE es)) W h (by rw [Ev.wrap_len, Ev.node_len]; omega) (Ev.small_wrap es SX.out 4 2) (HEA.out.below hb))
              rw [hwr 4 (by decide) 2 (by decide)] at R42
              have C41 : Hid (∀ W, Below WA.heap.size WA W → Calls Tryd.prog 22 #[.int .i64 4, .int .i64 1, .pointer (some ⟨wr.heap.size, 0, none⟩)] W fun e w' => (∃ u, e = .returned u ∧ OwnE w' W.heap.size u (Ev.wrapE 4 1 (Ev.nodeE es))) ∧ Below W.heap.size W w') := fun W hb => CW.out W hb 4 1 (by decide) (by decide)
              have R41 := Lib.hid (fun v W (h : RdE W W.heap.size v (Ev.wrapE 4 1 (Ev.nodeE es))) (hb : Below WA.heap.size WA W) => right_any v (Ev.wrapE 4 1 (Ev.nodeE es)) W h (by rw [Ev.wrap_len, Ev.node_len]; omega) (Ev.small_wrap es SX.out 4 1) (HEA.out.below hb))
              rw [hwr 4 (by decide) 1 (by decide)] at R41
              have C23 : Hid (∀ W, Below WA.heap.size WA W → Calls Tryd.prog 22 #[.int .i64 2, .int .i64 3, .pointer (some ⟨wr.heap.size, 0, none⟩)] W fun e w' => (∃ u, e = .returned u ∧ OwnE w' W.heap.size u (Ev.wrapE 2 3 (Ev.nodeE es))) ∧ Below W.heap.size W w') := fun W hb => CW.out W hb 2 3 (by decide) (by decide)
              have R23 := Lib.hid (fun v W (h : RdE W W.heap.size v (Ev.wrapE 2 3 (Ev.nodeE es))) (hb : Below WA.heap.size WA W) => right_any v (Ev.wrapE 2 3 (Ev.nodeE es)) W h (by rw [Ev.wrap_len, Ev.node_len]; omega) (Ev.small_wrap es SX.out 2 3) (HEA.out.below hb))
              rw [hwr 2 (by decide) 3 (by decide)] at R23
              clear hwr CW HPA HNA HWR HN4
              have HDX := Lib.hid (DX.out _ _ HXA.out)
              have HBF := Lib.hid (hWA ▸ HBE.out : Below w.heap.size w WA)
              generalize Ev.dmax (Ev.kinds es) = D at *
              by_cases hf : D < 40
              · rw [decide_eq_true hf] at R21 R42 R41 R23
                go_wp2_with (first
                  | (go_at_call 13; refine HDX.out.mono ?_; rintro e wn ⟨rfl, hbn⟩; have hbz := bthen hbz hbn; clear hbn)
                  | (go_at_call 22; go_fit (C21.out _ hbz); rintro e wn ⟨⟨u, rfl, hu⟩, hbn⟩; have hbz := bthen hbz hbn; obtain ⟨ua, uc, rfl⟩ := own_slice hu; have RN := Lib.hid (R21.out _ _ (rowE_rd hu) hbz); clear hu hbn)
                  | (go_at_call 22; go_fit (C42.out _ hbz); rintro e wn ⟨⟨u, rfl, hu⟩, hbn⟩; have hbz := bthen hbz hbn; obtain ⟨ua, uc, rfl⟩ := own_slice hu; have RN := Lib.hid (R42.out _ _ (rowE_rd hu) hbz); clear hu hbn)
                  | (go_at_call 22; go_fit (C41.out _ hbz); rintro e wn ⟨⟨u, rfl, hu⟩, hbn⟩; have hbz := bthen hbz hbn; obtain ⟨ua, uc, rfl⟩ := own_slice hu; have RN := Lib.hid (R41.out _ _ (rowE_rd hu) hbz); clear hu hbn)
                  | (go_at_call 22; go_fit (C23.out _ hbz); rintro e wn ⟨⟨u, rfl, hu⟩, hbn⟩; have hbz := bthen hbz hbn; obtain ⟨ua, uc, rfl⟩ := own_slice hu; have RN := Lib.hid (R23.out _ _ (rowE_rd hu) hbz); clear hu hbn)
                  | (go_at_call 11; refine RN.out.mono ?_; rintro e wn ⟨rfl, hbn⟩; have hbz := bthen hbz hbn; clear hbn RN))
                go_ret
                exact ⟨rfl, bthen HBF.out hbz⟩
              · rw [decide_eq_false hf] at R21 R42 R41 R23
                go_wp2_with (first
                  | (go_at_call 13; refine HDX.out.mono ?_; rintro e wn ⟨rfl, hbn⟩; have hbz := bthen hbz hbn; clear hbn)
                  | (go_at_call 22; go_fit (C21.out _ hbz); rintro e wn ⟨⟨u, rfl, hu⟩, hbn⟩; have hbz := bthen hbz hbn; obtain ⟨ua, uc, rfl⟩ := own_slice hu; have RN := Lib.hid (R21.out _ _ (rowE_rd hu) hbz); clear hu hbn)
                  | (go_at_call 22; go_fit (C42.out _ hbz); rintro e wn ⟨⟨u, rfl, hu⟩, hbn⟩; have hbz := bthen hbz hbn; obtain ⟨ua, uc, rfl⟩ := own_slice hu; have RN := Lib.hid (R42.out _ _ (rowE_rd hu) hbz); clear hu hbn)
                  | (go_at_call 22; go_fit (C41.out _ hbz); rintro e wn ⟨⟨u, rfl, hu⟩, hbn⟩; have hbz := bthen hbz hbn; obtain ⟨ua, uc, rfl⟩ := own_slice hu; have RN := Lib.hid (R41.out _ _ (rowE_rd hu) hbz); clear hu hbn)
                  | (go_at_call 22; go_fit (C23.out _ hbz); rintro e wn ⟨⟨u, rfl, hu⟩, hbn⟩; have hbz := bthen hbz hbn; obtain ⟨ua, uc, rfl⟩ := own_slice hu; have RN := Lib.hid (R23.out _ _ (rowE_rd hu) hbz); clear hu hbn)
                  | (go_at_call 11; refine RN.out.mono ?_; rintro e wn ⟨rfl, hbn⟩; have hbz := bthen hbz hbn; clear hbn RN))
                go_ret
                exact ⟨ret_bool (a := !decide (D < 40)) (by simp [hf]), bthen HBF.out hbz⟩
            · have b1 : ((n : Int) == 1) = false := beq_eq_false_iff_ne.2 (by omega)
              go_wp2
              go_ret
              exact ⟨rfl, bthen HB4.out hbw⟩
  · rw [h1] at cH
    go_enter Tryd.func6, Tryd.ntmps6
    go_wp2_with (first
      | (go_at_call 8; refine cA.out.mono ?_; rintro e w1 ⟨rfl, hb1⟩)
      | (go_at_call 10; go_fit (cT.out _ hb1); rintro e w2 ⟨⟨xv, rfl, hxo⟩, hb2⟩; obtain ⟨xa, xc, rfl⟩ := own_slice hxo; clear hxo)
      | (go_at_call 9; go_fit (cH.out _ (bthen hb1 hb2)); rintro e w3 ⟨rfl, hb3⟩))
    go_ret
    exact ⟨rfl, bthen (bthen hb1 hb2) hb3⟩
end Go.Proofs.YthkedlcmpibkjaaDoor
