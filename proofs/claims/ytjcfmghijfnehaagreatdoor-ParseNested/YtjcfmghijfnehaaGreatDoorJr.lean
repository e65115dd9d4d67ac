/-
  The walk of reader.key.
-/
import Derived.Test.YtjcfmghijfnehaaGreatDoorJq
namespace Go.Proofs.YtjcfmghijfnehaaGreatDoor
open Go.RowKit
namespace Px
theorem cutP_key (ws : List Lx.Wd) : ∀ p q r, cutP p ws = .ok (q, r) → isKeyGo r = isKeyGo ws := by
  induction ws with
  | nil => intro p q r h; cases h; rfl
  | cons w t ih =>
    intro p q r h
    unfold cutP at h
    split at h
    · rename_i h3
      split at h
      · rw [ih _ _ _ h]
        show _ = isKeyGo (w :: t)
        conv => rhs; unfold isKeyGo
        rw [if_pos (.inl h3)]
      · cases h
    · split at h
      · rename_i h5
        split at h
        · rw [ih _ _ _ h]
          show _ = isKeyGo (w :: t)
          conv => rhs; unfold isKeyGo
          rw [if_pos (.inr h5)]
        · cases h
      · cases h; rfl
theorem comes_blocks (s s' : St) (x : Ev.E) (bh : List Ev.E) (h : comes s x bh = .ok s') : s'.blocks = still s.blocks := by
  unfold comes at h
  cases hd : dress s.held x with
  | error e => rw [hd] at h; cases h
  | ok y => rw [hd] at h; cases h; rfl
theorem isKey_cons (r : List Lx.Wd) (h : isKeyGo r = true) : ∃ x t, r = x :: t := by
  cases r with
  | nil => cases h
  | cons x t => exact ⟨x, t, rfl⟩
theorem cutP_head (ws : List Lx.Wd) : ∀ p q x t, cutP p ws = .ok (q, x :: t) → x.kind ≠ 3 ∧ x.kind ≠ 5 := by
  induction ws with
  | nil => intro p q x t h; cases h
  | cons w t ih =>
    intro p q x t' h
    unfold cutP at h
    split at h
    · split at h
      · exact ih _ _ _ _ h
      · cases h
    · split at h
      · split at h
        · exact ih _ _ _ _ h
        · cases h
      · cases h
        rename_i h3 h5
        exact ⟨h3, h5⟩
end Px
theorem RdW.nil_cap (w : World) (B : Nat) (a : Option Addr) (n c : Nat) (h : n = 0) : RdW w B (.slice a n c) [] := ⟨a, c, by rw [h]; rfl, Nat.zero_le _, fun h => absurd h (by simp)⟩
theorem RdAt.topS {w : World} {B R : Nat} {bv ov : Value} {st : Px.St} {b : Px.Bk} {t : List Px.Bk} (h : RdAt w B R bv ov st) (hb : st.blocks = b :: t) : RdAt w B R bv ov ⟨b :: t, st.held, st.out⟩ := by
  obtain ⟨bs, hd, out⟩ := st
  simp only at hb
  subst hb
  exact h

/-- what key answers -/
def KeyR (B R : Nat) (o : Except Nat (Px.St × List Lx.Wd)) (e : Ending) (w' : World) : Prop := match o with
  | .ok (s, r) => ∃ v, e = .returned v ∧ RdW w' B v r ∧ RdrAt w' B R s
  | .error n => e = fault n

set_option maxHeartbeats 16000000 in
set_option maxRecDepth 100000 in
theorem rkey_any (B R : Nat) (st : Px.St) (b : Px.Bk) (t : List Px.Bk) (v : Value) (ws : List Lx.Wd) (w : World) (h : RdrAt w B R st) (hbl : st.blocks = b :: t) (hB : B ≤ R) (ht : t.length ≤ 800) (hl : Px.wt st ≤ 2199023255300)
    (hW : RdW w B v ws) (hk : Px.isKeyGo ws = true) :
    Calls Tryz.prog 181 #[.pointer (some ⟨R, 0, none⟩), v] w fun e w' => KeyR B R (Px.keyed st ws) e w' ∧ Keep rdT B w w' := by
  have hR := h.lt
  have hBw : B ≤ w.heap.size := by omega
  have hwt : st.out.length ≤ 2199023255300 := by unfold Px.wt at hl; omega
  obtain ⟨x0, tl, rfl⟩ := Px.isKey_cons ws hk
  obtain ⟨gw, ow, cw, rfl, hcw, hgw, hat⟩ := hW.cons
  obtain ⟨k0, k1, k2⟩ := hat
  have CE := Lib.hid (enter_any B R st b t 4 5 x0.at_ w h hbl hB (by omega) (by omega) (by decide))
  have HW := Lib.hid hW
  have hn : (0 : Int) < ((tl.length + 1 : Nat) : Int) := by omega
  unfold Px.keyed
  simp only
  clear h hW
  cases he : Px.enter st 4 5 x0.at_ with
  | error n =>
    rw [he] at CE
    unfold RdrR fault at CE
    simp only at CE
    clear he
    go_enter Tryz.func181, Tryz.ntmps181
    go_wp2_with (go_at_call 179; go_fit CE.out; rintro e w1 ⟨rfl, hk1⟩)
    exact ⟨rfl, rfl, hk1⟩
  | ok s1 =>
    have hw1 := Px.enter_wt _ _ _ _ _ he
    rw [he] at CE
    unfold RdrR at CE
    simp only at CE
    have hs1 : ∃ b1 t1, s1.blocks = b1 :: t1 := by
      cases hb1 : s1.blocks with
      | nil => rw [hb1] at hw1; simp at hw1
      | cons b1 t1 => exact ⟨b1, t1, rfl⟩
    obtain ⟨b1, t1, hb1⟩ := hs1
    have ht1 : t1.length ≤ 900 := by
      have h1 := hw1.2.1
      rw [hb1, hbl] at h1
      simp only [List.length_cons] at h1
      omega
    have hl1 : s1.out.length ≤ 2199023255400 := by
      have := hw1.1
      unfold Px.wt at this hl
      omega
    have CC := Lib.hid (fun w1 (h : RdW w1 B (.slice (some ⟨gw, ow, none⟩) (tl.length + 1) cw) (x0 :: tl)) hB => cut_any _ (x0 :: tl) B w1 h hB)
    simp only
    clear he hw1 hl
    cases hc : Px.cutP Px.nop (x0 :: tl) with
    | error n =>
      rw [hc] at CC
      unfold CutR fault at CC
      simp only at CC
      clear hc
      go_enter Tryz.func181, Tryz.ntmps181
      go_wp2_with (first
        | (go_at_call 179; go_fit CE.out; rintro e w1 ⟨⟨rfl, hr1⟩, hk1⟩; clear CE)
        | (go_at_call 201; go_fit (CC.out _ (HW.out.below hk1.below) (Nat.le_trans hBw hk1.size)); rintro e w2 ⟨rfl, hb2⟩))
      exact ⟨rfl, rfl, hk1.call hb2 hBw⟩
    | ok y =>
      obtain ⟨p, r⟩ := y
      have hkr := Px.cutP_key _ _ _ _ hc
      rw [hk] at hkr
      obtain ⟨x, tr, rfl⟩ := Px.isKey_cons r hkr
      have hxp := Px.cutP_head _ _ _ _ _ hc
      rw [hc] at CC
      unfold CutR at CC
      simp only at CC ⊢
      have hpr : prV p = .agg #[.string (str p.anchor), .string (str p.tag)] := rfl
      rw [hpr] at CC
      clear hc
      have CB := Lib.hid (fun v2 w2 (h : RdW w2 B v2 (x :: tr)) => begins_any v2 (x :: tr) 11 B w2 h)
      have hbk : Px.bk (x :: tr) 11 = decide (x.kind = 11) := rfl
      have hcc : (1 : Int) ≤ ((tr.length + 1 : Nat) : Int) := by omega
      have CL := Lib.hid (fun g cap w hc => last_any R g t1.length cap w hc (by omega))
      unfold Px.keyGo
      simp only
      rw [hbk] at CB
      by_cases h11 : x.kind = 11
      · rw [if_pos h11]
        rw [decide_eq_true h11] at CB
        have CEm := Lib.hid (fun w => emptyNode_any w)
        have CO := Lib.hid (fun w => on_any p Px.hole w)
        have CM := Lib.hid (fun w2 (h2 : RdrAt w2 B R s1) w3 (hb : Below w2.heap.size w2 w3) => comes_any B R s1 b1 t1 (p.on Px.hole) (.slice none 0 0) [] w2 w3 h2 hb hb1 hB (.inl ⟨rfl, rfl⟩) (by omega) (by simp only [List.length_nil]; omega))
        have he1 : evV Px.hole = .agg #[.int .i64 6, .string ⟨#[]⟩, .string ⟨#[]⟩, .string ⟨#[]⟩, .bool true] := rfl
        have he2 : evV (p.on Px.hole) = .agg #[.int .i64 6, .string (str p.anchor), .string (str p.tag), .string ⟨#[]⟩, .bool true] := rfl
        rw [he1] at CEm
        rw [hpr, he1, he2] at CO
        rw [he2] at CM
        clear he1 he2 hpr
        cases hcm : Px.comes s1 (p.on Px.hole) [] with
        | error n =>
          rw [hcm] at CM
          unfold RdrR fault at CM
          simp only at CM
          clear hcm
          go_enter Tryz.func181, Tryz.ntmps181
          go_wp2_with (first
            | (go_at_call 179; go_fit CE.out; rintro e w1 ⟨⟨rfl, hr1⟩, hk1⟩; clear CE)
            | (go_at_call 201; go_fit (CC.out _ (HW.out.below hk1.below) (Nat.le_trans hBw hk1.size)); rintro e w2 ⟨⟨v2, rfl, hv2⟩, hb2⟩; clear CC; obtain ⟨g2, o2, c2, rfl, hc2, hg2, _⟩ := hv2.cons; have hcd : ((tr.length + 1 : Nat) : Int) ≤ (c2 : Int) := (by omega); have HV2 := Lib.hid hv2; clear hv2; have HR2 := Lib.hid ((hr1.call hb2).call (bnew w2 (.cells #[.string (str p.anchor), .string (str p.tag)] 117))); have HK2 := Lib.hid ((hk1.call hb2 hBw).alloc hBw (.cells #[.string (str p.anchor), .string (str p.tag)] 117)); obtain ⟨⟨y0, y1⟩, _⟩ := two (alloc_blk w2 (.cells #[.string (str p.anchor), .string (str p.tag)] 117)); have HV3 := Lib.hid (HV2.out.below (Below.mono (bnew w2 (.cells #[.string (str p.anchor), .string (str p.tag)] 117)) (Nat.le_trans (Nat.le_trans hBw hk1.size) hb2.size))); obtain ⟨g3, o3, c3, ev3, _, _, hat3⟩ := HV3.out.cons; cases ev3; obtain ⟨m0, m1, m2⟩ := hat3)
            | (go_at_call 178; go_fit (CB.out _ _ HV3.out); rintro e w3 ⟨rfl, rfl⟩; clear CB))
          go_region_law (first
            | (go_simp; go_at_call 177; go_fit (CEm.out _); rintro e w4 ⟨rfl, hb4⟩; have hb4' : Below (w2.alloc (.cells #[.string (str p.anchor), .string (str p.tag)] 117)).heap.size (w2.alloc (.cells #[.string (str p.anchor), .string (str p.tag)] 117)) w4 := ⟨hb4.os, hb4.tape, hb4.output, hb4.size, hb4.block⟩; clear CEm; obtain ⟨⟨z0, z1⟩, _⟩ := two (blk_below (alloc_blk w2 (.cells #[.string (str p.anchor), .string (str p.tag)] 117)) hb4'))
            | (go_simp; go_at_call 203; go_fit (CO.out _); rintro e w5 ⟨rfl, hb5⟩; clear CO)
            | (go_simp; go_at_call 176; go_fit (CM.out (w2.alloc (.cells #[.string (str p.anchor), .string (str p.tag)] 117)) HR2.out _ (bthen hb4' hb5)); rintro e w6 ⟨rfl, hk6⟩; refine any_stop (P := Tryz.prog) ⟨#[], []⟩ w6 ?_))
          all_goals exact ⟨rfl, rfl, (HK2.out.call (bthen hb4' hb5) hBw).trans hk6⟩
        | ok s2 =>
          have hbs := Px.comes_blocks _ _ _ _ hcm
          rw [hb1] at hbs
          rw [hcm] at CM
          unfold RdrR at CM
          simp only at CM
          clear hcm
          go_enter Tryz.func181, Tryz.ntmps181
          go_wp2_with (first
            | (go_at_call 179; go_fit CE.out; rintro e w1 ⟨⟨rfl, hr1⟩, hk1⟩; clear CE)
            | (go_at_call 201; go_fit (CC.out _ (HW.out.below hk1.below) (Nat.le_trans hBw hk1.size)); rintro e w2 ⟨⟨v2, rfl, hv2⟩, hb2⟩; clear CC; obtain ⟨g2, o2, c2, rfl, hc2, hg2, _⟩ := hv2.cons; have hcd : ((tr.length + 1 : Nat) : Int) ≤ (c2 : Int) := (by omega); have HV2 := Lib.hid hv2; clear hv2; have HR2 := Lib.hid ((hr1.call hb2).call (bnew w2 (.cells #[.string (str p.anchor), .string (str p.tag)] 117))); have HK2 := Lib.hid ((hk1.call hb2 hBw).alloc hBw (.cells #[.string (str p.anchor), .string (str p.tag)] 117)); obtain ⟨⟨y0, y1⟩, _⟩ := two (alloc_blk w2 (.cells #[.string (str p.anchor), .string (str p.tag)] 117)); have HV3 := Lib.hid (HV2.out.below (Below.mono (bnew w2 (.cells #[.string (str p.anchor), .string (str p.tag)] 117)) (Nat.le_trans (Nat.le_trans hBw hk1.size) hb2.size))); obtain ⟨g3, o3, c3, ev3, _, _, hat3⟩ := HV3.out.cons; cases ev3; obtain ⟨m0, m1, m2⟩ := hat3)
            | (go_at_call 178; go_fit (CB.out _ _ HV3.out); rintro e w3 ⟨rfl, rfl⟩; clear CB))
          go_region_law (first
            | (go_simp; go_at_call 177; go_fit (CEm.out _); rintro e w4 ⟨rfl, hb4⟩; have hb4' : Below (w2.alloc (.cells #[.string (str p.anchor), .string (str p.tag)] 117)).heap.size (w2.alloc (.cells #[.string (str p.anchor), .string (str p.tag)] 117)) w4 := ⟨hb4.os, hb4.tape, hb4.output, hb4.size, hb4.block⟩; clear CEm; obtain ⟨⟨z0, z1⟩, _⟩ := two (blk_below (alloc_blk w2 (.cells #[.string (str p.anchor), .string (str p.tag)] 117)) hb4'))
            | (go_simp; go_at_call 203; go_fit (CO.out _); rintro e w5 ⟨rfl, hb5⟩; clear CO)
            | (go_simp; go_at_call 176; go_fit (CM.out (w2.alloc (.cells #[.string (str p.anchor), .string (str p.tag)] 117)) HR2.out _ (bthen hb4' hb5)); rintro e w6 ⟨⟨rfl, hr6⟩, hk6⟩))
          all_goals obtain ⟨bv6, ov6, hr6⟩ := hr6
          all_goals have HR6 := Lib.hid (hr6.topS hbs)
          all_goals have HK6 := Lib.hid ((HK2.out.call (bthen hb4' hb5) hBw).trans hk6)
          all_goals obtain ⟨g6, cap6, cur6, e6, hBg6, _, hg6, t0, t1', t2, t3, tf⟩ := HR6.out.top
          all_goals subst e6
          all_goals have c0 := cell_blk HR6.out.cell 0 _ rfl
          all_goals have HX6 := Lib.hid hg6
          all_goals clear hg6 hr6
          all_goals have hsw : s2.wait = ⟨⟨b1.kind, b1.fin, b1.col, true⟩ :: t1, s2.held, s2.out⟩ := (by unfold Px.St.wait; rw [hbs]; rfl)
          all_goals have HSW := Lib.hid hsw
          all_goals have HV6 := Lib.hid ((HV3.out.below ((bthen hb4' hb5).mono (Nat.le_trans hBw HK2.out.size))).below hk6.below)
          all_goals clear hsw
          all_goals by_cases hc1 : c2 = 1
          all_goals first
            | (subst hc1
               have htn : tr = [] := List.length_eq_zero_iff.1 (by omega)
               go_wp2_with (go_at_call 174; go_fit (CL.out _ _ _ c0); rintro e w7 ⟨rfl, hb7⟩; clear CL t0 t1' t2 t3 tf c0; have HR7 := Lib.hid (HR6.out.below hb7); have HK7 := Lib.hid (HK6.out.call hb7 hBw); obtain ⟨g7, cap7, cur7, e7, hBg7, _, hg7, t0, t1', t2, t3, tf⟩ := HR7.out.top; cases e7; have HX7 := Lib.hid hg7; clear hg7)
               go_ret
               have HK8 := Lib.hid (HK7.out.set (i := t1.length * 4 + 3) (v := .bool true) HX7.out (by decide) hBg6)
               subst htn
               exact ⟨⟨_, rfl, RdW.nil_any _ _ _, by rw [HSW.out]; exact ⟨_, _, HR7.out.setW true⟩⟩, HK8.out⟩)
            | (go_wp2_with (go_at_call 174; go_fit (CL.out _ _ _ c0); rintro e w7 ⟨rfl, hb7⟩; clear CL t0 t1' t2 t3 tf c0; have HR7 := Lib.hid (HR6.out.below hb7); have HK7 := Lib.hid (HK6.out.call hb7 hBw); obtain ⟨g7, cap7, cur7, e7, hBg7, _, hg7, t0, t1', t2, t3, tf⟩ := HR7.out.top; cases e7; have HX7 := Lib.hid hg7; clear hg7)
               go_ret
               have HK8 := Lib.hid (HK7.out.set (i := t1.length * 4 + 3) (v := .bool true) HX7.out (by decide) hBg6)
               have HV8 := (HV6.out.below (hb7.mono (Nat.le_trans hBw HK6.out.size))).below ((Below.refl B w7).setCell (p := ⟨g6, t1.length * 4 + 3, none⟩) hBg6 (.bool true))
               have HT := RdW.tail HV8
               rw [if_neg hc1] at HT
               exact ⟨⟨_, rfl, HT, by rw [HSW.out]; exact ⟨_, _, HR7.out.setW true⟩⟩, HK8.out⟩)
      · rw [if_neg h11]
        rw [decide_eq_false h11] at CB
        have hkx : (x.kind ≤ 2 ∨ x.kind = 4) ∧ Px.bk tr 11 = true := by
          have h := hkr
          unfold Px.isKeyGo at h
          rw [if_neg (by omega)] at h
          by_cases h24 : x.kind ≤ 2 ∨ x.kind = 4
          · rw [if_pos h24] at h; exact ⟨h24, h⟩
          · rw [if_neg h24] at h; exact absurd (of_decide_eq_true h) h11
        obtain ⟨y0', tr', htr⟩ : ∃ y t, tr = y :: t := by
          cases tr with
          | nil => have := hkx.2; cases this
          | cons y t => exact ⟨y, t, rfl⟩
        have htl : tr.length = tr'.length + 1 := by rw [htr]; rfl
        have HTR := Lib.hid htr
        have hnn : (0 : Int) < ((tr.length + 1 : Nat) : Int) := by omega
        clear htr
        have CLf := Lib.hid (fun w => leafOf_any x p w)
        have hcc2 : (1 : Int) ≤ ((tr.length : Nat) : Int) := by omega
        have HTL := Lib.hid htl
        clear htl
        rw [hpr] at CLf
        clear hkx hpr h11
        cases hlf : Px.leaf x p with
        | error n =>
          rw [hlf] at CLf
          unfold leafR fault at CLf
          simp only at CLf
          clear hlf
          go_enter Tryz.func181, Tryz.ntmps181
          go_wp2_with (first
            | (go_at_call 179; go_fit CE.out; rintro e w1 ⟨⟨rfl, hr1⟩, hk1⟩; clear CE)
            | (go_at_call 201; go_fit (CC.out _ (HW.out.below hk1.below) (Nat.le_trans hBw hk1.size)); rintro e w2 ⟨⟨v2, rfl, hv2⟩, hb2⟩; clear CC; obtain ⟨g2, o2, c2, rfl, hc2, hg2, _⟩ := hv2.cons; have hcd : ((tr.length + 1 : Nat) : Int) ≤ (c2 : Int) := (by omega); have HV2 := Lib.hid hv2; clear hv2; have HR2 := Lib.hid ((hr1.call hb2).call (bnew w2 (.cells #[.string (str p.anchor), .string (str p.tag)] 117))); have HK2 := Lib.hid ((hk1.call hb2 hBw).alloc hBw (.cells #[.string (str p.anchor), .string (str p.tag)] 117)); obtain ⟨⟨y0, y1⟩, _⟩ := two (alloc_blk w2 (.cells #[.string (str p.anchor), .string (str p.tag)] 117)); have HV3 := Lib.hid (HV2.out.below (Below.mono (bnew w2 (.cells #[.string (str p.anchor), .string (str p.tag)] 117)) (Nat.le_trans (Nat.le_trans hBw hk1.size) hb2.size))); obtain ⟨g3, o3, c3, ev3, _, _, hat3⟩ := HV3.out.cons; cases ev3; obtain ⟨m0, m1, m2⟩ := hat3)
            | (go_at_call 178; go_fit (CB.out _ _ HV3.out); rintro e w3 ⟨rfl, rfl⟩; clear CB))
          go_region_law (first
            | (go_simp; go_at_call 204; go_fit (CLf.out _); rintro e w5 ⟨rfl, hb5⟩; have hb5' : Below (w2.alloc (.cells #[.string (str p.anchor), .string (str p.tag)] 117)).heap.size (w2.alloc (.cells #[.string (str p.anchor), .string (str p.tag)] 117)) w5 := ⟨hb5.os, hb5.tape, hb5.output, hb5.size, hb5.block⟩; refine any_stop (P := Tryz.prog) ⟨#[], []⟩ w5 ?_))
          all_goals exact ⟨rfl, rfl, HK2.out.call hb5' hBw⟩
        | ok yv =>
          rw [hlf] at CLf
          unfold leafR evV at CLf
          simp only at CLf ⊢
          have CM := Lib.hid (fun w2 (h2 : RdrAt w2 B R s1) w3 (hb : Below w2.heap.size w2 w3) => comes_any B R s1 b1 t1 yv (.slice none 0 0) [] w2 w3 h2 hb hb1 hB (.inl ⟨rfl, rfl⟩) (by omega) (by simp only [List.length_nil]; omega))
          unfold evV at CM
          clear hlf
          cases hcm : Px.comes s1 yv [] with
          | error n =>
            rw [hcm] at CM
            unfold RdrR fault at CM
            simp only at CM
            clear hcm
            go_enter Tryz.func181, Tryz.ntmps181
            go_wp2_with (first
              | (go_at_call 179; go_fit CE.out; rintro e w1 ⟨⟨rfl, hr1⟩, hk1⟩; clear CE)
              | (go_at_call 201; go_fit (CC.out _ (HW.out.below hk1.below) (Nat.le_trans hBw hk1.size)); rintro e w2 ⟨⟨v2, rfl, hv2⟩, hb2⟩; clear CC; obtain ⟨g2, o2, c2, rfl, hc2, hg2, _⟩ := hv2.cons; have hcd : ((tr.length + 1 : Nat) : Int) ≤ (c2 : Int) := (by omega); have HV2 := Lib.hid hv2; clear hv2; have HR2 := Lib.hid ((hr1.call hb2).call (bnew w2 (.cells #[.string (str p.anchor), .string (str p.tag)] 117))); have HK2 := Lib.hid ((hk1.call hb2 hBw).alloc hBw (.cells #[.string (str p.anchor), .string (str p.tag)] 117)); obtain ⟨⟨y0, y1⟩, _⟩ := two (alloc_blk w2 (.cells #[.string (str p.anchor), .string (str p.tag)] 117)); have HV3 := Lib.hid (HV2.out.below (Below.mono (bnew w2 (.cells #[.string (str p.anchor), .string (str p.tag)] 117)) (Nat.le_trans (Nat.le_trans hBw hk1.size) hb2.size))); obtain ⟨g3, o3, c3, ev3, _, _, hat3⟩ := HV3.out.cons; cases ev3; obtain ⟨m0, m1, m2⟩ := hat3)
              | (go_at_call 178; go_fit (CB.out _ _ HV3.out); rintro e w3 ⟨rfl, rfl⟩; clear CB))
            go_region_law (first
              | (go_simp; go_at_call 204; go_fit (CLf.out _); rintro e w5 ⟨rfl, hb5⟩; have hb5' : Below (w2.alloc (.cells #[.string (str p.anchor), .string (str p.tag)] 117)).heap.size (w2.alloc (.cells #[.string (str p.anchor), .string (str p.tag)] 117)) w5 := ⟨hb5.os, hb5.tape, hb5.output, hb5.size, hb5.block⟩)
              | (go_simp; go_at_call 176; go_fit (CM.out (w2.alloc (.cells #[.string (str p.anchor), .string (str p.tag)] 117)) HR2.out _ hb5'); rintro e w6 ⟨rfl, hk6⟩; refine any_stop (P := Tryz.prog) ⟨#[], []⟩ w6 ?_))
            all_goals exact ⟨rfl, rfl, (HK2.out.call hb5' hBw).trans hk6⟩
          | ok s2 =>
            have hbs := Px.comes_blocks _ _ _ _ hcm
            rw [hb1] at hbs
            rw [hcm] at CM
            unfold RdrR at CM
            simp only at CM
            clear hcm
            go_enter Tryz.func181, Tryz.ntmps181
            go_wp2_with (first
              | (go_at_call 179; go_fit CE.out; rintro e w1 ⟨⟨rfl, hr1⟩, hk1⟩; clear CE)
              | (go_at_call 201; go_fit (CC.out _ (HW.out.below hk1.below) (Nat.le_trans hBw hk1.size)); rintro e w2 ⟨⟨v2, rfl, hv2⟩, hb2⟩; clear CC; obtain ⟨g2, o2, c2, rfl, hc2, hg2, _⟩ := hv2.cons; have hcd : ((tr.length + 1 : Nat) : Int) ≤ (c2 : Int) := (by omega); have HV2 := Lib.hid hv2; clear hv2; have HR2 := Lib.hid ((hr1.call hb2).call (bnew w2 (.cells #[.string (str p.anchor), .string (str p.tag)] 117))); have HK2 := Lib.hid ((hk1.call hb2 hBw).alloc hBw (.cells #[.string (str p.anchor), .string (str p.tag)] 117)); obtain ⟨⟨y0, y1⟩, _⟩ := two (alloc_blk w2 (.cells #[.string (str p.anchor), .string (str p.tag)] 117)); have HV3 := Lib.hid (HV2.out.below (Below.mono (bnew w2 (.cells #[.string (str p.anchor), .string (str p.tag)] 117)) (Nat.le_trans (Nat.le_trans hBw hk1.size) hb2.size))); obtain ⟨g3, o3, c3, ev3, _, _, hat3⟩ := HV3.out.cons; cases ev3; obtain ⟨m0, m1, m2⟩ := hat3)
              | (go_at_call 178; go_fit (CB.out _ _ HV3.out); rintro e w3 ⟨rfl, rfl⟩; clear CB))
            go_region_law (first
              | (go_simp; go_at_call 204; go_fit (CLf.out _); rintro e w5 ⟨rfl, hb5⟩; have hb5' : Below (w2.alloc (.cells #[.string (str p.anchor), .string (str p.tag)] 117)).heap.size (w2.alloc (.cells #[.string (str p.anchor), .string (str p.tag)] 117)) w5 := ⟨hb5.os, hb5.tape, hb5.output, hb5.size, hb5.block⟩)
              | (go_simp; go_at_call 176; go_fit (CM.out (w2.alloc (.cells #[.string (str p.anchor), .string (str p.tag)] 117)) HR2.out _ hb5'); rintro e w6 ⟨⟨rfl, hr6⟩, hk6⟩))
            all_goals obtain ⟨bv6, ov6, hr6⟩ := hr6
            all_goals have HR6 := Lib.hid (hr6.topS hbs)
            all_goals have HK6 := Lib.hid ((HK2.out.call hb5' hBw).trans hk6)
            all_goals obtain ⟨g6, cap6, cur6, e6, hBg6, _, hg6, t0, t1', t2, t3, tf⟩ := HR6.out.top
            all_goals subst e6
            all_goals have c0 := cell_blk HR6.out.cell 0 _ rfl
            all_goals have HX6 := Lib.hid hg6
            all_goals clear hg6 hr6
            all_goals have hsw : s2.wait = ⟨⟨b1.kind, b1.fin, b1.col, true⟩ :: t1, s2.held, s2.out⟩ := (by unfold Px.St.wait; rw [hbs]; rfl)
            all_goals have HSW := Lib.hid hsw
            all_goals have HV6 := Lib.hid ((HV3.out.below (hb5'.mono (Nat.le_trans hBw HK2.out.size))).below hk6.below)
            all_goals clear hsw
            all_goals have hne1 : ¬ c2 = 1 := (by have := HTL.out; omega)
            all_goals have hcd2 : ((tr.length : Nat) : Int) ≤ ((c2 - 1 : Nat) : Int) := (by omega)
            all_goals by_cases hc1 : c2 - 1 = 1
            all_goals first
              | (go_wp2_with (go_at_call 174; go_fit (CL.out _ _ _ c0); rintro e w7 ⟨rfl, hb7⟩; clear CL t0 t1' t2 t3 tf c0; have HR7 := Lib.hid (HR6.out.below hb7); have HK7 := Lib.hid (HK6.out.call hb7 hBw); obtain ⟨g7, cap7, cur7, e7, hBg7, _, hg7, t0, t1', t2, t3, tf⟩ := HR7.out.top; cases e7; have HX7 := Lib.hid hg7; clear hg7)
                 go_ret
                 have HK8 := Lib.hid (HK7.out.set (i := t1.length * 4 + 3) (v := .bool true) HX7.out (by decide) hBg6)
                 have HV8 := (HV6.out.below (hb7.mono (Nat.le_trans hBw HK6.out.size))).below ((Below.refl B w7).setCell (p := ⟨g6, t1.length * 4 + 3, none⟩) hBg6 (.bool true))
                 have HT := RdW.tail HV8
                 rw [if_neg hne1, HTL.out] at HT
                 rw [HTR.out] at HT
                 have HT2 := RdW.tail HT
                 have e1 : tr.length - 1 = tr'.length := (by have := HTL.out; omega)
                 have htt : tr.tail = tr' := (by rw [HTR.out]; rfl)
                 rw [htt]
                 refine ⟨⟨_, rfl, ?_, by rw [HSW.out]; exact ⟨_, _, HR7.out.setW true⟩⟩, HK8.out⟩
                 first
                   | (rw [if_neg hc1] at HT2; rw [e1]; exact HT2)
                   | (have e0 : tr' = [] := List.length_eq_zero_iff.1 (by have := HTL.out; omega)
                      rw [e0]
                      exact RdW.nil_cap _ _ _ _ _ (by have := HTL.out; omega)))
end Go.Proofs.YtjcfmghijfnehaaGreatDoor
