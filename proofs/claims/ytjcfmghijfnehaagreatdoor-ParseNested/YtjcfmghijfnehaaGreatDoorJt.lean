/-
  The walk of reader.words.
-/
import Derived.Test.YtjcfmghijfnehaaGreatDoorJs
import Derived.Test.YtjcfmghijfnehaaGreatDoorKd
namespace Go.Proofs.YtjcfmghijfnehaaGreatDoor
open Go.RowKit
/-- what stands behind the dashes -/
def Px.finW (xt : List UInt8) : Except Nat (Px.St × List Lx.Wd) → Except Nat Px.St
  | .error e => .error e
  | .ok (s', ws) => Px.behind xt (if Px.isKeyGo ws then Px.keyed s' ws else .ok (s', ws))
theorem Px.finW_words (s : Px.St) (x : Lx.Ln) : Px.wordsOf s x = Px.finW x.text (Px.dashes s x.words) := by
  unfold Px.wordsOf Px.finW
  cases Px.dashes s x.words <;> rfl
theorem blocks_cons (l : List Px.Bk) (h : 0 < l.length) : ∃ b t, l = b :: t := by
  cases l with
  | nil => simp at h
  | cons b t => exact ⟨b, t, rfl⟩

set_option maxHeartbeats 16000000 in
set_option maxRecDepth 100000 in
theorem words_walk (B R : Nat) (st : Px.St) (x : Lx.Ln) (wa : Option Addr) (wc : Nat) (w : World) (h : RdrAt w B R st) (hne : 0 < st.blocks.length) (hB : B ≤ R) (hb : st.blocks.length ≤ 41) (hl : Px.wt st + 3 * x.words.length ≤ 2199023255200)
    (hW : RdW w B (.slice wa x.words.length wc) x.words) :
    Calls Tryz.prog 115 #[.pointer (some ⟨R, 0, none⟩), .agg #[.int .i64 x.mark, .int .i64 x.indent, .slice wa x.words.length wc, .string (str x.text)]] w fun e w' => RdrR B R (Px.wordsOf st x) e w' ∧ Keep rdT B w w' := by
  obtain ⟨xm, xi, xw, xt⟩ := x
  simp only at hW hl ⊢
  rw [Px.finW_words]
  simp only
  obtain ⟨ANS, hANS⟩ : ∃ ANS, Px.finW xt (Px.dashes st xw) = ANS := ⟨_, rfl⟩
  rw [hANS]
  have HA := Lib.hid hANS
  have hR := h.lt
  have hBw : B ≤ w.heap.size := by omega
  have HH := Lib.hid h
  have HW := Lib.hid (hW.below (Below.mono (bnew w (.cells #[.int .i64 xm, .int .i64 xi, .slice wa xw.length wc, .string (str xt)] 76)) hBw))
  have HX0 := Lib.hid (alloc_blk w (.cells #[.int .i64 xm, .int .i64 xi, .slice wa xw.length wc, .string (str xt)] 76))
  obtain ⟨⟨x0, x1, x2, x3⟩, _⟩ := four HX0.out
  clear hANS h hW
  go_enter Tryz.func115, Tryz.ntmps115
  go_wp2
  go_loopw [4] (fun v4 wr => ∃ (s : Px.St) (us : List Lx.Wd), Hid (RdrAt wr B R s) ∧ Hid (RdW wr B v4 us) ∧ Hid (Px.finW xt (Px.dashes s us) = ANS) ∧ Hid (Keep rdT B w wr) ∧ Hid (wr.heap[w.heap.size]? = some (.cells #[.int .i64 xm, .int .i64 xi, .slice wa xw.length wc, .string (str xt)] 76)) ∧ 0 < s.blocks.length ∧ s.blocks.length ≤ 41 ∧ Px.wt s + 3 * us.length ≤ 2199023255200) (fun v4 _ => lenS v4)
  case atStart => exact ⟨st, xw, HH.out.call (bnew w _), HW, HA, keep_of (bnew w _) hBw, HX0, hne, hb, hl⟩
  case round =>
    obtain ⟨s, us, HS, HU, HK, HKp, HXp, hsn, hsb, hsl⟩ := hrel
    clear HA HH hb hl hne HX0 x0 x1 x2 x3 HW
    obtain ⟨b, t, hbl⟩ := blocks_cons _ hsn
    have htl : t.length ≤ 40 := by rw [hbl] at hsb; simp only [List.length_cons] at hsb; omega
    have hBr := HKp.out.size
    have hBr' : B ≤ wr.heap.size := Nat.le_trans hBw hBr
    obtain ⟨⟨x0, x1, x2, x3⟩, _⟩ := four HXp.out
    have HUU := HU
    obtain ⟨ua, uc, rfl, huc, _⟩ := HUU
    have CB := Lib.hid (begins_any _ us 12 B wr HU.out)
    cases hbk : Px.bk us 12
    · rw [hbk] at CB
      have hA : Px.finW xt (.ok (s, us)) = ANS := by rw [← HK.out, Px.dashes_not us s hbk]
      have HAN := Lib.hid hA
      clear hA
      have CK := Lib.hid (key_any _ us B wr HU.out)
      cases hky : Px.isKeyGo us
      · have HKY := Lib.hid hky
        rw [hky] at CK
        cases us with
        | nil =>
          clear hbk hky
          go_wp2_with (first
            | (go_at_call 178; go_fit CB.out; rintro e w1 ⟨rfl, rfl⟩; clear CB)
            | (go_at_call 180; go_fit CK.out; rintro e w1 ⟨rfl, rfl⟩))
          go_end0
          exact ⟨(by rw [← HAN.out]; unfold Px.finW; simp only; rw [HKY.out, if_neg (by decide)]; exact ⟨rfl, HS.out⟩), HKp.out⟩
        | cons y ys =>
          have CV := Lib.hid (value_any B R s b t _ (y :: ys) xt wr HS.out hbl hB htl (by unfold Px.wt at hsl; simp only [List.length_cons] at hsl ⊢; omega) HU.out)
          have hn : (0 : Int) < ((ys.length + 1 : Nat) : Int) := by omega
          simp only [List.length_cons] at CB CK CV
          clear hbk hky
          cases hv : Px.value s (y :: ys) xt with
          | error n =>
            rw [hv] at CV
            have HV := Lib.hid hv
            unfold RdrR fault at CV
            simp only at CV
            clear hv
            go_wp2_with (first
              | (go_at_call 178; go_fit CB.out; rintro e w1 ⟨rfl, rfl⟩; clear CB)
              | (go_at_call 180; go_fit CK.out; rintro e w1 ⟨rfl, rfl⟩; clear CK)
              | (go_at_call 182; go_fit CV.out; rintro e w2 ⟨rfl, hk2⟩))
            exact ⟨rfl, (by rw [← HAN.out]; unfold Px.finW; simp only; rw [HKY.out, if_neg (by decide)]; show RdrR B R (Px.value s (y :: ys) xt) _ _; rw [HV.out]; rfl), HKp.out.trans hk2⟩
          | ok s2 =>
            rw [hv] at CV
            have HV := Lib.hid hv
            unfold RdrR at CV
            simp only at CV
            clear hv
            go_wp2_with (first
              | (go_at_call 178; go_fit CB.out; rintro e w1 ⟨rfl, rfl⟩; clear CB)
              | (go_at_call 180; go_fit CK.out; rintro e w1 ⟨rfl, rfl⟩; clear CK)
              | (go_at_call 182; go_fit CV.out; rintro e w2 ⟨⟨rfl, hr2⟩, hk2⟩))
            go_end0
            exact ⟨(by rw [← HAN.out]; unfold Px.finW; simp only; rw [HKY.out, if_neg (by decide)]; show RdrR B R (Px.value s (y :: ys) xt) _ _; rw [HV.out]; exact ⟨rfl, hr2⟩), HKp.out.trans hk2⟩
      · have HKY := Lib.hid hky
        rw [hky] at CK
        have CR := Lib.hid (rkey_any B R s b t _ us wr HS.out hbl hB (by omega) (by omega) HU.out hky)
        clear hbk
        cases hkd : Px.keyed s us with
        | error n =>
          have HKD := Lib.hid hkd
          rw [hkd] at CR
          unfold KeyR fault at CR
          simp only at CR
          clear hkd hky
          go_wp2_with (first
            | (go_at_call 178; go_fit CB.out; rintro e w1 ⟨rfl, rfl⟩; clear CB)
            | (go_at_call 180; go_fit CK.out; rintro e w1 ⟨rfl, rfl⟩; clear CK)
            | (go_at_call 181; go_fit CR.out; rintro e w2 ⟨rfl, hk2⟩))
          exact ⟨rfl, (by rw [← HAN.out]; unfold Px.finW; simp only; rw [HKY.out, if_pos rfl, HKD.out]; rfl), HKp.out.trans hk2⟩
        | ok z =>
          obtain ⟨s2, r⟩ := z
          have hkw := Px.keyed_wt _ _ _ _ hkd
          have hws := Px.keyed_waits _ _ _ _ hkd
          obtain ⟨b2, t2, hb2, _⟩ := hws
          have HKD := Lib.hid hkd
          rw [hkd] at CR
          unfold KeyR at CR
          simp only at CR
          have ht2 : t2.length ≤ 40 := by
            have := hkw.2.1
            rw [hb2] at this
            simp only [List.length_cons] at this
            omega
          clear hkd hky
          cases r with
          | nil =>
            go_wp2_with (first
              | (go_at_call 178; go_fit CB.out; rintro e w1 ⟨rfl, rfl⟩; clear CB)
              | (go_at_call 180; go_fit CK.out; rintro e w1 ⟨rfl, rfl⟩; clear CK)
              | (go_at_call 181; go_fit CR.out; rintro e w2 ⟨⟨v2, rfl, hv2, hr2⟩, hk2⟩; obtain ⟨a2, c2, rfl⟩ := hv2.nil_form))
            go_end0
            exact ⟨(by rw [← HAN.out]; unfold Px.finW; simp only; rw [HKY.out, if_pos rfl, HKD.out]; exact ⟨rfl, hr2⟩), HKp.out.trans hk2⟩
          | cons y ys =>
            have CV := Lib.hid (fun v w2 (h : RdrAt w2 B R s2) (hW : RdW w2 B v (y :: ys)) => value_any B R s2 b2 t2 v (y :: ys) xt w2 h hb2 hB ht2 (by have h1 := hkw.1; have h2 := hkw.2.2; unfold Px.wt at h1 hsl; omega) hW)
            have hn : (0 : Int) < ((ys.length + 1 : Nat) : Int) := by omega
            cases hv : Px.value s2 (y :: ys) xt with
            | error n =>
              have HV := Lib.hid hv
              rw [hv] at CV
              unfold RdrR fault at CV
              simp only at CV
              clear hv
              go_wp2_with (first
                | (go_at_call 178; go_fit CB.out; rintro e w1 ⟨rfl, rfl⟩; clear CB)
                | (go_at_call 180; go_fit CK.out; rintro e w1 ⟨rfl, rfl⟩; clear CK)
                | (go_at_call 181; go_fit CR.out; rintro e w2 ⟨⟨v2, rfl, hv2, hr2⟩, hk2⟩; obtain ⟨g2, o2, c2, rfl, _, _, _⟩ := hv2.cons; obtain ⟨⟨z0, z1, z2, z3⟩, _⟩ := four (hk2.blk HXp.out (by decide)))
                | (go_at_call 182; go_fit (CV.out _ _ hr2 hv2); rintro e w3 ⟨rfl, hk3⟩))
              exact ⟨rfl, (by rw [← HAN.out]; unfold Px.finW; simp only; rw [HKY.out, if_pos rfl, HKD.out]; show RdrR B R (Px.value s2 (y :: ys) xt) _ _; rw [HV.out]; rfl), (HKp.out.trans hk2).trans hk3⟩
            | ok s3 =>
              have HV := Lib.hid hv
              rw [hv] at CV
              unfold RdrR at CV
              simp only at CV
              clear hv
              go_wp2_with (first
                | (go_at_call 178; go_fit CB.out; rintro e w1 ⟨rfl, rfl⟩; clear CB)
                | (go_at_call 180; go_fit CK.out; rintro e w1 ⟨rfl, rfl⟩; clear CK)
                | (go_at_call 181; go_fit CR.out; rintro e w2 ⟨⟨v2, rfl, hv2, hr2⟩, hk2⟩; obtain ⟨g2, o2, c2, rfl, _, _, _⟩ := hv2.cons; obtain ⟨⟨z0, z1, z2, z3⟩, _⟩ := four (hk2.blk HXp.out (by decide)))
                | (go_at_call 182; go_fit (CV.out _ _ hr2 hv2); rintro e w3 ⟨⟨rfl, hr3⟩, hk3⟩))
              go_end0
              exact ⟨(by rw [← HAN.out]; unfold Px.finW; simp only; rw [HKY.out, if_pos rfl, HKD.out]; show RdrR B R (Px.value s2 (y :: ys) xt) _ _; rw [HV.out]; exact ⟨rfl, hr3⟩), (HKp.out.trans hk2).trans hk3⟩
    · rw [hbk] at CB
      cases us with
      | nil => cases hbk
      | cons y ys =>
        have h12 : y.kind = 12 := by unfold Px.bk at hbk; simpa using hbk
        obtain ⟨gu, ou, cu', eu, hcu, hgu, hat⟩ := HU.out.cons
        obtain ⟨rfl, rfl⟩ : ua = some ⟨gu, ou, none⟩ ∧ uc = cu' := by cases eu; exact ⟨rfl, rfl⟩
        clear eu
        obtain ⟨m0, m1, m2⟩ := hat
        have CE := Lib.hid (enter_any B R s b t 2 3 y.at_ wr HS.out hbl hB (by omega) (by unfold Px.wt at hsl; omega) (by decide))
        have hK := HK.out
        unfold Px.dashes at hK
        rw [if_pos h12] at hK
        have hnn : (0 : Int) < ((ys.length + 1 : Nat) : Int) := by omega
        have hcc : (1 : Int) ≤ ((ys.length + 1 : Nat) : Int) := by omega
        have hcd : ((ys.length + 1 : Nat) : Int) ≤ (uc : Int) := by omega
        clear hbk h12
        cases he : Px.enter s 2 3 y.at_ with
        | error n =>
          rw [he] at hK CE
          unfold RdrR fault at CE
          simp only at hK CE
          have HKE := Lib.hid hK
          clear he hK
          go_wp2_with (first
            | (go_at_call 178; go_fit CB.out; rintro e w1 ⟨rfl, rfl⟩; clear CB)
            | (go_at_call 179; go_fit CE.out; rintro e w2 ⟨rfl, hk2⟩))
          exact ⟨rfl, by rw [← HKE.out]; rfl, HKp.out.trans hk2⟩
        | ok s1 =>
          have hw1 := Px.enter_wt _ _ _ _ _ he
          obtain ⟨b1, t1, hb1⟩ := blocks_cons _ hw1.2.2
          rw [he] at hK CE
          unfold RdrR at CE
          simp only at hK CE
          have HK2 := Lib.hid hK
          have ht1 : t1.length ≤ 40 := by
            have h1 := hw1.2.1
            rw [hb1] at h1
            simp only [List.length_cons] at h1
            omega
          have CL := Lib.hid (fun g cap w hc => last_any R g t1.length cap w hc (by omega))
          have hsw : s1.wait = ⟨⟨b1.kind, b1.fin, b1.col, true⟩ :: t1, s1.held, s1.out⟩ := by unfold Px.St.wait; rw [hb1]; rfl
          have HSW := Lib.hid hsw
          have hww := Px.wait_wt s1
          have HT := Lib.hid (RdW.tail HU.out)
          simp only [List.length_cons] at hsl
          clear he hK hsw
          by_cases hc1 : uc = 1
          rotate_left
          rotate_left
          all_goals try subst hc1
          all_goals go_wp2_with (first
            | (go_at_call 178; go_fit CB.out; rintro e w1 ⟨rfl, rfl⟩; clear CB)
            | (go_at_call 179; go_fit CE.out; rintro e w2 ⟨⟨rfl, hr2⟩, hk2⟩; clear CE; obtain ⟨bv2, ov2, hr2⟩ := hr2; have HR2 := Lib.hid (hr2.topS hb1); obtain ⟨g2, cap2, cur2, e2, hBg2, _, _, _⟩ := HR2.out.top; subst e2; have c0 := cell_blk HR2.out.cell 0 _ rfl; clear hr2)
            | (go_at_call 174; go_fit (CL.out _ _ _ c0); rintro e w3 ⟨rfl, hb3⟩; clear CL c0; have HR3 := Lib.hid (HR2.out.below hb3); have HK3 := Lib.hid ((HKp.out.trans hk2).call hb3 hBw); have HX3 := Lib.hid (blk_below (hk2.blk HXp.out (by decide)) hb3); obtain ⟨g3, cap3, cur3, e3, hBg3, _, hg3, t0, t1', t2, t3, tf⟩ := HR3.out.top; cases e3; have HG3 := Lib.hid hg3; clear hg3))
          all_goals go_roundw
          case rel => exact ⟨s1.wait, ys, by rw [HSW.out]; exact ⟨_, _, HR3.out.setW true⟩, (by have htn : ys = [] := List.length_eq_zero_iff.1 (by simp only [List.length_cons] at huc; omega); rw [htn]; exact RdW.nil_cap _ _ _ _ _ (by first | rfl | (rw [htn]; rfl))), HK2.out, HK3.out.set (i := t1.length * 4 + 3) (v := .bool true) HG3.out (by decide) hBg3, other_set HX3.out _ _ (fun e => by simp only at e; have hx := HX3.out; rw [e, HG3.out] at hx; cases hx), by rw [hww.2]; exact hw1.2.2, by rw [hww.2]; omega, by rw [hww.1]; omega⟩
          case measure => simp only [lenS, List.length_cons]; omega
          case rel => exact ⟨s1.wait, ys, by rw [HSW.out]; exact ⟨_, _, HR3.out.setW true⟩, (by have h := HT.out; rw [if_neg (by assumption)] at h; exact h.below (((hk2.below).trans (hb3.mono (Nat.le_trans hBr' hk2.size))).setCell (p := ⟨g2, t1.length * 4 + 3, none⟩) hBg3 _)), HK2.out, HK3.out.set (i := t1.length * 4 + 3) (v := .bool true) HG3.out (by decide) hBg3, other_set HX3.out _ _ (fun e => by simp only at e; have hx := HX3.out; rw [e, HG3.out] at hx; cases hx), by rw [hww.2]; exact hw1.2.2, by rw [hww.2]; omega, by rw [hww.1]; omega⟩
          case measure => simp only [lenS, List.length_cons]; omega
end Go.Proofs.YtjcfmghijfnehaaGreatDoor
