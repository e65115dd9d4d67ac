/-
  The walk of reader.line.
-/
import Derived.Test.YtjcfmghijfnehaaGreatDoorJt
namespace Go.Proofs.YtjcfmghijfnehaaGreatDoor
open Go.RowKit
theorem Px.place_pos (s s' : Px.St) (x : Lx.Ln) (h : Px.place s x = .ok s') : 0 < s'.blocks.length := by
  unfold Px.place at h
  generalize Px.dropTo x.indent s = d at *
  unfold Px.placeAt at h
  split at h
  · cases h
  · rename_i b t hb
    split at h
    · split at h
      · cases h; rw [hb]; simp
      · cases h
    · split at h
      · split at h
        · cases h; rw [(Px.fill_wt _ _).2, hb]; simp
        · cases h; rw [hb]; simp
      · cases h

set_option maxHeartbeats 16000000 in
set_option maxRecDepth 100000 in
theorem line_any (B R : Nat) (st : Px.St) (x : Lx.Ln) (wa : Option Addr) (wc : Nat) (w : World) (h : RdrAt w B R st) (hB : B ≤ R) (hb : st.blocks.length ≤ 41) (hl : Px.wt st + 3 * x.words.length ≤ 2199023255100)
    (hW : RdW w B (.slice wa x.words.length wc) x.words) :
    Calls Tryz.prog 67 #[.pointer (some ⟨R, 0, none⟩), .agg #[.int .i64 x.mark, .int .i64 x.indent, .slice wa x.words.length wc, .string (str x.text)]] w fun e w' => RdrR B R (Px.lineIn st x) e w' ∧ Keep rdT B w w' := by
  obtain ⟨xm, xi, xw, xt⟩ := x
  simp only at hW hl ⊢
  have hR := h.lt
  have hBw : B ≤ w.heap.size := by omega
  have HB := Lib.hid (bnew w (.cells #[.int .i64 xm, .int .i64 xi, .slice wa xw.length wc, .string (str xt)] 76))
  have HR := Lib.hid (h.call (bnew w (.cells #[.int .i64 xm, .int .i64 xi, .slice wa xw.length wc, .string (str xt)] 76)))
  have HW := Lib.hid (hW.below (Below.mono (bnew w (.cells #[.int .i64 xm, .int .i64 xi, .slice wa xw.length wc, .string (str xt)] 76)) hBw))
  have HX0 := Lib.hid (alloc_blk w (.cells #[.int .i64 xm, .int .i64 xi, .slice wa xw.length wc, .string (str xt)] 76))
  have HK0 := Lib.hid (keep_of (ts := rdT) (bnew w (.cells #[.int .i64 xm, .int .i64 xi, .slice wa xw.length wc, .string (str xt)] 76)) hBw)
  obtain ⟨⟨x0, x1, x2, x3⟩, _⟩ := four HX0.out
  have CE := Lib.hid (end_any' B R st _ HR.out hB (by omega) (by omega))
  have hew := Px.endDoc_wt st
  have hen := Px.endDoc_nil st
  unfold RdrR at CE
  simp only at CE
  clear h hW
  unfold Px.lineIn
  simp only
  by_cases h1 : xm = 1
  · rw [if_pos h1]
    subst h1
    have CBg := Lib.hid (fun w1 (h : RdrAt w1 B R (Px.endDoc st)) => begin_any B R (Px.endDoc st) w1 h hB (by rw [hen]; simp) (by unfold Px.wt at hew hl; omega))
    unfold RdrR at CBg
    simp only at CBg
    clear hew hen hl
    go_enter Tryz.func67, Tryz.ntmps67
    go_wp2_with (first
      | (go_at_call 68; go_fit CE.out; rintro e w1 ⟨⟨rfl, hr1⟩, hk1⟩; clear CE)
      | (go_at_call 113; go_fit (CBg.out _ hr1); rintro e w2 ⟨⟨rfl, hr2⟩, hk2⟩))
    first | go_end0 | refine bodyPost_ret (results_none rfl _ _ _) rfl ?_
    exact ⟨⟨rfl, hr2⟩, (HK0.out.trans hk1).trans hk2⟩
  · rw [if_neg h1]
    have q1 : ((xm : Int) == 1) = false := beq_eq_false_iff_ne.2 (by omega)
    by_cases h2 : xm = 2
    · rw [if_pos h2]
      subst h2
      clear hew hen hl q1 h1
      go_enter Tryz.func67, Tryz.ntmps67
      go_wp2_with (first
        | (go_at_call 68; go_fit CE.out; rintro e w1 ⟨⟨rfl, hr1⟩, hk1⟩; clear CE))
      first | go_end0 | refine bodyPost_ret (results_none rfl _ _ _) rfl ?_
      exact ⟨⟨rfl, hr1⟩, HK0.out.trans hk1⟩
    · rw [if_neg h2]
      have q2 : ((xm : Int) == 2) = false := beq_eq_false_iff_ne.2 (by omega)
      have ho : 0 < (Px.opened st).blocks.length ∧ (Px.opened st).blocks.length ≤ 41 ∧ Px.wt (Px.opened st) ≤ Px.wt st + 3 := by
        unfold Px.opened
        split
        · rename_i he
          have he' : st.blocks = [] := List.isEmpty_iff.1 he
          unfold Px.beginDoc Px.wt
          rw [he']
          simp
        · rename_i he
          refine ⟨?_, hb, by omega⟩
          cases hbl : st.blocks with
          | nil => rw [hbl] at he; exact absurd rfl he
          | cons b t => simp
      have CP := Lib.hid (fun w1 (h : RdrAt w1 B R (Px.opened st)) (hW : RdW w1 B (.slice wa xw.length wc) xw) => place_any B R (Px.opened st) ⟨xm, xi, xw, xt⟩ wa wc w1 h ho.1 hB (by omega) (by omega) hW)
      simp only at CP
      have CB0 := Lib.hid (fun (hl0 : st.blocks.length = 0) => begin_any B R st _ HR.out hB (by omega) (by unfold Px.wt at hl; omega))
      obtain ⟨ba, bc, oa, oc, hr⟩ := HR.out.two
      have c0 := cell_blk hr.cell 0 _ rfl
      clear hew hen CE h1 h2 hr
      cases hp : Px.place (Px.opened st) ⟨xm, xi, xw, xt⟩ with
      | error n =>
        rw [hp] at CP
        unfold RdrR fault at CP
        simp only at CP
        clear hp
        by_cases hl0 : st.blocks.length = 0
        · have hop : Px.opened st = Px.beginDoc st := by unfold Px.opened; rw [if_pos (by rw [List.length_eq_zero_iff.1 hl0]; rfl)]
          have CB1 := Lib.hid (CB0.out hl0)
          unfold RdrR at CB1
          simp only at CB1
          rw [hop] at CP
          go_enter Tryz.func67, Tryz.ntmps67
          go_wp2_with (first
            | (go_at_call 113; go_fit CB1.out; rintro e w1 ⟨⟨rfl, hr1⟩, hk1⟩; clear CB1; obtain ⟨⟨u0, u1, u2, u3⟩, _⟩ := four (hk1.blk HX0.out (by decide)))
            | (go_at_call 114; go_fit (CP.out _ hr1 (HW.out.below hk1.below)); rintro e w4 ⟨rfl, hk4⟩))
          exact ⟨rfl, rfl, (HK0.out.trans hk1).trans hk4⟩
        · have hop : Px.opened st = st := by unfold Px.opened; rw [if_neg (by intro he; exact hl0 (by rw [List.isEmpty_iff.1 he]; rfl))]
          rw [hop] at CP
          have hl1 : ¬ ((st.blocks.length : Nat) : Int) = 0 := by omega
          go_enter Tryz.func67, Tryz.ntmps67
          go_wp2_with (first
            | (go_at_call 114; go_fit (CP.out _ HR.out HW.out); rintro e w4 ⟨rfl, hk4⟩))
          exact ⟨rfl, rfl, HK0.out.trans hk4⟩
      | ok s1 =>
        have hpw := Px.place_wt _ _ _ hp
        have hpp := Px.place_pos _ _ _ hp
        rw [hp] at CP
        unfold RdrR at CP
        simp only at CP ⊢
        have CW := Lib.hid (fun w1 (h : RdrAt w1 B R s1) (hW : RdW w1 B (.slice wa xw.length wc) xw) => words_walk B R s1 ⟨xm, xi, xw, xt⟩ wa wc w1 h hpp hB (by omega) (by simp only; omega) hW)
        simp only at CW
        clear hp hpw hpp
        cases hwo : Px.wordsOf s1 ⟨xm, xi, xw, xt⟩ with
        | error n =>
          rw [hwo] at CW
          unfold RdrR fault at CW
          simp only at CW
          clear hwo
          by_cases hl0 : st.blocks.length = 0
          · have hop : Px.opened st = Px.beginDoc st := by unfold Px.opened; rw [if_pos (by rw [List.length_eq_zero_iff.1 hl0]; rfl)]
            have CB1 := Lib.hid (CB0.out hl0)
            unfold RdrR at CB1
            simp only at CB1
            rw [hop] at CP
            go_enter Tryz.func67, Tryz.ntmps67
            go_wp2_with (first
              | (go_at_call 113; go_fit CB1.out; rintro e w1 ⟨⟨rfl, hr1⟩, hk1⟩; clear CB1; have HX1 := Lib.hid (hk1.blk HX0.out (by decide)); obtain ⟨⟨u0, u1, u2, u3⟩, _⟩ := four HX1.out)
              | (go_at_call 114; go_fit (CP.out _ hr1 (HW.out.below hk1.below)); rintro e w4 ⟨⟨rfl, hr4⟩, hk4⟩; obtain ⟨⟨v0, v1, v2, v3⟩, _⟩ := four (hk4.blk HX1.out (by decide)))
              | (go_at_call 115; go_fit (CW.out _ hr4 ((HW.out.below hk1.below).below hk4.below)); rintro e w5 ⟨rfl, hk5⟩))
            exact ⟨rfl, rfl, ((HK0.out.trans hk1).trans hk4).trans hk5⟩
          · have hop : Px.opened st = st := by unfold Px.opened; rw [if_neg (by intro he; exact hl0 (by rw [List.isEmpty_iff.1 he]; rfl))]
            rw [hop] at CP
            have hl1 : ¬ ((st.blocks.length : Nat) : Int) = 0 := by omega
            go_enter Tryz.func67, Tryz.ntmps67
            go_wp2_with (first
              | (go_at_call 114; go_fit (CP.out _ HR.out HW.out); rintro e w4 ⟨⟨rfl, hr4⟩, hk4⟩; obtain ⟨⟨v0, v1, v2, v3⟩, _⟩ := four (hk4.blk HX0.out (by decide)))
              | (go_at_call 115; go_fit (CW.out _ hr4 (HW.out.below hk4.below)); rintro e w5 ⟨rfl, hk5⟩))
            exact ⟨rfl, rfl, (HK0.out.trans hk4).trans hk5⟩
        | ok s2 =>
          rw [hwo] at CW
          unfold RdrR at CW
          simp only at CW
          clear hwo
          by_cases hl0 : st.blocks.length = 0
          · have hop : Px.opened st = Px.beginDoc st := by unfold Px.opened; rw [if_pos (by rw [List.length_eq_zero_iff.1 hl0]; rfl)]
            have CB1 := Lib.hid (CB0.out hl0)
            unfold RdrR at CB1
            simp only at CB1
            rw [hop] at CP
            go_enter Tryz.func67, Tryz.ntmps67
            go_wp2_with (first
              | (go_at_call 113; go_fit CB1.out; rintro e w1 ⟨⟨rfl, hr1⟩, hk1⟩; clear CB1; have HX1 := Lib.hid (hk1.blk HX0.out (by decide)); obtain ⟨⟨u0, u1, u2, u3⟩, _⟩ := four HX1.out)
              | (go_at_call 114; go_fit (CP.out _ hr1 (HW.out.below hk1.below)); rintro e w4 ⟨⟨rfl, hr4⟩, hk4⟩; obtain ⟨⟨v0, v1, v2, v3⟩, _⟩ := four (hk4.blk HX1.out (by decide)))
              | (go_at_call 115; go_fit (CW.out _ hr4 ((HW.out.below hk1.below).below hk4.below)); rintro e w5 ⟨⟨rfl, hr5⟩, hk5⟩))
            go_end0
            exact ⟨⟨rfl, hr5⟩, ((HK0.out.trans hk1).trans hk4).trans hk5⟩
          · have hop : Px.opened st = st := by unfold Px.opened; rw [if_neg (by intro he; exact hl0 (by rw [List.isEmpty_iff.1 he]; rfl))]
            rw [hop] at CP
            have hl1 : ¬ ((st.blocks.length : Nat) : Int) = 0 := by omega
            go_enter Tryz.func67, Tryz.ntmps67
            go_wp2_with (first
              | (go_at_call 114; go_fit (CP.out _ HR.out HW.out); rintro e w4 ⟨⟨rfl, hr4⟩, hk4⟩; obtain ⟨⟨v0, v1, v2, v3⟩, _⟩ := four (hk4.blk HX0.out (by decide)))
              | (go_at_call 115; go_fit (CW.out _ hr4 (HW.out.below hk4.below)); rintro e w5 ⟨⟨rfl, hr5⟩, hk5⟩))
            go_end0
            exact ⟨⟨rfl, hr5⟩, (HK0.out.trans hk4).trans hk5⟩
end Go.Proofs.YtjcfmghijfnehaaGreatDoor
