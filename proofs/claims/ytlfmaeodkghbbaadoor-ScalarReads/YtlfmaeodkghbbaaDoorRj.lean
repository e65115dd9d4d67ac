/-
  Walk of the document's Plain.
-/
import Derived.Test.YtlfmaeodkghbbaaDoorRi
namespace Go.Proofs.YtlfmaeodkghbbaaDoor
open Go.RowKit

def firstS : ByteArray := ⟨#[45, 63, 58, 44, 91, 93, 123, 125, 35, 38, 42, 33, 124, 62, 39, 34, 37, 64, 96]⟩
def nowD : ByteArray := ⟨#[9, 10, 13, 44, 91, 93, 123, 125]⟩
/-- the document's way along a text without quotes; ahead of it stands p -/
def goN (p : Nat) : List Nat → Bool
  | [] => true
  | x :: t => Sc.mayB (x : Int) && (!inB x nowD.data.toList && (!(x == 58 && (t.length == 0 || t.head? == some 32)) && (!(x == 35 && p == 32) && goN x t)))
def prevN (l : List Nat) (k : Nat) : Nat := if k = 0 then 0 else l.getD (k - 1) 0
def plainRef (s : List UInt8) (l : List Nat) : Bool :=
  match l with
  | [] => false
  | x :: _ => !(x == 32) && (!(l.getLast? == some 32) && (!inB x firstS.data.toList && (!(s == [45, 45, 45]) && (!(s == [46, 46, 46]) && goN 0 l))))

theorem prev_step (l : List Nat) (k : Nat) (h : k < l.length) : prevN l (k + 1) = l[k] := by
  unfold prevN; rw [if_neg (by omega)]; simp [List.getD, h]
theorem prev_pos (l : List Nat) (k : Nat) (h : k - 1 < l.length) (hk : 0 < k) : prevN l k = l[k - 1] := by
  unfold prevN; rw [if_neg (by omega)]; simp [List.getD, h]

set_option maxHeartbeats 2000000 in
set_option maxRecDepth 100000 in
theorem plainD_any (s : ByteArray) (w : World) (hs : s.size ≤ 10000) :
    Calls Tryd.prog 16 #[.string s] w fun e w' => e = .returned (.bool (Lib.validD s.data.toList && plainRef s.data.toList (Sc.rns s.data.toList))) ∧ Below w.heap.size w w' := by
  have CC := Lib.hid (fun w1 => chars_any s w1 (by omega))
  by_cases hv : Lib.validD s.data.toList = true
  · rw [hv, Bool.true_and]
    have hco : Sc.charsOf s.data.toList = some (Sc.rns s.data.toList) := by unfold Sc.charsOf; rw [if_pos hv]
    rw [hco] at CC
    have hrl := rns_len s.data.toList.length s.data.toList (Nat.le_refl _)
    rw [← Lib.size_eq] at hrl
    clear hv hco
    generalize Sc.rns s.data.toList = l at *
    by_cases h0 : l.length = 0
    · have hl : l = [] := List.eq_nil_of_length_eq_zero h0
      subst hl
      go_enter Tryd.func16, Tryd.ntmps16
      go_wp2_with fail
      refine (CC.out _).mono ?_
      rintro e w1 ⟨v, rfl, ho, hb⟩
      clear CC
      obtain ⟨a, cap, hv, hc1, hc2, hrd⟩ := ho.form
      simp only [Option.getD_some, List.length_nil] at hv
      subst hv
      clear ho hrd
      go_wp2
      go_ret
      exact ⟨rfl, hb⟩
    · have hp : 0 < l.length := by omega
      have hpl : l.length - 1 < l.length := by omega
      have hR : plainRef s.data.toList l = (!(l[0] == 32) && (!(l[l.length - 1] == 32) && (!inB l[0] firstS.data.toList && (!(s.toList == [45, 45, 45]) && (!(s.toList == [46, 46, 46]) && goN 0 l))))) := by
        have hgl : (l.getLast? == some 32) = (l[l.length - 1] == 32) := by
          rw [List.getLast?_eq_getElem?, List.getElem?_eq_getElem hpl]
          rw [Bool.eq_iff_iff]; simp
        rw [← hgl, Lib.toList_data]
        match l, hp with
        | x :: t, _ => rfl
      rw [hR]
      have HX := Lib.hid (fun w1 => in_any l[0] firstS w1 (by decide))
      have h35 : inB l[0] firstS.data.toList = false → l[0] ≠ 35 := by
        intro h e; rw [e] at h; revert h; decide
      obtain ⟨x0, hx0⟩ : ∃ x, l[0] = x := ⟨_, rfl⟩
      obtain ⟨xn, hxn⟩ : ∃ x, l[l.length - 1] = x := ⟨_, rfl⟩
      obtain ⟨bF, hbF⟩ : ∃ b, inB l[0] firstS.data.toList = b := ⟨_, rfl⟩
      obtain ⟨ANS, hANS⟩ : ∃ b, goN 0 l = b := ⟨_, rfl⟩
      rw [hbF] at h35 HX
      rw [hbF, hANS]
      have HA : Hid (goN (prevN l 0) (l.drop 0) = ANS) := hANS
      have H35 : Hid (bF = false → l[0] ≠ 35) := h35
      rw [hx0] at HX
      rw [hx0, hxn]
      obtain ⟨RES, hRES⟩ : ∃ RES, (!(x0 == 32) && (!(xn == 32) && (!bF && (!(s.toList == [45, 45, 45]) && (!(s.toList == [46, 46, 46]) && ANS))))) = RES := ⟨_, rfl⟩
      rw [hRES]
      have HQ := Lib.hid hRES
      clear hR h35 hbF hANS hRES
      go_enter Tryd.func16, Tryd.ntmps16
      go_wp2_with fail
      refine (CC.out _).mono ?_
      rintro e w1 ⟨v, rfl, ho, hb⟩
      clear CC
      obtain ⟨a, cap, hv, hc1, hc2, hrd⟩ := ho.form
      simp only [Option.getD_some] at hv hc1 hrd
      subst hv
      have HR := Lib.hid hrd
      clear ho hrd
      obtain ⟨g, off, rfl, hg, hcb⟩ := HR.out hp
      have c0 := hcb 0 hp
      have cn := hcb (l.length - 1) hpl
      rw [hx0, Nat.add_zero] at c0
      rw [hxn] at cn
      clear hcb
      have hb0 : ((l.length : Int) == 0) = false := beq_eq_false_iff_ne.2 (by omega)
      by_cases e1 : x0 = 32
      · subst e1
        have hRf : RES = false := HQ.out.symm
        subst hRf
        clear HA HX H35 HQ
        go_wp2
        go_ret
        exact ⟨rfl, hb⟩
      by_cases e2 : xn = 32
      · subst e2
        have b1 : ((x0 : Int) == 32) = false := beq_eq_false_iff_ne.2 (by omega)
        have hRf : RES = false := by have := HQ.out; rw [beq_eq_false_iff_ne.2 e1] at this; exact this.symm
        subst hRf
        clear HA HX H35 HQ
        go_wp2
        go_ret
        exact ⟨rfl, hb⟩
      have b1 : ((x0 : Int) == 32) = false := beq_eq_false_iff_ne.2 (by omega)
      have b2 : ((xn : Int) == 32) = false := beq_eq_false_iff_ne.2 (by omega)
      have HF : Hid ((!bF && (!(s.toList == [45, 45, 45]) && (!(s.toList == [46, 46, 46]) && ANS))) = RES) := by
        have := HQ.out
        rw [beq_eq_false_iff_ne.2 e1, beq_eq_false_iff_ne.2 e2] at this
        exact this
      clear HQ e1 e2
      cases bF
      case true =>
        have hRf : RES = false := by have := HF.out; simpa [*] using this.symm
        subst hRf
        clear HA H35 HF
        go_wp2_with (go_at_call 37; refine (HX.out _).mono ?_; rintro e w' ⟨rfl, rfl⟩)
        go_ret
        exact ⟨rfl, hb⟩
      cases hd1 : (s.toList == [45, 45, 45])
      case true =>
        have hRf : RES = false := by have := HF.out; simpa [*] using this.symm
        subst hRf
        clear HA H35 HF
        go_wp2_with (go_at_call 37; refine (HX.out _).mono ?_; rintro e w' ⟨rfl, rfl⟩)
        go_ret
        exact ⟨rfl, hb⟩
      cases hd2 : (s.toList == [46, 46, 46])
      case true =>
        have hRf : RES = false := by have := HF.out; simpa [*] using this.symm
        subst hRf
        clear HA H35 HF
        go_wp2_with (go_at_call 37; refine (HX.out _).mono ?_; rintro e w' ⟨rfl, rfl⟩)
        go_ret
        exact ⟨rfl, hb⟩
      have hRA : ANS = RES := by have := HF.out; rw [hd1, hd2] at this; exact this
      subst hRA
      clear HF
      replace H35 := Lib.hid (H35.out rfl)
      go_wp2_with (go_at_call 37; refine (HX.out _).mono ?_; rintro e w' ⟨rfl, rfl⟩)
      clear HX c0 cn hx0 hxn b1 b2 hd1 hd2
      go_loop [6] (fun i => ∃ k : Nat, k ≤ l.length ∧ i = .int .i64 k ∧ Hid (goN (prevN l k) (l.drop k) = ANS)) (fun i => l.length - (intOf i).toNat)
      case atStart => exact ⟨0, by omega, rfl, HA⟩
      case round =>
        obtain ⟨k, hk, rfl, HK⟩ := hrel
        clear HA
        by_cases hlt : k < l.length
        · obtain ⟨g', off', he, _, hcb⟩ := HR.out hp
          cases he
          have ck := hcb k hlt
          have HCB := Lib.hid hcb
          clear hcb
          have HS : Hid ((Sc.mayB (l[k] : Int) && (!inB l[k] nowD.data.toList && (!(l[k] == 58 && ((l.drop (k + 1)).length == 0 || (l.drop (k + 1)).head? == some 32)) && (!(l[k] == 35 && prevN l k == 32) && goN (prevN l (k + 1)) (l.drop (k + 1)))))) = ANS) := by
            have := HK.out
            rw [List.drop_eq_getElem_cons hlt] at this
            rw [prev_step l k hlt]
            exact this
          have h350 : k = 0 → l[k] ≠ 35 := by rintro rfl; exact H35.out
          clear HK
          have cM := Lib.hid (fun w1 => mayR_any (l[k] : Int) w1)
          have cI := Lib.hid (fun w1 => in_any l[k] nowD w1 (by decide))
          obtain ⟨x, hx⟩ : ∃ x, l[k] = x := ⟨_, rfl⟩
          rw [hx] at ck HS h350 cM cI
          clear hx
          have H350 := Lib.hid h350
          clear h350
          generalize Sc.mayB (x : Int) = bm at *
          generalize inB x nowD.data.toList = bi at *
          cases bm
          case false =>
            have hA : ANS = false := HS.out.symm
            subst hA
            clear HS cI
            go_wp2_with (go_at_call 30; refine (cM.out _).mono ?_; rintro e w' ⟨rfl, rfl⟩)
            go_ret
            exact ⟨rfl, hb⟩
          cases bi
          case true =>
            have hA : ANS = false := HS.out.symm
            subst hA
            clear HS
            go_wp2_with (first | (go_at_call 30; refine (cM.out _).mono ?_; rintro e w' ⟨rfl, rfl⟩) | (go_at_call 37; refine (cI.out _).mono ?_; rintro e w' ⟨rfl, rfl⟩))
            go_ret
            exact ⟨rfl, hb⟩
          by_cases h58 : x = 58
          · subst h58
            by_cases hend : k + 1 = l.length
            · have hA : ANS = false := by
                have := HS.out
                rw [List.drop_eq_nil_of_le (by omega)] at this
                exact this.symm
              subst hA
              have bE : (((k : Int) + 1) == (l.length : Int)) = true := beq_iff_eq.2 (by omega)
              clear HS
              go_wp2_with (first | (go_at_call 30; refine (cM.out _).mono ?_; rintro e w' ⟨rfl, rfl⟩) | (go_at_call 37; refine (cI.out _).mono ?_; rintro e w' ⟨rfl, rfl⟩))
              go_ret
              exact ⟨rfl, hb⟩
            · have hk1 : k + 1 < l.length := by omega
              have bE : (((k : Int) + 1) == (l.length : Int)) = false := beq_eq_false_iff_ne.2 (by omega)
              have ck1 := HCB.out (k + 1) hk1
              have HS2 : Hid ((!(l[k + 1] == 32) && goN (prevN l (k + 1)) (l.drop (k + 1))) = ANS) := by
                have := HS.out
                have e1 : ((l.drop (k + 1)).length == 0) = false := beq_eq_false_iff_ne.2 (by rw [List.length_drop]; omega)
                have e2 : ((l.drop (k + 1)).head? == some 32) = (l[k + 1] == 32) := by
                  rw [List.drop_eq_getElem_cons hk1, List.head?_cons, Bool.eq_iff_iff]; simp
                rw [e1, e2] at this
                show _ = _
                simpa using this
              clear HS
              generalize l[k + 1] = y at *
              by_cases h32 : y = 32
              · subst h32
                have hA : ANS = false := HS2.out.symm
                subst hA
                clear HS2
                go_wp2_with (first | (go_at_call 30; refine (cM.out _).mono ?_; rintro e w' ⟨rfl, rfl⟩) | (go_at_call 37; refine (cI.out _).mono ?_; rintro e w' ⟨rfl, rfl⟩))
                go_ret
                exact ⟨rfl, hb⟩
              · have HN : Hid (goN (prevN l (k + 1)) (l.drop (k + 1)) = ANS) := by
                  have := HS2.out; rw [beq_eq_false_iff_ne.2 h32] at this; exact this
                have b32 : ((y : Int) == 32) = false := beq_eq_false_iff_ne.2 (by omega)
                clear HS2 h32
                go_wp2_with (first | (go_at_call 30; refine (cM.out _).mono ?_; rintro e w' ⟨rfl, rfl⟩) | (go_at_call 37; refine (cI.out _).mono ?_; rintro e w' ⟨rfl, rfl⟩))
                go_round
                case rel => exact ⟨k + 1, by omega, by go_num, HN⟩
                case measure => simp [intOf]; omega
          · have b58 : ((x : Int) == 58) = false := beq_eq_false_iff_ne.2 (by omega)
            have HS2 : Hid ((!(x == 35 && prevN l k == 32) && goN (prevN l (k + 1)) (l.drop (k + 1))) = ANS) := by
              have := HS.out
              rw [beq_eq_false_iff_ne.2 h58] at this
              show _ = _
              simpa using this
            clear HS h58
            by_cases h35 : x = 35
            · have hk0 : 0 < k := by
                rcases Nat.eq_zero_or_pos k with h | h
                · exact absurd h35 (H350.out h)
                · exact h
              have ckp := HCB.out (k - 1) (by omega)
              have HS3 : Hid ((!(l[k - 1] == 32) && goN (prevN l (k + 1)) (l.drop (k + 1))) = ANS) := by
                have := HS2.out
                rw [prev_pos l k (by omega) hk0, beq_iff_eq.2 h35] at this
                exact this
              clear HS2 H350 HCB
              subst h35
              generalize l[k - 1] = y at *
              by_cases h32 : y = 32
              · subst h32
                have hA : ANS = false := HS3.out.symm
                subst hA
                clear HS3
                go_wp2_with (first | (go_at_call 30; refine (cM.out _).mono ?_; rintro e w' ⟨rfl, rfl⟩) | (go_at_call 37; refine (cI.out _).mono ?_; rintro e w' ⟨rfl, rfl⟩))
                go_ret
                exact ⟨rfl, hb⟩
              · have HN : Hid (goN (prevN l (k + 1)) (l.drop (k + 1)) = ANS) := by
                  have := HS3.out; rw [beq_eq_false_iff_ne.2 h32] at this; exact this
                have b32 : ((y : Int) == 32) = false := beq_eq_false_iff_ne.2 (by omega)
                clear HS3 h32
                go_wp2_with (first | (go_at_call 30; refine (cM.out _).mono ?_; rintro e w' ⟨rfl, rfl⟩) | (go_at_call 37; refine (cI.out _).mono ?_; rintro e w' ⟨rfl, rfl⟩))
                go_round
                case rel => exact ⟨k + 1, by omega, by go_num, HN⟩
                case measure => simp [intOf]; omega
            · have b35 : ((x : Int) == 35) = false := beq_eq_false_iff_ne.2 (by omega)
              have HN : Hid (goN (prevN l (k + 1)) (l.drop (k + 1)) = ANS) := by
                have := HS2.out; rw [beq_eq_false_iff_ne.2 h35] at this; exact this
              clear HS2 h35 H350 HCB
              go_wp2_with (first | (go_at_call 30; refine (cM.out _).mono ?_; rintro e w' ⟨rfl, rfl⟩) | (go_at_call 37; refine (cI.out _).mono ?_; rintro e w' ⟨rfl, rfl⟩))
              go_round
              case rel => exact ⟨k + 1, by omega, by go_num, HN⟩
              case measure => simp [intOf]; omega
        · have hA : ANS = true := by
            have := HK.out; rw [List.drop_eq_nil_of_le (by omega)] at this; exact this.symm
          subst hA
          clear HK
          go_wp2
          go_ret
          exact ⟨rfl, hb⟩
  · have hvf : Lib.validD s.data.toList = false := Bool.eq_false_iff.2 hv
    rw [hvf, Bool.false_and]
    have hco : Sc.charsOf s.data.toList = none := by unfold Sc.charsOf; rw [if_neg hv]
    rw [hco] at CC
    clear hv hvf hco
    go_enter Tryd.func16, Tryd.ntmps16
    go_wp2_with fail
    refine (CC.out _).mono ?_
    rintro e w1 ⟨v, rfl, ho, hb⟩
    clear CC
    obtain ⟨a, cap, hv, hc1, hc2, hrd⟩ := ho.form
    simp only [Option.getD_none, List.length_nil] at hv
    subst hv
    clear ho hrd
    go_wp2
    go_ret
    exact ⟨rfl, hb⟩
end Go.Proofs.YtlfmaeodkghbbaaDoor
