/-
  Walk of the document's End.
-/
import Derived.Test.YtlfmaeodkghbbaaDoorRh
import Derived.Test.YtlfmaeodkghbbaaDoorWh
namespace Go.Proofs.YtlfmaeodkghbbaaDoor
open Go.RowKit

set_option maxHeartbeats 1000000 in
theorem endDR_any (s : ByteArray) (w : World) (hs : s.size ≤ 1000000) (h0 : 0 < s.size) (hq : (s[0].toNat : Int) = 34) :
    Calls Tryd.prog 22 #[.string s] w fun e w' => e = endR (Sc.endD (s.data.toList.drop 1) 1) ∧ Below w.heap.size w w' := by
  have hemp := ba_isEmpty s h0
  have hnil := ba_notnil s h0
  obtain ⟨ANS, hANS⟩ : ∃ ANS, Sc.endD (s.data.toList.drop 1) 1 = ANS := ⟨_, rfl⟩
  rw [hANS]
  have HA : Hid (Sc.endD (s.data.toList.drop 1) 1 = ANS) := hANS
  clear hANS
  go_enter Tryd.func22, Tryd.ntmps22
  go_wp2
  go_loopw [4] (fun i wr => ∃ k : Nat, k ≤ s.size + 1 ∧ i = .int .i64 k ∧ Hid (Sc.endD (s.data.toList.drop k) k = ANS) ∧ Below w.heap.size w wr) (fun i _ => s.size + 1 - (intOf i).toNat)
  case atStart => exact ⟨1, by omega, rfl, HA, Below.refl _ _⟩
  case round =>
    obtain ⟨k, hk, rfl, HK, hbw⟩ := hrel
    clear HA
    by_cases hlt : k < s.size
    · have HS : Hid (_ = _) := Sc.endD_at s k hlt
      by_cases c1 : (s[k].toNat : Int) = 92
      · have HN : Hid (Sc.endD (s.data.toList.drop (k + 2)) (k + 2) = ANS) := by
          have := HS.out; rw [if_pos c1] at this; exact this.symm.trans HK.out
        have b1 : ((s[k].toNat : Int) == 92) = true := beq_iff_eq.2 c1
        clear HS HK c1
        go_wp2
        go_roundw
        case rel => exact ⟨k + 2, by omega, by go_num, HN, hbw⟩
        case measure => simp [intOf]; omega
      · have b1 : ((s[k].toNat : Int) == 92) = false := beq_eq_false_iff_ne.2 c1
        by_cases c2 : (s[k].toNat : Int) = 34
        · have HN : Hid (some (k + 1) = ANS) := by
            have := HS.out; rw [if_neg c1, if_pos c2] at this; exact this.symm.trans HK.out
          have b2 : ((s[k].toNat : Int) == 34) = true := beq_iff_eq.2 c2
          clear HS HK c1 c2
          go_wp2
          go_quiet (fail)
          go_wp2
          go_ret2
          exact ⟨by rw [← HN.out]; rfl, below_drewN hbw _⟩
        · have HN : Hid (Sc.endD (s.data.toList.drop (k + 1)) (k + 1) = ANS) := by
            have := HS.out; rw [if_neg c1, if_neg c2] at this; exact this.symm.trans HK.out
          have b2 : ((s[k].toNat : Int) == 34) = false := beq_eq_false_iff_ne.2 c2
          clear HS HK c1 c2
          go_wp2
          go_quiet (fail)
          go_wp2
          go_roundw
          case rel => exact ⟨k + 1, by omega, by go_num, HN, below_drewN hbw _⟩
          case measure => simp [intOf]; omega
    · have HN : Hid (none = ANS) := by
        have := HK.out; rw [Sc.drop_nil s k (by omega)] at this; exact this
      clear HK
      go_wp2
      go_ret2
      exact ⟨by rw [← HN.out]; rfl, hbw⟩

set_option maxHeartbeats 1000000 in
theorem endSR_any (s : ByteArray) (w : World) (hs : s.size ≤ 1000000) (h0 : 0 < s.size) (hq : (s[0].toNat : Int) = 39) :
    Calls Tryd.prog 22 #[.string s] w fun e w' => e = endR (Sc.endS (s.data.toList.drop 1) 1) ∧ Below w.heap.size w w' := by
  have hemp := ba_isEmpty s h0
  have hnil := ba_notnil s h0
  obtain ⟨ANS, hANS⟩ : ∃ ANS, Sc.endS (s.data.toList.drop 1) 1 = ANS := ⟨_, rfl⟩
  rw [hANS]
  have HA : Hid (Sc.endS (s.data.toList.drop 1) 1 = ANS) := hANS
  clear hANS
  go_enter Tryd.func22, Tryd.ntmps22
  go_wp2
  go_loopw [4] (fun i wr => ∃ k : Nat, k ≤ s.size + 1 ∧ i = .int .i64 k ∧ Hid (Sc.endS (s.data.toList.drop k) k = ANS) ∧ Below w.heap.size w wr) (fun i _ => s.size + 1 - (intOf i).toNat)
  case atStart => exact ⟨1, by omega, rfl, HA, Below.refl _ _⟩
  case round =>
    obtain ⟨k, hk, rfl, HK, hbw⟩ := hrel
    clear HA
    by_cases hlt : k < s.size
    · by_cases c1 : (s[k].toNat : Int) = 39
      · have e : s[k] = 39 := Sc.u8_eq 39 (by omega)
        have b1 : ((s[k].toNat : Int) == 39) = true := beq_iff_eq.2 c1
        by_cases hl2 : k + 1 < s.size
        · have d1 : s.data.toList.drop k = 39 :: s[k + 1] :: s.data.toList.drop (k + 2) := by
            rw [Sc.drop_cons s k hlt, Sc.drop_cons s (k + 1) hl2, e]
          have bl : decide (((k : Int) + 1) < (s.size : Int)) = true := decide_eq_true (by omega)
          by_cases c2 : (s[k + 1].toNat : Int) = 39
          · have e2 : s[k + 1] = 39 := Sc.u8_eq 39 (by omega)
            have HN : Hid (Sc.endS (s.data.toList.drop (k + 2)) (k + 2) = ANS) := by
              have := HK.out; rw [d1, e2, Sc.endS_qq] at this; exact this
            have b2 : ((s[k + 1].toNat : Int) == 39) = true := beq_iff_eq.2 c2
            clear HK c1 c2 d1 e e2
            go_wp2
            go_roundw
            case rel => exact ⟨k + 2, by omega, by go_num, HN, hbw⟩
            case measure => simp [intOf]; omega
          · have e2 : s[k + 1] ≠ 39 := fun x => c2 (by rw [x]; rfl)
            have HN : Hid (some (k + 1) = ANS) := by
              have := HK.out; rw [d1, Sc.endS_q _ _ (by simpa using e2)] at this; exact this
            have b2 : ((s[k + 1].toNat : Int) == 39) = false := beq_eq_false_iff_ne.2 c2
            clear HK c1 c2 d1 e e2
            go_wp2
            go_quiet (fail)
            go_wp2
            go_ret2
            exact ⟨by rw [← HN.out]; rfl, below_drewN hbw _⟩
        · have d1 : s.data.toList.drop k = [39] := by
            rw [Sc.drop_cons s k hlt, Sc.drop_nil s (k + 1) (by omega), e]
          have bl : decide (((k : Int) + 1) < (s.size : Int)) = false := decide_eq_false (by omega)
          have HN : Hid (some (k + 1) = ANS) := by
            have := HK.out; rw [d1, Sc.endS_q _ _ (by simp)] at this; exact this
          clear HK c1 d1 e
          go_wp2
          go_quiet (fail)
          go_wp2
          go_ret2
          exact ⟨by rw [← HN.out]; rfl, below_drewN hbw _⟩
      · have e : s[k] ≠ 39 := fun x => c1 (by rw [x]; rfl)
        have b1 : ((s[k].toNat : Int) == 39) = false := beq_eq_false_iff_ne.2 c1
        have HN : Hid (Sc.endS (s.data.toList.drop (k + 1)) (k + 1) = ANS) := by
          have := HK.out; rw [Sc.drop_cons s k hlt, Sc.endS_other _ _ _ e] at this; exact this
        clear HK c1 e
        go_wp2
        go_quiet (fail)
        go_wp2
        go_roundw
        case rel => exact ⟨k + 1, by omega, by go_num, HN, below_drewN hbw _⟩
        case measure => simp [intOf]; omega
    · have HN : Hid (none = ANS) := by
        have := HK.out; rw [Sc.drop_nil s k (by omega)] at this; exact this
      clear HK
      go_wp2
      go_ret2
      exact ⟨by rw [← HN.out]; rfl, hbw⟩

set_option maxHeartbeats 400000 in
theorem endR_any (s : ByteArray) (w : World) (hs : s.size ≤ 1000000) :
    Calls Tryd.prog 22 #[.string s] w fun e w' => e = endR (Sc.endOf s.data.toList) ∧ Below w.heap.size w w' := by
  by_cases h0 : 0 < s.size
  · have hl := ba_list s h0
    by_cases h1 : (s[0].toNat : Int) = 34
    · have e1 : s[0] = 34 := Sc.u8_eq 34 (by omega)
      have : Sc.endOf s.data.toList = Sc.endD (s.data.toList.drop 1) 1 := by rw [hl, e1]; rfl
      rw [this]
      exact endDR_any s w hs h0 h1
    · have n1 : s[0] ≠ 34 := fun e => h1 (by rw [e]; rfl)
      by_cases h2 : (s[0].toNat : Int) = 39
      · have e1 : s[0] = 39 := Sc.u8_eq 39 (by omega)
        have : Sc.endOf s.data.toList = Sc.endS (s.data.toList.drop 1) 1 := by rw [hl, e1]; rfl
        rw [this]
        exact endSR_any s w hs h0 h2
      · have n2 : s[0] ≠ 39 := fun e => h2 (by rw [e]; rfl)
        have : Sc.endOf s.data.toList = none := by
          rw [hl]
          show (if s[0] = 34 then _ else if s[0] = 39 then _ else none) = _
          rw [if_neg n1, if_neg n2]
        rw [this]
        have hemp := ba_isEmpty s h0
        have hnil := ba_notnil s h0
        have b1 : ((s[0].toNat : Int) != 34) = true := bne_iff_ne.2 h1
        have b2 : ((s[0].toNat : Int) != 39) = true := bne_iff_ne.2 h2
        clear this hl
        go_enter Tryd.func22, Tryd.ntmps22
        go_wp2
        go_ret2
        exact ⟨rfl, Below.refl _ _⟩
  · have hz := ba_zero s (by omega)
    subst hz
    go_enter Tryd.func22, Tryd.ntmps22
    go_wp2
    go_ret2
    exact ⟨rfl, Below.refl _ _⟩
end Go.Proofs.YtlfmaeodkghbbaaDoor
