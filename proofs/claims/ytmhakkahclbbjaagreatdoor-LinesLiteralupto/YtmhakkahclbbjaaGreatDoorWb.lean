/-
  Walks of scalar.End: where a quoted text ends.
-/
import Derived.Test.YtmhakkahclbbjaaGreatDoorWa
import Derived.Test.YtmhakkahclbbjaaGreatDoorMb
import Derived.Test.YtmhakkahclbbjaaGreatDoorSa
import Derived.Lib.Strings
namespace Go.Proofs.YtmhakkahclbbjaaGreatDoor
open Go.RowKit

theorem ba_isEmpty (s : ByteArray) (h : 0 < s.size) : s.toList.isEmpty = false := by
  rw [Lib.toList_data]
  cases hl : s.data.toList with
  | nil => have := Lib.size_eq s; rw [hl] at this; rw [List.length_nil] at this; omega
  | cons _ _ => rfl
theorem ba_notnil (s : ByteArray) (h : 0 < s.size) : ¬ s.toList = [] := by
  intro e; have := ba_isEmpty s h; rw [e] at this; simp at this
theorem ba_list (s : ByteArray) (h : 0 < s.size) : s.data.toList = s[0] :: s.data.toList.drop 1 := Sc.drop_cons s 0 h

/-- End's answer as Go gives it -/
def endR (o : Option Nat) : Ending := .returned (.tuple #[.int .i64 (o.getD 0 : Nat), .int .i64 (if o.isSome then 0 else 10)])

set_option maxHeartbeats 400000 in
theorem endD_any (s : ByteArray) (w : World) (hs : s.size ≤ 1000000) (h0 : 0 < s.size) (hq : (s[0].toNat : Int) = 34) :
    Calls Tryz.prog 106 #[.string s] w fun e w' => e = endR (Sc.endD (s.data.toList.drop 1) 1) ∧ w = w' := by
  have hemp := ba_isEmpty s h0
  have hnil := ba_notnil s h0
  obtain ⟨ANS, hANS⟩ : ∃ ANS, Sc.endD (s.data.toList.drop 1) 1 = ANS := ⟨_, rfl⟩
  rw [hANS]
  have HA : Hid (Sc.endD (s.data.toList.drop 1) 1 = ANS) := hANS
  clear hANS
  go_enter Tryz.func106, Tryz.ntmps106
  go_wp2
  go_loop [5] (fun i => ∃ k : Nat, k ≤ s.size + 1 ∧ i = .int .i64 k ∧ Hid (Sc.endD (s.data.toList.drop k) k = ANS)) (fun i => s.size + 1 - (intOf i).toNat)
  case atStart => exact ⟨1, by omega, rfl, HA⟩
  case round =>
    obtain ⟨k, hk, rfl, HK⟩ := hrel
    clear HA
    by_cases hlt : k < s.size
    · have HS : Hid (_ = _) := Sc.endD_at s k hlt
      by_cases c1 : (s[k].toNat : Int) = 92
      · have HN : Hid (Sc.endD (s.data.toList.drop (k + 2)) (k + 2) = ANS) := by
          have := HS.out; rw [if_pos c1] at this; exact this.symm.trans HK.out
        have b1 : ((s[k].toNat : Int) == 92) = true := beq_iff_eq.2 c1
        clear HS HK c1
        go_wp2
        go_round
        case rel => exact ⟨k + 2, by omega, by go_num, HN⟩
        case measure => simp [intOf]; omega
      · have b1 : ((s[k].toNat : Int) == 92) = false := beq_eq_false_iff_ne.2 c1
        by_cases c2 : (s[k].toNat : Int) = 34
        · have HN : Hid (some (k + 1) = ANS) := by
            have := HS.out; rw [if_neg c1, if_pos c2] at this; exact this.symm.trans HK.out
          have b2 : ((s[k].toNat : Int) == 34) = true := beq_iff_eq.2 c2
          clear HS HK c1 c2
          go_wp2
          go_ret2
          exact ⟨by rw [← HN.out]; rfl, rfl⟩
        · have HN : Hid (Sc.endD (s.data.toList.drop (k + 1)) (k + 1) = ANS) := by
            have := HS.out; rw [if_neg c1, if_neg c2] at this; exact this.symm.trans HK.out
          have b2 : ((s[k].toNat : Int) == 34) = false := beq_eq_false_iff_ne.2 c2
          clear HS HK c1 c2
          go_wp2
          go_round
          case rel => exact ⟨k + 1, by omega, by go_num, HN⟩
          case measure => simp [intOf]; omega
    · have HN : Hid (none = ANS) := by
        have := HK.out; rw [Sc.drop_nil s k (by omega)] at this; exact this
      clear HK
      go_wp2
      go_ret2
      exact ⟨by rw [← HN.out]; rfl, rfl⟩

/-- behind a single quote, at a place: as HasPrefix tells it -/
theorem endS_at (s : ByteArray) (k : Nat) (h : k < s.size) :
    Sc.endS (s.data.toList.drop k) k = if Lib.hasPrefix (s.data.toList.drop k) [39, 39] = true then Sc.endS (s.data.toList.drop (k + 2)) (k + 2) else if (s[k].toNat : Int) = 39 then some (k + 1) else Sc.endS (s.data.toList.drop (k + 1)) (k + 1) := by
  have e2 : s.data.toList.drop (k + 2) = (s.data.toList.drop (k + 1)).drop 1 := by rw [List.drop_drop]
  rw [e2, Sc.drop_cons s k h]
  generalize s.data.toList.drop (k + 1) = t
  by_cases h2 : (s[k].toNat : Int) = 39
  · have e : s[k] = 39 := Sc.u8_eq 39 (by omega)
    rw [if_pos h2, e]
    cases t with
    | nil => simp [Lib.hasPrefix, Sc.endS]
    | cons c t =>
      by_cases hc : c = 39
      · subst hc; simp [Lib.hasPrefix, Sc.endS]
      · have hc' : ¬ (39 : UInt8) = c := fun e => hc e.symm
        simp [Lib.hasPrefix, Sc.endS, hc, hc']
  · have e : s[k] ≠ 39 := fun e => h2 (by rw [e]; rfl)
    have e' : ¬ (39 : UInt8) = s[k] := fun x => e x.symm
    rw [if_neg h2, Sc.endS_other _ _ _ e]
    simp [Lib.hasPrefix, e']

theorem pre_at (s : ByteArray) (p : ByteArray) (k : Nat) (w : World) (b : Bool) (h : Hid (Lib.hasPrefix (s.data.toList.drop k) p.data.toList = b)) :
    Calls Tryz.prog 33 #[.string (s.extract k s.size), .string p] w fun e w' => e = .returned (.bool b) ∧ w = w' := by
  refine (Tryz.strings_HasPrefix (s.extract k s.size) p w).mono ?_
  rintro e w' ⟨rfl, rfl⟩
  refine ⟨ret_bool ?_, rfl⟩
  rw [← h.out, Lib.extract_data]
  congr 1
  rw [List.take_of_length_le (by rw [List.length_drop, ← Lib.size_eq]; exact Nat.le_refl _)]

set_option maxHeartbeats 400000 in
theorem endS_any (s : ByteArray) (w : World) (hs : s.size ≤ 1000000) (h0 : 0 < s.size) (hq : (s[0].toNat : Int) = 39) :
    Calls Tryz.prog 106 #[.string s] w fun e w' => e = endR (Sc.endS (s.data.toList.drop 1) 1) ∧ w = w' := by
  have hemp := ba_isEmpty s h0
  have hnil := ba_notnil s h0
  obtain ⟨ANS, hANS⟩ : ∃ ANS, Sc.endS (s.data.toList.drop 1) 1 = ANS := ⟨_, rfl⟩
  rw [hANS]
  have HA : Hid (Sc.endS (s.data.toList.drop 1) 1 = ANS) := hANS
  clear hANS
  go_enter Tryz.func106, Tryz.ntmps106
  go_wp2
  go_loop [5] (fun i => ∃ k : Nat, k ≤ s.size + 1 ∧ i = .int .i64 k ∧ Hid (Sc.endS (s.data.toList.drop k) k = ANS)) (fun i => s.size + 1 - (intOf i).toNat)
  case atStart => exact ⟨1, by omega, rfl, HA⟩
  case round =>
    obtain ⟨k, hk, rfl, HK⟩ := hrel
    clear HA
    by_cases hlt : k < s.size
    · have HS : Hid (_ = _) := endS_at s k hlt
      by_cases c1 : Lib.hasPrefix (s.data.toList.drop k) [39, 39] = true
      · have HN : Hid (Sc.endS (s.data.toList.drop (k + 2)) (k + 2) = ANS) := by
          have := HS.out; rw [if_pos c1] at this; exact this.symm.trans HK.out
        have hp := Lib.hid c1
        clear HS HK c1
        go_wp2_with (go_at_call 33; refine (pre_at s ⟨#[39, 39]⟩ k _ true hp).mono ?_; rintro e w' ⟨rfl, rfl⟩)
        go_round
        case rel => exact ⟨k + 2, by omega, by go_num, HN⟩
        case measure => simp [intOf]; omega
      · have hp : Hid (Lib.hasPrefix (s.data.toList.drop k) [39, 39] = false) := by
          cases h : Lib.hasPrefix (s.data.toList.drop k) [39, 39] with
          | true => exact absurd h c1
          | false => exact (rfl : false = false)
        by_cases c2 : (s[k].toNat : Int) = 39
        · have HN : Hid (some (k + 1) = ANS) := by
            have := HS.out; rw [if_neg c1, if_pos c2] at this; exact this.symm.trans HK.out
          have b2 : ((s[k].toNat : Int) == 39) = true := beq_iff_eq.2 c2
          clear HS HK c1 c2
          go_wp2_with (go_at_call 33; refine (pre_at s ⟨#[39, 39]⟩ k _ false hp).mono ?_; rintro e w' ⟨rfl, rfl⟩)
          go_ret2
          exact ⟨by rw [← HN.out]; rfl, rfl⟩
        · have HN : Hid (Sc.endS (s.data.toList.drop (k + 1)) (k + 1) = ANS) := by
            have := HS.out; rw [if_neg c1, if_neg c2] at this; exact this.symm.trans HK.out
          have b2 : ((s[k].toNat : Int) == 39) = false := beq_eq_false_iff_ne.2 c2
          clear HS HK c1 c2
          go_wp2_with (go_at_call 33; refine (pre_at s ⟨#[39, 39]⟩ k _ false hp).mono ?_; rintro e w' ⟨rfl, rfl⟩)
          go_round
          case rel => exact ⟨k + 1, by omega, by go_num, HN⟩
          case measure => simp [intOf]; omega
    · have HN : Hid (none = ANS) := by
        have := HK.out; rw [Sc.drop_nil s k (by omega)] at this; exact this
      clear HK
      go_wp2
      go_ret2
      exact ⟨by rw [← HN.out]; rfl, rfl⟩

set_option maxHeartbeats 400000 in
theorem end_none (s : ByteArray) (w : World) (h : s.size = 0) :
    Calls Tryz.prog 106 #[.string s] w fun e w' => e = endR none ∧ w = w' := by
  obtain rfl : s = ⟨#[]⟩ := by
    cases s with
    | mk d => have hd : d.size = 0 := h
              rw [Array.size_eq_zero_iff] at hd; rw [hd]
  go_enter Tryz.func106, Tryz.ntmps106
  go_wp2
  go_ret2
  exact ⟨rfl, rfl⟩
set_option maxHeartbeats 400000 in
theorem end_other (s : ByteArray) (w : World) (h0 : 0 < s.size) (h1 : (s[0].toNat : Int) ≠ 34) (h2 : (s[0].toNat : Int) ≠ 39) :
    Calls Tryz.prog 106 #[.string s] w fun e w' => e = endR none ∧ w = w' := by
  have hemp := ba_isEmpty s h0
  have hnil := ba_notnil s h0
  have b1 : ((s[0].toNat : Int) != 34) = true := bne_iff_ne.2 h1
  have b2 : ((s[0].toNat : Int) != 39) = true := bne_iff_ne.2 h2
  go_enter Tryz.func106, Tryz.ntmps106
  go_wp2
  go_ret2
  exact ⟨rfl, rfl⟩
/-- THE CONTRACT of End: it answers what 'Sc.endOf' tells of the bytes. -/
theorem end_any (s : ByteArray) (w : World) (hs : s.size ≤ 1000000) :
    Calls Tryz.prog 106 #[.string s] w fun e w' => e = endR (Sc.endOf s.data.toList) ∧ w = w' := by
  by_cases h0 : 0 < s.size
  · have hl := ba_list s h0
    by_cases h1 : (s[0].toNat : Int) = 34
    · have e1 : s[0] = 34 := Sc.u8_eq 34 (by omega)
      have : Sc.endOf s.data.toList = Sc.endD (s.data.toList.drop 1) 1 := by rw [hl, e1]; rfl
      rw [this]
      exact endD_any s w hs h0 h1
    · have n1 : s[0] ≠ 34 := fun e => h1 (by rw [e]; rfl)
      by_cases h2 : (s[0].toNat : Int) = 39
      · have e1 : s[0] = 39 := Sc.u8_eq 39 (by omega)
        have : Sc.endOf s.data.toList = Sc.endS (s.data.toList.drop 1) 1 := by rw [hl, e1]; rfl
        rw [this]
        exact endS_any s w hs h0 h2
      · have n2 : s[0] ≠ 39 := fun e => h2 (by rw [e]; rfl)
        have : Sc.endOf s.data.toList = none := by rw [hl]; simp [Sc.endOf, n1, n2]
        rw [this]
        exact end_other s w h0 h1 h2
  · have hz : s.size = 0 := by omega
    have : s.data.toList = [] := by
      have := Lib.size_eq s; rw [hz] at this; exact List.eq_nil_of_length_eq_zero this.symm
    rw [this]
    exact end_none s w hz
end Go.Proofs.YtmhakkahclbbjaaGreatDoor
