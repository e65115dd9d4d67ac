/-
  Walks of lex: pastBlanks, isRemark, isOver, isFlow, isColon, isDash, isBar.
-/
import Derived.Test.YtmhakkahclbbjaaGreatDoorWa
import Derived.Test.YtmhakkahclbbjaaGreatDoorLa
import Derived.Test.YtmhakkahclbbjaaGreatDoorTa
namespace Go.Proofs.YtmhakkahclbbjaaGreatDoor
open Go.RowKit

theorem ba_len (s : ByteArray) : s.data.toList.length = s.size := by rw [← Lib.size_eq]

set_option maxHeartbeats 1000000 in
theorem past_any (s : ByteArray) (k : Nat) (w : World) (hs : s.size ≤ 1000000) (hk : k ≤ s.size) :
    Calls Tryz.prog 64 #[.string s, .int .i64 k] w fun e w' => e = .returned (.int .i64 (Lx.past s.data.toList k : Nat)) ∧ w = w' := by
  obtain ⟨ANS, hANS⟩ : ∃ ANS, Lx.past s.data.toList k = ANS := ⟨_, rfl⟩
  rw [hANS]
  have HA := Lib.hid hANS
  clear hANS
  go_enter Tryz.func64, Tryz.ntmps64
  go_wp2
  go_loop [1] (fun i => ∃ j : Nat, j ≤ s.size ∧ i = .int .i64 j ∧ Hid (Lx.past s.data.toList j = ANS)) (fun i => s.size - (intOf i).toNat)
  case atStart => exact ⟨k, hk, rfl, HA⟩
  case round =>
    obtain ⟨j, hj, rfl, HK⟩ := hrel
    clear HA
    by_cases hlt : j < s.size
    · have HS := Lib.hid (Lx.past_step s j hlt)
      by_cases c : Lx.isB s[j] 32 = true
      · have HN : Hid (Lx.past s.data.toList (j + 1) = ANS) := by
          have := HS.out; rw [if_pos c] at this; exact this.symm.trans HK.out
        have b1 : ((s[j].toNat : Int) == 32) = true := c
        clear HS HK c
        go_wp2
        go_round
        case rel => exact ⟨j + 1, by omega, by go_num, HN⟩
        case measure => simp [intOf]; omega
      · have HN : Hid (j = ANS) := by
          have := HS.out; rw [if_neg c] at this; exact this.symm.trans HK.out
        have b1 : ((s[j].toNat : Int) == 32) = false := by simpa [Lx.isB] using c
        clear HS HK c
        go_wp2
        go_ret
        exact ⟨by rw [← HN.out]; rfl, rfl⟩
    · have HN : Hid (j = ANS) := by
        have := HK.out; rw [Lx.past_end s j (by omega)] at this; exact this
      clear HK
      go_wp2
      go_ret
      exact ⟨by rw [← HN.out]; rfl, rfl⟩

set_option maxHeartbeats 1000000 in
theorem remark_any (s : ByteArray) (k : Nat) (w : World) (hs : s.size ≤ 1000000) (hk : k < s.size) :
    Calls Tryz.prog 88 #[.string s, .int .i64 k] w fun e w' => e = .returned (.bool (Lx.remarkAt s.data.toList k)) ∧ w = w' := by
  have e1 := Lx.getD_at s k hk
  unfold Lx.remarkAt
  rw [e1]
  by_cases h0 : k = 0
  · subst h0
    unfold Lx.isB
    go_enter Tryz.func88, Tryz.ntmps88
    go_wp2
    all_goals go_ret
    all_goals exact ⟨ret_bool (by simp_all), rfl⟩
  · have e2 := Lx.getD_at s (k - 1) (by omega)
    rw [e2]
    have h0' : (k == 0) = false := beq_eq_false_iff_ne.2 h0
    rw [h0', Bool.false_or]
    unfold Lx.isB
    have hz : (((k : Nat) : Int) == 0) = false := beq_eq_false_iff_ne.2 (by omega)
    go_enter Tryz.func88, Tryz.ntmps88
    go_wp2
    all_goals go_ret
    all_goals exact ⟨ret_bool (by simp_all), rfl⟩

set_option maxHeartbeats 1000000 in
theorem over_any (s : ByteArray) (k : Nat) (w : World) (hs : s.size ≤ 1000000) (hk : k ≤ s.size) :
    Calls Tryz.prog 65 #[.string s, .int .i64 k] w fun e w' => e = .returned (.bool (Lx.over s.data.toList k)) ∧ w = w' := by
  unfold Lx.over
  rw [ba_len]
  by_cases h0 : k = s.size
  · subst h0
    go_enter Tryz.func65, Tryz.ntmps65
    go_wp2
    all_goals go_ret
    all_goals exact ⟨ret_bool (by simp), rfl⟩
  · have h1 : (k == s.size) = false := beq_eq_false_iff_ne.2 h0
    have h2 : ((k : Int) == (s.size : Int)) = false := beq_eq_false_iff_ne.2 (by omega)
    rw [h1, Bool.false_or]
    go_enter Tryz.func65, Tryz.ntmps65
    go_wp2_with (go_at_call 88; refine (remark_any s k _ hs (by omega)).mono ?_; rintro e w' ⟨rfl, rfl⟩)
    all_goals go_ret
    all_goals exact ⟨rfl, rfl⟩

set_option maxHeartbeats 1000000 in
theorem flow_any (b : UInt8) (w : World) :
    Calls Tryz.prog 109 #[.int .u8 b.toNat] w fun e w' => e = .returned (.bool (Lx.flow b)) ∧ w = w' := by
  have hb := b.toNat_lt
  unfold Lx.flow Lx.isB
  go_enter Tryz.func109, Tryz.ntmps109
  go_wp2
  all_goals go_ret
  all_goals exact ⟨ret_bool (by simp_all), rfl⟩

set_option maxHeartbeats 1000000 in
theorem colon_any (s : ByteArray) (k : Nat) (w : World) (hs : s.size ≤ 1000000) (hk : k < s.size) :
    Calls Tryz.prog 104 #[.string s, .int .i64 k] w fun e w' => e = .returned (.bool (Lx.colonAt s.data.toList k)) ∧ w = w' := by
  have e1 := Lx.getD_at s k hk
  unfold Lx.colonAt
  rw [e1, ba_len]
  by_cases h1 : k + 1 = s.size
  · have h2 : (k + 1 == s.size) = true := beq_iff_eq.2 h1
    have h3 : ((k : Int) + 1 == (s.size : Int)) = true := beq_iff_eq.2 (by omega)
    rw [h2]
    unfold Lx.isB
    go_enter Tryz.func104, Tryz.ntmps104
    go_wp2
    all_goals go_ret
    all_goals exact ⟨ret_bool (by simp_all), rfl⟩
  · have h2 : (k + 1 == s.size) = false := beq_eq_false_iff_ne.2 h1
    have h3 : ((k : Int) + 1 == (s.size : Int)) = false := beq_eq_false_iff_ne.2 (by omega)
    have h4 : k + 1 < s.size := by omega
    rw [h2, Lx.getD_at s (k + 1) h4, Bool.false_or]
    unfold Lx.isB
    generalize hF : Lx.flow s[k + 1] = F
    have cF := fun w => flow_any s[k + 1] w
    rw [hF] at cF
    have HC := Lib.hid cF
    clear cF hF h1 e1
    go_enter Tryz.func104, Tryz.ntmps104
    go_wp2_with (go_at_call 109; refine (HC.out _).mono ?_; rintro e w' ⟨rfl, rfl⟩)
    all_goals go_ret
    all_goals exact ⟨ret_bool (by clear HC; simp_all), rfl⟩

set_option maxHeartbeats 1000000 in
theorem dash_any (s : ByteArray) (w : World) :
    Calls Tryz.prog 103 #[.string s] w fun e w' => e = .returned (.bool (Lx.dash s.data.toList)) ∧ w = w' := by
  unfold Lx.dash
  have hl : (s.data.toList == [45]) = (s.toList == [45]) := by rw [Lib.toList_data]
  rw [hl]
  generalize hP : Lib.hasPrefix s.data.toList [45, 32] = P
  have cP := fun w => Tag.pre_any s ⟨#[45, 32]⟩ w
  have hP' : Lib.hasPrefix s.data.toList (⟨#[45, 32]⟩ : ByteArray).data.toList = P := hP
  rw [hP'] at cP
  have HC := Lib.hid cP
  clear cP hP hP' hl
  go_enter Tryz.func103, Tryz.ntmps103
  go_wp2_with (first | (go_at_call 56; refine (HC.out _).mono ?_; rintro e w' ⟨rfl, rfl⟩) | go_in)
  all_goals go_ret
  all_goals exact ⟨ret_bool (by clear HC; simp_all), rfl⟩

set_option maxHeartbeats 1000000 in
theorem bar_any (s : ByteArray) (w : World) (hs : s.size ≤ 1000000) (h0 : 0 < s.size) :
    Calls Tryz.prog 105 #[.string s] w fun e w' => e = .returned (.bool (Lx.bar s.data.toList)) ∧ w = w' := by
  unfold Lx.bar
  rw [Lx.getD_at s 0 h0]
  have cP := fun w => past_any s 1 w hs (by omega)
  have hle := Lx.past_le s.data.toList 1 (by rw [ba_len]; omega)
  rw [ba_len] at hle
  generalize hK : Lx.past s.data.toList 1 = K at *
  have cO := fun w => over_any s K w hs hle
  generalize hF : Lx.over s.data.toList K = F at *
  have HP := Lib.hid cP
  have HO := Lib.hid cO
  unfold Lx.isB
  clear cP cO hF hK
  go_enter Tryz.func105, Tryz.ntmps105
  go_wp2_with (first
    | (go_at_call 64; refine (HP.out _).mono ?_; rintro e w' ⟨rfl, rfl⟩)
    | (go_at_call 65; refine (HO.out _).mono ?_; rintro e w' ⟨rfl, rfl⟩))
  all_goals go_ret
  all_goals exact ⟨ret_bool (by clear HP HO; simp_all), rfl⟩
end Go.Proofs.YtmhakkahclbbjaaGreatDoor
