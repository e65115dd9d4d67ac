/-
  Walks of withoutSign, isPower, isDecimal, isInt.
-/
import Derived.Test.YtbimjdlkffbncaaDoorGc
namespace Go.Proofs.YtbimjdlkffbncaaDoor
namespace Tag
open Go.RowKit

theorem bare_yes (s : ByteArray) (h0 : 0 < s.size) (h : (s[0].toNat : Int) = 43 ∨ (s[0].toNat : Int) = 45) : s.extract 1 s.size = str (Tg.bare s.data.toList) := by
  apply to_str
  rw [ext_drop]
  have e : s[0] = 43 ∨ s[0] = 45 := by
    rcases h with h | h
    · exact Or.inl (u8_eq 43 (by omega))
    · exact Or.inr (u8_eq 45 (by omega))
  conv => rhs; rw [ba_list s h0]
  rw [Tg.bare_sign _ _ e]
theorem bare_no (s : ByteArray) (h0 : 0 < s.size) (h1 : (s[0].toNat : Int) ≠ 43) (h2 : (s[0].toNat : Int) ≠ 45) : s = str (Tg.bare s.data.toList) := by
  apply to_str
  conv => rhs; rw [ba_list s h0]
  rw [Tg.bare_not _ _ (fun e => h1 (by rw [e]; rfl)) (fun e => h2 (by rw [e]; rfl)), ← ba_list s h0]
theorem bare_le (l : List UInt8) : (Tg.bare l).length ≤ l.length := by
  cases l with
  | nil => exact Nat.le_refl _
  | cons b t =>
    show (if b = 43 ∨ b = 45 then t else b :: t).length ≤ _
    split <;> simp

set_option maxHeartbeats 400000 in
theorem bare_any (s : ByteArray) (w : World) :
    Calls Tryd.prog 126 #[.string s] w fun e w' => e = .returned (.string (str (Tg.bare s.data.toList))) ∧ w = w' := by
  by_cases h0 : s.size = 0
  · obtain rfl := ba_nil s h0
    clear h0
    go_enter Tryd.func126, Tryd.ntmps126
    go_wp2
    go_ret
    exact ⟨rfl, rfl⟩
  · have hp : 0 < s.size := by omega
    have hemp := ba_isEmpty s hp
    have hnil := ba_notnil s hp
    by_cases h1 : (s[0].toNat : Int) = 43
    · have H := Lib.hid (bare_yes s hp (Or.inl h1))
      have b1 : ((s[0].toNat : Int) == 43) = true := beq_iff_eq.2 h1
      clear h1
      go_enter Tryd.func126, Tryd.ntmps126
      go_wp2
      go_ret
      exact ⟨ret_str H.out, rfl⟩
    · have b1 : ((s[0].toNat : Int) == 43) = false := beq_eq_false_iff_ne.2 h1
      by_cases h2 : (s[0].toNat : Int) = 45
      · have H := Lib.hid (bare_yes s hp (Or.inr h2))
        have b2 : ((s[0].toNat : Int) == 45) = true := beq_iff_eq.2 h2
        clear h1 h2
        go_enter Tryd.func126, Tryd.ntmps126
        go_wp2
        go_ret
        exact ⟨ret_str H.out, rfl⟩
      · have b2 : ((s[0].toNat : Int) == 45) = false := beq_eq_false_iff_ne.2 h2
        have H := Lib.hid (bare_no s hp h1 h2)
        clear h1 h2
        go_enter Tryd.func126, Tryd.ntmps126
        go_wp2
        go_ret
        exact ⟨ret_str H.out, rfl⟩

/-- allDigits behind withoutSign -/
theorem bareDigits (t : ByteArray) (w : World) (ht : t.size ≤ 9223372036854775807) :
    Calls Tryd.prog 125 #[.string (str (Tg.bare t.data.toList)), .int .i64 10] w fun e w' => e = .returned (.bool (Tg.allDg 10 (Tg.bare t.data.toList))) ∧ w = w' :=
  allDigits_any (str (Tg.bare t.data.toList)) 10 10 rfl w (by rw [str_size]; have := bare_le t.data.toList; rw [← Lib.size_eq] at this; omega)

set_option maxHeartbeats 400000 in
theorem power_any (s : ByteArray) (w : World) (hs : s.size ≤ 9223372036854775807) :
    Calls Tryd.prog 138 #[.string s] w fun e w' => e = .returned (.bool (Tg.isPower s.data.toList)) ∧ w = w' := by
  by_cases h0 : s.size = 0
  · obtain rfl := ba_nil s h0
    clear h0
    go_enter Tryd.func138, Tryd.ntmps138
    go_wp2
    go_ret
    exact ⟨rfl, rfl⟩
  · have hp : 0 < s.size := by omega
    have hemp := ba_isEmpty s hp
    have hnil := ba_notnil s hp
    obtain ⟨I, hI⟩ : ∃ I, I = s.extract 1 s.size := ⟨_, rfl⟩
    have hId : I.data.toList = s.data.toList.drop 1 := by rw [hI, ext_drop]
    have hIs : I.size ≤ 9223372036854775807 := by
      rw [Lib.size_eq, hId, List.length_drop, ← Lib.size_eq]; omega
    have e0 : Tg.isPower s.data.toList = ((s[0] == 101 || s[0] == 69) && Tg.allDg 10 (Tg.bare I.data.toList)) := by
      conv => lhs; rw [ba_list s hp]
      rw [hId]; rfl
    rw [e0]
    clear e0 hId
    have cW := bare_any I w
    have cD := bareDigits I w hIs
    have HI := Lib.hid hI
    clear hI
    by_cases h1 : (s[0].toNat : Int) = 101
    · have e1 : s[0] = 101 := u8_eq 101 (by omega)
      have b1 : ((s[0].toNat : Int) == 101) = true := beq_iff_eq.2 h1
      have g : Hid (((s[0] == 101 || s[0] == 69) && Tg.allDg 10 (Tg.bare I.data.toList)) = Tg.allDg 10 (Tg.bare I.data.toList)) := by show _ = _; rw [e1]; rfl
      rw [g.out]
      clear g e1 h1
      go_enter Tryd.func138, Tryd.ntmps138
      go_wp2_with fail
      rw [← HI.out]
      refine cW.mono ?_
      rintro e w1 ⟨rfl, rfl⟩
      go_wp2_with (go_at_call 125; refine cD.mono ?_; rintro e w1 ⟨rfl, rfl⟩)
      go_ret
      exact ⟨rfl, rfl⟩
    · have b1 : ((s[0].toNat : Int) == 101) = false := beq_eq_false_iff_ne.2 h1
      have n1 : (s[0] == 101) = false := beq_eq_false_iff_ne.2 (fun e => h1 (by rw [e]; rfl))
      by_cases h2 : (s[0].toNat : Int) = 69
      · have e1 : s[0] = 69 := u8_eq 69 (by omega)
        have b2 : ((s[0].toNat : Int) == 69) = true := beq_iff_eq.2 h2
        have g : Hid (((s[0] == 101 || s[0] == 69) && Tg.allDg 10 (Tg.bare I.data.toList)) = Tg.allDg 10 (Tg.bare I.data.toList)) := by show _ = _; rw [e1]; rfl
        rw [g.out]
        clear g e1 h1 h2 n1
        go_enter Tryd.func138, Tryd.ntmps138
        go_wp2_with fail
        rw [← HI.out]
        refine cW.mono ?_
        rintro e w1 ⟨rfl, rfl⟩
        go_wp2_with (go_at_call 125; refine cD.mono ?_; rintro e w1 ⟨rfl, rfl⟩)
        go_ret
        exact ⟨rfl, rfl⟩
      · have b2 : ((s[0].toNat : Int) == 69) = false := beq_eq_false_iff_ne.2 h2
        have n2 : (s[0] == 69) = false := beq_eq_false_iff_ne.2 (fun e => h2 (by rw [e]; rfl))
        rw [n1, n2]
        clear h1 h2 n1 n2
        go_enter Tryd.func138, Tryd.ntmps138
        go_wp2
        go_ret
        exact ⟨rfl, rfl⟩

theorem ahead_le (n : Nat) (l : List UInt8) : Tg.ahead n l ≤ l.length := by
  unfold Tg.ahead; exact (List.takeWhile_sublist _).length_le

set_option maxHeartbeats 1000000 in
theorem decimal_any (s : ByteArray) (w : World) (hs : s.size ≤ 1000000) :
    Calls Tryd.prog 127 #[.string s] w fun e w' => e = .returned (.bool (Tg.isDecimal s.data.toList)) ∧ w = w' := by
  unfold Tg.isDecimal
  have c1 := digitsAhead_any s 10 10 rfl w (by omega)
  have hkl : Tg.ahead 10 s.data.toList ≤ s.size := by rw [Lib.size_eq]; exact ahead_le _ _
  obtain ⟨k, hk⟩ : ∃ k, Tg.ahead 10 s.data.toList = k := ⟨_, rfl⟩
  rw [hk] at c1 hkl ⊢
  clear hk
  obtain ⟨R, hR⟩ : ∃ R, R = s.extract k s.size := ⟨_, rfl⟩
  have hRd : s.data.toList.drop k = R.data.toList := by rw [hR, ext_drop]
  have hRs : R.size ≤ 1000000 := by
    rw [Lib.size_eq, ← hRd, List.length_drop, ← Lib.size_eq]; omega
  rw [← List.drop_drop, hRd]
  clear hRd
  have HR := Lib.hid hR
  clear hR
  cases hp : Lib.hasPrefix R.data.toList [46]
  · rw [if_neg (by simp)]
    have cN := cut_no R ⟨#[46]⟩ w hp
    clear hp
    have cP := power_any R w (by omega)
    by_cases hk0 : k = 0
    · have b1 : decide ((0 : Int) < (k : Int)) = false := decide_eq_false (by omega)
      have b2 : decide (0 < k) = false := decide_eq_false (by omega)
      have b3 : ¬ 0 < k := by omega
      have b4 : ¬ (0 : Int) < (k : Int) := by omega
      rw [b2, Bool.false_and]
      clear hk0
      go_enter Tryd.func127, Tryd.ntmps127
      go_wp2_with fail
      refine c1.mono ?_
      rintro e w1 ⟨rfl, rfl⟩
      go_wp2_with fail
      rw [← HR.out]
      refine cN.mono ?_
      rintro e w1 ⟨rfl, rfl⟩
      clear c1 cN HR
      go_wp2
      go_ret
      exact ⟨rfl, rfl⟩
    · have b1 : decide ((0 : Int) < (k : Int)) = true := decide_eq_true (by omega)
      have b2 : decide (0 < k) = true := decide_eq_true (by omega)
      rw [b2, Bool.true_and]
      clear b2
      by_cases h0 : R.size = 0
      · obtain rfl := ba_nil R h0
        clear h0
        go_enter Tryd.func127, Tryd.ntmps127
        go_wp2_with fail
        refine c1.mono ?_
        rintro e w1 ⟨rfl, rfl⟩
        go_wp2_with fail
        rw [← HR.out]
        refine cN.mono ?_
        rintro e w1 ⟨rfl, rfl⟩
        clear c1 cN HR
        go_wp2
        go_ret
        exact ⟨rfl, rfl⟩
      · have hp : 0 < R.size := by omega
        have hemp := ba_isEmpty R hp
        have hnil := ba_notnil R hp
        have g : Tg.tailOk R.data.toList = Tg.isPower R.data.toList := by unfold Tg.tailOk; rw [← Lib.toList_data, hemp, Bool.false_or]
        rw [g]
        clear g h0
        go_enter Tryd.func127, Tryd.ntmps127
        go_wp2_with fail
        refine c1.mono ?_
        rintro e w1 ⟨rfl, rfl⟩
        go_wp2_with fail
        rw [← HR.out]
        refine cN.mono ?_
        rintro e w1 ⟨rfl, rfl⟩
        clear c1 cN HR
        go_wp2_with (go_at_call 138; refine cP.mono ?_; rintro e w1 ⟨rfl, rfl⟩)
        go_ret
        exact ⟨rfl, rfl⟩
  · rw [if_pos rfl]
    have cY := cut_yes R ⟨#[46]⟩ w hp
    have hR1 := pre_le R ⟨#[46]⟩ hp
    clear hp
    obtain ⟨T, hT⟩ : ∃ T, T = R.extract (⟨#[46]⟩ : ByteArray).size R.size := ⟨_, rfl⟩
    have hTd : R.data.toList.drop 1 = T.data.toList := by rw [hT, ext_drop]; rfl
    rw [← hT] at cY
    rw [hTd]
    have hTs : T.size ≤ 1000000 := by
      rw [Lib.size_eq, ← hTd, List.length_drop, ← Lib.size_eq]; omega
    clear hT hTd hR1
    have c2 := digitsAhead_any T 10 10 rfl w (by omega)
    have hml : Tg.ahead 10 T.data.toList ≤ T.size := by rw [Lib.size_eq]; exact ahead_le _ _
    obtain ⟨m, hm⟩ : ∃ m, Tg.ahead 10 T.data.toList = m := ⟨_, rfl⟩
    rw [hm] at c2 hml ⊢
    clear hm
    obtain ⟨Q, hQ⟩ : ∃ Q, Q = T.extract m T.size := ⟨_, rfl⟩
    have hQd : T.data.toList.drop m = Q.data.toList := by rw [hQ, ext_drop]
    have hQs : Q.size ≤ 1000000 := by
      rw [Lib.size_eq, ← hQd, List.length_drop, ← Lib.size_eq]; omega
    rw [hQd]
    clear hQd
    have HQ := Lib.hid hQ
    clear hQ
    have cP := power_any Q w (by omega)
    by_cases hk0 : k + m = 0
    · have b1 : decide ((0 : Int) < (k : Int) + (m : Int)) = false := decide_eq_false (by omega)
      have b2 : decide (0 < k + m) = false := decide_eq_false (by omega)
      rw [b2, Bool.false_and]
      clear b2 hk0
      go_enter Tryd.func127, Tryd.ntmps127
      go_wp2_with fail
      refine c1.mono ?_
      rintro e w1 ⟨rfl, rfl⟩
      go_wp2_with fail
      rw [← HR.out]
      refine cY.mono ?_
      rintro e w1 ⟨rfl, rfl⟩
      go_wp2_with fail
      refine c2.mono ?_
      rintro e w1 ⟨rfl, rfl⟩
      clear c1 cY c2 HR
      go_wp2
      go_ret
      exact ⟨rfl, rfl⟩
    · have b1 : decide ((0 : Int) < (k : Int) + (m : Int)) = true := decide_eq_true (by omega)
      have b2 : decide (0 < k + m) = true := decide_eq_true (by omega)
      rw [b2, Bool.true_and]
      clear b2
      by_cases h0 : Q.size = 0
      · have HZ : Hid (T.extract m T.size = ⟨#[]⟩) := by rw [HQ.out] at h0; exact ba_nil _ h0
        obtain rfl := ba_nil Q h0
        clear h0
        go_enter Tryd.func127, Tryd.ntmps127
        go_wp2_with fail
        refine c1.mono ?_
        rintro e w1 ⟨rfl, rfl⟩
        go_wp2_with fail
        rw [← HR.out]
        refine cY.mono ?_
        rintro e w1 ⟨rfl, rfl⟩
        go_wp2_with fail
        refine c2.mono ?_
        rintro e w1 ⟨rfl, rfl⟩
        clear c1 cY c2 HR
        have hz := HZ.out
        go_wp2
        go_ret
        exact ⟨rfl, rfl⟩
      · have hp : 0 < Q.size := by omega
        have hemp := ba_isEmpty Q hp
        have hnil := ba_notnil Q hp
        have g : Tg.tailOk Q.data.toList = Tg.isPower Q.data.toList := by unfold Tg.tailOk; rw [← Lib.toList_data, hemp, Bool.false_or]
        rw [g]
        clear g h0
        rw [HQ.out] at hemp hnil
        go_enter Tryd.func127, Tryd.ntmps127
        go_wp2_with fail
        refine c1.mono ?_
        rintro e w1 ⟨rfl, rfl⟩
        go_wp2_with fail
        rw [← HR.out]
        refine cY.mono ?_
        rintro e w1 ⟨rfl, rfl⟩
        go_wp2_with fail
        refine c2.mono ?_
        rintro e w1 ⟨rfl, rfl⟩
        clear c1 cY c2 HR
        go_wp2_with fail
        rw [← HQ.out]
        refine cP.mono ?_
        rintro e w1 ⟨rfl, rfl⟩
        go_wp2
        go_ret
        exact ⟨rfl, rfl⟩
end Tag
end Go.Proofs.YtbimjdlkffbncaaDoor
