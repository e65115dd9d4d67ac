/-
  Walks of lex: kindOf, upTo with its two ends, sizeOf's closures.
-/
import Derived.Test.YtmhakkahclbbjaaGreatDoorLb
import Derived.Shelf.Abstract
namespace Go.Proofs.YtmhakkahclbbjaaGreatDoor
open Go.RowKit

set_option maxHeartbeats 2000000 in
theorem kind_any (s : ByteArray) (d : Bool) (w : World) (hs : s.size ≤ 1000000) (h0 : 0 < s.size) :
    Calls Tryz.prog 89 #[.string s, .bool d] w fun e w' => e = .returned (.int .i64 (Lx.kindOf s.data.toList d : Nat)) ∧ w = w' := by
  have hb := s[0].toNat_lt
  unfold Lx.kindOf
  rw [Lx.getD_at s 0 h0]
  have cD := fun w => dash_any s w
  have cC := fun w => colon_any s 0 w hs h0
  have cB := fun w => bar_any s w hs h0
  generalize Lx.dash s.data.toList = D at *
  generalize Lx.colonAt s.data.toList 0 = C at *
  generalize Lx.bar s.data.toList = B at *
  unfold Lx.isB
  have HD := Lib.hid cD
  have HC := Lib.hid cC
  have HB := Lib.hid cB
  clear cD cC cB
  cases d
  all_goals
    go_enter Tryz.func89, Tryz.ntmps89
    go_wp2_with (first
      | (go_at_call 103; refine (HD.out _).mono ?_; rintro e w' ⟨rfl, rfl⟩)
      | (go_at_call 104; refine (HC.out _).mono ?_; rintro e w' ⟨rfl, rfl⟩)
      | (go_at_call 105; refine (HB.out _).mono ?_; rintro e w' ⟨rfl, rfl⟩))
    all_goals go_ret
    all_goals exact ⟨ret_int (by clear HD HC HB; simp_all), rfl⟩

set_option maxHeartbeats 1000000 in
theorem endW_any (s : ByteArray) (b k : Nat) (w : World) (hs : s.size ≤ 1000000) (hk : k < s.size) (hc : w.cell? ⟨b, 0, none⟩ = some (.string s)) :
    Calls Tryz.prog 108 #[.int .i64 k, .pointer (some ⟨b, 0, none⟩)] w fun e w' => e = .returned (.bool (Lx.endW s.data.toList k)) ∧ w = w' := by
  unfold Lx.endW
  rw [Lx.getD_at s k hk]
  have cC := fun w => colon_any s k w hs hk
  have cF := fun w => flow_any s[k] w
  generalize Lx.colonAt s.data.toList k = C at *
  generalize Lx.flow s[k] = F at *
  unfold Lx.isB
  have HC := Lib.hid cC
  have HF := Lib.hid cF
  clear cC cF
  go_enter Tryz.func108, Tryz.ntmps108
  go_wp2_with (first
    | (go_at_call 109; refine (HF.out _).mono ?_; rintro e w' ⟨rfl, rfl⟩)
    | (go_at_call 104; refine (HC.out _).mono ?_; rintro e w' ⟨rfl, rfl⟩))
  all_goals go_ret
  all_goals exact ⟨ret_bool (by clear HC HF; simp_all), rfl⟩

set_option maxHeartbeats 1000000 in
theorem endP_any (s : ByteArray) (b k : Nat) (w : World) (hs : s.size ≤ 1000000) (hk : k < s.size) (hc : w.cell? ⟨b, 0, none⟩ = some (.string s)) :
    Calls Tryz.prog 110 #[.int .i64 k, .pointer (some ⟨b, 0, none⟩)] w fun e w' => e = .returned (.bool (Lx.endP s.data.toList k)) ∧ w = w' := by
  unfold Lx.endP
  rw [Lx.getD_at s k hk]
  have cC := fun w => colon_any s k w hs hk
  have cF := fun w => flow_any s[k] w
  have cR := fun w => remark_any s k w hs hk
  generalize Lx.colonAt s.data.toList k = C at *
  generalize Lx.flow s[k] = F at *
  generalize Lx.remarkAt s.data.toList k = R at *
  have HC := Lib.hid cC
  have HF := Lib.hid cF
  have HR := Lib.hid cR
  clear cC cF cR
  go_enter Tryz.func110, Tryz.ntmps110
  go_wp2_with (first
    | (go_at_call 109; refine (HF.out _).mono ?_; rintro e w' ⟨rfl, rfl⟩)
    | (go_at_call 104; refine (HC.out _).mono ?_; rintro e w' ⟨rfl, rfl⟩)
    | (go_at_call 88; refine (HR.out _).mono ?_; rintro e w' ⟨rfl, rfl⟩))
  all_goals go_ret
  all_goals exact ⟨ret_bool (by clear HC HF HR; simp_all), rfl⟩

/-- upTo, whatever the function value is, if it answers so -/
theorem upTo_any (g : Nat) (lb : Array Value) (f : Nat → Bool) (s : ByteArray) (w : World) (hs : s.size ≤ 1000000) (h0 : 0 < s.size)
    (eg : ∀ args w, (callFunc g args).run Tryz.prog w = .ok (.enter g args) w)
    (hf : ∀ k : Nat, k < s.size → Calls Tryz.prog g (#[.int .i64 k] ++ lb) w fun e w' => e = .returned (.bool (f k)) ∧ w = w') :
    Calls Tryz.prog 107 #[.string s, .func (.func g) #[] lb] w fun e w' => e = .returned (.int .i64 (Lx.upTo f s.size s.size 1 : Nat)) ∧ w = w' := by
  obtain ⟨ANS, hANS⟩ : ∃ ANS, Lx.upTo f s.size s.size 1 = ANS := ⟨_, rfl⟩
  rw [hANS]
  have HA := Lib.hid hANS
  have HF := Lib.hid hf
  clear hANS hf
  go_enter Tryz.func107, Tryz.ntmps107
  go_wp2
  go_loop [5] (fun i => ∃ j : Nat, 1 ≤ j ∧ j ≤ s.size ∧ i = .int .i64 j ∧ Hid (Lx.upTo f s.size (s.size + 1 - j) j = ANS)) (fun i => s.size - (intOf i).toNat)
  case atStart => exact ⟨1, by omega, by omega, rfl, HA⟩
  case round =>
    obtain ⟨j, hj1, hj, rfl, HK⟩ := hrel
    clear HA
    by_cases hlt : j < s.size
    · have HS : Hid (Lx.upTo f s.size (s.size + 1 - j) j = if f j then j else Lx.upTo f s.size (s.size - j) (j + 1)) := by
        have := Lx.upTo_step f s.size (s.size - j) j hlt
        rw [show s.size - j + 1 = s.size + 1 - j by omega] at this
        exact this
      have cF := HF.out j hlt
      cases hfj : f j
      · have HN : Hid (Lx.upTo f s.size (s.size + 1 - (j + 1)) (j + 1) = ANS) := by
          have := HS.out; rw [hfj] at this
          show Lx.upTo f s.size (s.size + 1 - (j + 1)) (j + 1) = ANS
          rw [show s.size + 1 - (j + 1) = s.size - j by omega]
          exact this.symm.trans HK.out
        rw [hfj] at cF
        clear HS HK hfj
        go_wp2_with (go_at_fn g; refine cF.mono ?_; rintro e w' ⟨rfl, rfl⟩)
        go_round
        case rel => exact ⟨j + 1, by omega, by omega, by go_num, HN⟩
        case measure => simp [intOf]; omega
      · have HN : Hid (j = ANS) := by
          have := HS.out; rw [hfj] at this; exact this.symm.trans HK.out
        rw [hfj] at cF
        clear HS HK hfj
        go_wp2_with (go_at_fn g; refine cF.mono ?_; rintro e w' ⟨rfl, rfl⟩)
        go_ret
        exact ⟨by rw [← HN.out]; rfl, rfl⟩
    · have HN : Hid (s.size = ANS) := by
        have := HK.out; rw [Lx.upTo_end _ _ _ _ (by omega)] at this; exact this
      clear HK
      go_wp2
      go_ret
      exact ⟨by rw [← HN.out]; rfl, rfl⟩
end Go.Proofs.YtmhakkahclbbjaaGreatDoor
