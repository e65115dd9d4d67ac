/-
  Walk of the law TagOne.
-/
import Derived.Test.YteikjhaaogamfaaWe
namespace Go.Proofs.Yteikjhaaogamfaa
open Go.RowKit

set_option maxHeartbeats 1000000 in
theorem fits_four (j k : Tg.K) (hj : j ≠ .str) (s : ByteArray) (w : World) (hs : s.size ≤ 1000000) (hk : Tg.resolve s.data.toList = k) :
    Calls Try.prog 10 #[.string (kS j), .string s] w fun e w' => e = .returned (.bool (Tg.fitsK j.w k)) ∧ w = w' := by
  have c1 := resolve_any s w hs
  rw [hk] at c1
  clear hk
  cases j
  case str => exact absurd rfl hj
  all_goals clear hj
  all_goals cases k
  all_goals
    unfold kS at *
    go_enter Try.func10, Try.ntmps10
    go_wp2_with fail
    refine c1.mono ?_
    rintro e w1 ⟨rfl, rfl⟩
    go_wp2
    go_ret
    exact ⟨rfl, rfl⟩
/-- what the law asks of the four -/
def four (j k : Tg.K) : Bool := (j == k) || ((j == .flt) && (k == .int))
theorem four_eq (j k : Tg.K) (hj : j ≠ .str) : Tg.fitsK j.w k = four j k := by
  cases j
  case str => exact absurd rfl hj
  all_goals cases k <;> decide
theorem fits_four' (j k : Tg.K) (hj : j ≠ .str) (s : ByteArray) (w : World) (hs : s.size ≤ 1000000) (hk : Tg.resolve s.data.toList = k) :
    Calls Try.prog 10 #[.string (kS j), .string s] w fun e w' => e = .returned (.bool (four j k)) ∧ w = w' := by
  have c := fits_four j k hj s w hs hk
  rw [four_eq j k hj] at c
  exact c
theorem fits_at (t s : ByteArray) (k : Tg.K) (b : Bool) (w : World) (ht : t.size ≤ 1000000) (hs : s.size ≤ 1000000) (hk : Tg.resolve s.data.toList = k) (hb : Tg.fitsK t.data.toList k = b) :
    Calls Try.prog 10 #[.string t, .string s] w fun e w' => e = .returned (.bool b) ∧ Below w.heap.size w w' := by
  have c := fits_any t s w ht hs
  unfold Tg.fits at c
  rw [hk, hb] at c
  exact c

set_option maxHeartbeats 4000000 in
set_option maxRecDepth 100000 in
theorem one_kind (k : Tg.K) (s : ByteArray) (w : World) (hs : s.size ≤ 400) (hk : Tg.resolve s.data.toList = k) :
    Calls Try.prog 6 #[.string s] w fun e w' => e = .returned (.bool true) ∧ Below w.heap.size w w' := by
  have cA := alive_any w
  have b0 : decide ((400 : Int) < (s.size : Int)) = false := decide_eq_false (by omega)
  have CR := Lib.hid (fun w1 => resolve_any s w1 (by omega))
  rw [hk] at CR
  have CC := Lib.hid (fun w1 => core_any (kS k) w1)
  rw [kS_w, Tg.one_core] at CC
  have F1 := Lib.hid (fun w1 => fits_at (kS k) s k true w1 (by cases k <;> decide) (by omega) hk (by rw [kS_w]; exact Tg.one_fits k))
  have F2 := Lib.hid (fun w1 => fits_at ⟨#[115, 116, 114]⟩ s k true w1 (by decide) (by omega) hk (Tg.one_str k))
  have F3 := Lib.hid (fun w1 => fits_at ⟨#[33, 111, 119, 110]⟩ s k true w1 (by decide) (by omega) hk (Tg.one_own k))
  have F4 := Lib.hid (fun w1 => fits_at ⟨#[115, 101, 113]⟩ s k false w1 (by decide) (by omega) hk (Tg.one_seq k))
  have F5 := Lib.hid (fun w1 => fits_at ⟨#[109, 97, 112]⟩ s k false w1 (by decide) (by omega) hk (Tg.one_map k))
  have G1 := Lib.hid (fun w1 => fits_four' .nul k (by decide) s w1 (by omega) hk)
  have G2 := Lib.hid (fun w1 => fits_four' .boo k (by decide) s w1 (by omega) hk)
  have G3 := Lib.hid (fun w1 => fits_four' .int k (by decide) s w1 (by omega) hk)
  have G4 := Lib.hid (fun w1 => fits_four' .flt k (by decide) s w1 (by omega) hk)
  clear hk
  cases k
  all_goals
    unfold kS at *
    simp only [four, show (Tg.K.nul == Tg.K.nul) = true from rfl, show (Tg.K.boo == Tg.K.boo) = true from rfl, show (Tg.K.int == Tg.K.int) = true from rfl, show (Tg.K.flt == Tg.K.flt) = true from rfl, Bool.true_or, Bool.or_true, Bool.true_and, Bool.and_true] at G1 G2 G3 G4
    go_enter Try.func6, Try.ntmps6
    go_wp2_with fail
    refine cA.mono ?_
    rintro e w1 ⟨rfl, hb⟩
    go_wp2_with fail
    refine (CR.out w1).mono ?_
    rintro e w2 ⟨rfl, rfl⟩
    go_wp2_with fail
    refine (CC.out w1).mono ?_
    rintro e w2 ⟨rfl, rfl⟩
    go_wp2_with fail
    refine (F1.out w1).mono ?_
    rintro e w2 ⟨rfl, hb2⟩
    replace hb := Below.then hb hb2
    clear hb2
    go_wp2_with fail
    refine (F2.out w2).mono ?_
    rintro e w3 ⟨rfl, hb3⟩
    replace hb := Below.then hb hb3
    clear hb3
    go_wp2_with fail
    refine (F3.out w3).mono ?_
    rintro e w4 ⟨rfl, hb4⟩
    replace hb := Below.then hb hb4
    clear hb4
    go_wp2_with fail
    refine (F4.out w4).mono ?_
    rintro e w5 ⟨rfl, hb5⟩
    replace hb := Below.then hb hb5
    clear hb5
    go_wp2_with fail
    refine (F5.out w5).mono ?_
    rintro e w6 ⟨rfl, hb6⟩
    replace hb := Below.then hb hb6
    clear hb6 F1 F2 F3 F4 F5 CC CR cA
    go_wp2_with fail
    go_loop [42] (fun i => ∃ k : Nat, k ≤ 4 ∧ i = .int .i64 k) (fun i => 4 - (intOf i).toNat)
    case atStart => exact ⟨0, by omega, rfl⟩
    case round =>
      obtain ⟨k, hk, rfl⟩ := hrel
      obtain rfl | rfl | rfl | rfl | rfl : k = 0 ∨ k = 1 ∨ k = 2 ∨ k = 3 ∨ k = 4 := by omega
      · go_wp2_with (go_at_call 10; refine (G1.out _).mono ?_; rintro e w' ⟨rfl, rfl⟩)
        go_round
        case rel => exact ⟨1, by omega, by go_num⟩
        case measure => simp [intOf]
      · go_wp2_with (go_at_call 10; refine (G2.out _).mono ?_; rintro e w' ⟨rfl, rfl⟩)
        go_round
        case rel => exact ⟨2, by omega, by go_num⟩
        case measure => simp [intOf]
      · go_wp2_with (go_at_call 10; refine (G3.out _).mono ?_; rintro e w' ⟨rfl, rfl⟩)
        go_round
        case rel => exact ⟨3, by omega, by go_num⟩
        case measure => simp [intOf]
      · go_wp2_with (go_at_call 10; refine (G4.out _).mono ?_; rintro e w' ⟨rfl, rfl⟩)
        go_round
        case rel => exact ⟨4, by omega, by go_num⟩
        case measure => simp [intOf]
      · go_wp2
        go_ret
        exact ⟨rfl, hb.alloc hb.size _⟩

set_option maxHeartbeats 1000000 in
theorem one_walk (s : ByteArray) (w : World) (_hs : s.size ≤ 9223372036854775807) :
    Calls Try.prog 6 #[.string s] w fun e w' => e = .returned (.bool true) ∧ Below w.heap.size w w' := by
  by_cases hbig : 400 < s.size
  · have cA := alive_any w
    have b0 : decide ((400 : Int) < (s.size : Int)) = true := decide_eq_true (by omega)
    go_enter Try.func6, Try.ntmps6
    go_wp2_with fail
    refine cA.mono ?_
    rintro e w1 ⟨rfl, hb⟩
    go_wp2
    go_ret
    exact ⟨rfl, hb⟩
  · exact one_kind _ s w (by omega) rfl
end Go.Proofs.Yteikjhaaogamfaa
