/-
  Walk of strconv's shortFloat at 64 bits: what is answered lies in its range; its value is not asked.
-/
import Derived.Test.YtegkdlimkgfheaaDoorFc
namespace Go.Proofs.YtegkdlimkgfheaaDoor
open Go.RowKit

theorem l10_rng (x : Int) (w : World) (h0 : -1074 ≤ x) (h1 : x ≤ 971) :
    Calls Tryd.prog 44 #[.int .i64 x] w fun e w' => (∃ q, e = .returned (.int .i64 q) ∧ -324 ≤ q ∧ q ≤ 293) ∧ w = w' := by
  refine (l10_any x w (by omega) (by omega)).mono ?_
  rintro e w' ⟨rfl, rfl⟩
  exact ⟨⟨_, rfl, by omega, by omega⟩, rfl⟩
theorem skew_rng (x : Int) (w : World) (h0 : -1074 ≤ x) (h1 : x ≤ 971) :
    Calls Tryd.prog 76 #[.int .i64 x] w fun e w' => (∃ q, e = .returned (.int .i64 q) ∧ -324 ≤ q ∧ q ≤ 293) ∧ w = w' := by
  refine (skewed_any x w (by omega) (by omega)).mono ?_
  rintro e w' ⟨rfl, rfl⟩
  exact ⟨⟨_, rfl, by omega, by omega⟩, rfl⟩
theorem l2_rng (x : Int) (w : World) (h0 : -400 ≤ x) (h1 : x ≤ 400) :
    Calls Tryd.prog 78 #[.int .i64 x] w fun e w' => (∃ q, e = .returned (.int .i64 q) ∧ -5000 ≤ q ∧ q ≤ 5000) ∧ w = w' := by
  refine (l2_any x w (by omega) (by omega)).mono ?_
  rintro e w' ⟨rfl, rfl⟩
  exact ⟨⟨_, rfl, by omega, by omega⟩, rfl⟩
theorem usc_at (x : Int) (b : Nat) (w W : World) (n : Nat) (hx : U64 x) (h : ∃ h l s : Int, U64 h ∧ U64 l ∧ w.cell? ⟨b, 0, none⟩ = some (.int .u64 h) ∧ w.cell? ⟨b, 1, none⟩ = some (.int .u64 l) ∧ w.cell? ⟨b, 2, none⟩ = some (.int .i64 s)) (hW : W = w.drewN n) :
    Calls Tryd.prog 79 #[.int .u64 x, .pointer (some ⟨b, 0, none⟩)] W fun e w' => (∃ d, e = .returned (.int .u64 d) ∧ U64 d) ∧ ∃ n, w' = w.drewN n := by
  subst hW
  obtain ⟨h, l, s, hh, hl, c0, c1, c2⟩ := h
  refine (uscale_any x h l s b (w.drewN n) hx hh hl c0 c1 c2).mono ?_
  rintro e w' ⟨hd, m, rfl⟩
  exact ⟨hd, n + m, by rw [World.drewN_drewN]⟩

def shortE (e : Ending) : Prop := ∃ d p, e = .returned (.tuple #[.int .u64 d, .int .i64 p]) ∧ U64 d ∧ -330 ≤ p ∧ p ≤ 330

set_option maxHeartbeats 4000000 in
set_option maxRecDepth 100000 in
theorem short_skew (e : Int) (w : World) (he0 : -1085 < e) (he1 : e ≤ 960) (hT : P10 w) :
    Calls Tryd.prog 63 #[.int .u64 9223372036854775808, .int .i64 e] w fun r w' => shortE r ∧ Below w.heap.size w w' := by
  have b1 : decide (-1085 < e) = true := decide_eq_true he0
  go_enter Tryd.func63, Tryd.ntmps63
  go_wp2_with fail
  refine (skew_rng _ w (by omega) (by omega)).mono ?_
  rintro r w1 ⟨⟨q, rfl, hq0, hq1⟩, rfl⟩
  go_wp2_with fail
  refine (l2_rng _ _ (by omega) (by omega)).mono ?_
  rintro r w1 ⟨⟨lp, rfl, hl0, hl1⟩, rfl⟩
  go_wp2_with fail
  refine (prescale_any w e _ lp (348 - q).toNat (by omega) (by omega) (by omega) (by omega) hl0 hl1 hT).mono ?_
  rintro r w1 ⟨rfl, h, l, s, hh, hl, c0, c1, c2, hb⟩
  have HC : Hid (∃ h l s : Int, U64 h ∧ U64 l ∧ w1.cell? ⟨w.heap.size, 0, none⟩ = some (.int .u64 h) ∧ w1.cell? ⟨w.heap.size, 1, none⟩ = some (.int .u64 l) ∧ w1.cell? ⟨w.heap.size, 2, none⟩ = some (.int .i64 s)) := ⟨h, l, s, hh, hl, c0, c1, c2⟩
  clear c0 c1 c2 hh hl hT
  go_wp2_with fail
  refine (usc_at _ _ w1 _ 0 (by first | exact u64_wrap _ | (unfold U64; omega)) HC.out rfl).mono ?_
  rintro r w2 ⟨⟨u1, rfl, hu1⟩, n1, rfl⟩
  go_wp2_with fail
  refine (nudge_any _ _ _).mono ?_
  rintro r w2 ⟨⟨u2, rfl, hu2⟩, rfl⟩
  go_wp2_with fail
  refine (ceil_any _ _).mono ?_
  rintro r w2 ⟨⟨dmin, rfl, hmin⟩, rfl⟩
  go_wp2_with fail
  refine (usc_at _ _ w1 _ n1 (by first | exact u64_wrap _ | (unfold U64; omega)) HC.out rfl).mono ?_
  rintro r w2 ⟨⟨u3, rfl, hu3⟩, n2, rfl⟩
  go_wp2_with fail
  refine (nudge_any _ _ _).mono ?_
  rintro r w2 ⟨⟨u4, rfl, hu4⟩, rfl⟩
  go_wp2_with fail
  refine (floor_any _ _).mono ?_
  rintro r w2 ⟨⟨dmax, rfl, hmax⟩, rfl⟩
  clear hu1 hu2 hu3 hu4
  obtain ⟨hmin0, hmin1⟩ := hmin
  obtain ⟨hmax0, hmax1⟩ := hmax
  go_wp2_with fail
  · go_ret2
    exact ⟨⟨_, _, rfl, by unfold U64; omega, by omega, by omega⟩, below_drewN hb _⟩
  · refine (usc_at _ _ w1 _ n2 (by first | exact u64_wrap _ | (unfold U64; omega)) HC.out rfl).mono ?_
    rintro r w2 ⟨⟨u5, rfl, hu5⟩, n3, rfl⟩
    go_wp2_with fail
    refine (round_any _ _).mono ?_
    rintro r w2 ⟨⟨d, rfl, hd⟩, rfl⟩
    go_wp2
    go_ret2
    exact ⟨⟨_, _, rfl, hd, by omega, by omega⟩, below_drewN hb _⟩
  · go_ret2
    exact ⟨⟨_, _, rfl, ⟨hmin0, hmin1⟩, by omega, by omega⟩, below_drewN hb _⟩

set_option maxHeartbeats 4000000 in
set_option maxRecDepth 100000 in
theorem short_norm (m e : Int) (w : World) (hm0 : 9223372036854775808 ≤ m) (hm1 : m ≤ 18446744073709551615) (hne : (m == 9223372036854775808) = false ∨ decide (-1085 < e) = false) (he0 : -1085 ≤ e) (he1 : e ≤ 960) (hT : P10 w) :
    Calls Tryd.prog 63 #[.int .u64 m, .int .i64 e] w fun r w' => shortE r ∧ Below w.heap.size w w' := by
  have b2 : decide (-1085 ≤ e) = true := decide_eq_true he0
  have hk : ∃ k : Bool, (m == 9223372036854775808) = k := ⟨_, rfl⟩
  obtain ⟨k, hk⟩ := hk
  cases k
  all_goals (try (rcases hne with hne | hne; · rw [hk] at hne; cases hne))
  all_goals
    go_enter Tryd.func63, Tryd.ntmps63
    go_wp2_with fail
    refine (l10_rng _ w (by omega) (by omega)).mono ?_
    rintro r w1 ⟨⟨q, rfl, hq0, hq1⟩, rfl⟩
    go_wp2_with fail
    refine (l2_rng _ _ (by omega) (by omega)).mono ?_
    rintro r w1 ⟨⟨lp, rfl, hl0, hl1⟩, rfl⟩
    go_wp2_with fail
    refine (prescale_any w e _ lp (348 - q).toNat (by omega) (by omega) (by omega) (by omega) hl0 hl1 hT).mono ?_
    rintro r w1 ⟨rfl, h, l, s, hh, hl, c0, c1, c2, hb⟩
    have HC : Hid (∃ h l s : Int, U64 h ∧ U64 l ∧ w1.cell? ⟨w.heap.size, 0, none⟩ = some (.int .u64 h) ∧ w1.cell? ⟨w.heap.size, 1, none⟩ = some (.int .u64 l) ∧ w1.cell? ⟨w.heap.size, 2, none⟩ = some (.int .i64 s)) := ⟨h, l, s, hh, hl, c0, c1, c2⟩
    clear c0 c1 c2 hh hl hT
    go_wp2_with fail
    refine (usc_at _ _ w1 _ 0 (by first | exact u64_wrap _ | (unfold U64; omega)) HC.out rfl).mono ?_
    rintro r w2 ⟨⟨u1, rfl, hu1⟩, n1, rfl⟩
    go_wp2_with fail
    refine (nudge_any _ _ _).mono ?_
    rintro r w2 ⟨⟨u2, rfl, hu2⟩, rfl⟩
    go_wp2_with fail
    refine (ceil_any _ _).mono ?_
    rintro r w2 ⟨⟨dmin, rfl, hmin⟩, rfl⟩
    go_wp2_with fail
    refine (usc_at _ _ w1 _ n1 (by first | exact u64_wrap _ | (unfold U64; omega)) HC.out rfl).mono ?_
    rintro r w2 ⟨⟨u3, rfl, hu3⟩, n2, rfl⟩
    go_wp2_with fail
    refine (nudge_any _ _ _).mono ?_
    rintro r w2 ⟨⟨u4, rfl, hu4⟩, rfl⟩
    go_wp2_with fail
    refine (floor_any _ _).mono ?_
    rintro r w2 ⟨⟨dmax, rfl, hmax⟩, rfl⟩
    clear hu1 hu2 hu3 hu4
    obtain ⟨hmin0, hmin1⟩ := hmin
    obtain ⟨hmax0, hmax1⟩ := hmax
    go_wp2_with fail
    · go_ret2
      exact ⟨⟨_, _, rfl, by unfold U64; omega, by omega, by omega⟩, below_drewN hb _⟩
    · refine (usc_at _ _ w1 _ n2 (by first | exact u64_wrap _ | (unfold U64; omega)) HC.out rfl).mono ?_
      rintro r w2 ⟨⟨u5, rfl, hu5⟩, n3, rfl⟩
      go_wp2_with fail
      refine (round_any _ _).mono ?_
      rintro r w2 ⟨⟨d, rfl, hd⟩, rfl⟩
      go_wp2
      go_ret2
      exact ⟨⟨_, _, rfl, hd, by omega, by omega⟩, below_drewN hb _⟩
    · go_ret2
      exact ⟨⟨_, _, rfl, ⟨hmin0, hmin1⟩, by omega, by omega⟩, below_drewN hb _⟩

set_option maxHeartbeats 4000000 in
set_option maxRecDepth 100000 in
theorem short_sub (m e : Int) (w : World) (hm0 : 9223372036854775808 ≤ m) (hm1 : m ≤ 18446744073709551615) (he0 : -1137 ≤ e) (he1 : e < -1085) (hT : P10 w) :
    Calls Tryd.prog 63 #[.int .u64 m, .int .i64 e] w fun r w' => shortE r ∧ Below w.heap.size w w' := by
  have b1 : decide (-1085 < e) = false := decide_eq_false (by omega)
  have b2 : decide (-1085 ≤ e) = false := decide_eq_false (by omega)
  obtain ⟨k, hk⟩ : ∃ k : Bool, (m == 9223372036854775808) = k := ⟨_, rfl⟩
  cases k
  all_goals
    go_enter Tryd.func63, Tryd.ntmps63
    go_wp2_with fail
    refine (l10_rng _ w (by omega) (by omega)).mono ?_
    rintro r w1 ⟨⟨q, rfl, hq0, hq1⟩, rfl⟩
    go_wp2_with fail
    refine (l2_rng _ _ (by omega) (by omega)).mono ?_
    rintro r w1 ⟨⟨lp, rfl, hl0, hl1⟩, rfl⟩
    go_wp2_with fail
    refine (prescale_any w e _ lp (348 - q).toNat (by omega) (by omega) (by omega) (by omega) hl0 hl1 hT).mono ?_
    rintro r w1 ⟨rfl, h, l, s, hh, hl, c0, c1, c2, hb⟩
    have HC : Hid (∃ h l s : Int, U64 h ∧ U64 l ∧ w1.cell? ⟨w.heap.size, 0, none⟩ = some (.int .u64 h) ∧ w1.cell? ⟨w.heap.size, 1, none⟩ = some (.int .u64 l) ∧ w1.cell? ⟨w.heap.size, 2, none⟩ = some (.int .i64 s)) := ⟨h, l, s, hh, hl, c0, c1, c2⟩
    clear c0 c1 c2 hh hl hT
    go_wp2_with fail
    refine (usc_at _ _ w1 _ 0 (by first | exact u64_wrap _ | (unfold U64; omega)) HC.out rfl).mono ?_
    rintro r w2 ⟨⟨u1, rfl, hu1⟩, n1, rfl⟩
    go_wp2_with fail
    refine (nudge_any _ _ _).mono ?_
    rintro r w2 ⟨⟨u2, rfl, hu2⟩, rfl⟩
    go_wp2_with fail
    refine (ceil_any _ _).mono ?_
    rintro r w2 ⟨⟨dmin, rfl, hmin⟩, rfl⟩
    go_wp2_with fail
    refine (usc_at _ _ w1 _ n1 (by first | exact u64_wrap _ | (unfold U64; omega)) HC.out rfl).mono ?_
    rintro r w2 ⟨⟨u3, rfl, hu3⟩, n2, rfl⟩
    go_wp2_with fail
    refine (nudge_any _ _ _).mono ?_
    rintro r w2 ⟨⟨u4, rfl, hu4⟩, rfl⟩
    go_wp2_with fail
    refine (floor_any _ _).mono ?_
    rintro r w2 ⟨⟨dmax, rfl, hmax⟩, rfl⟩
    clear hu1 hu2 hu3 hu4
    obtain ⟨hmin0, hmin1⟩ := hmin
    obtain ⟨hmax0, hmax1⟩ := hmax
    go_wp2_with fail
    · go_ret2
      exact ⟨⟨_, _, rfl, by unfold U64; omega, by omega, by omega⟩, below_drewN hb _⟩
    · refine (usc_at _ _ w1 _ n2 (by first | exact u64_wrap _ | (unfold U64; omega)) HC.out rfl).mono ?_
      rintro r w2 ⟨⟨u5, rfl, hu5⟩, n3, rfl⟩
      go_wp2_with fail
      refine (round_any _ _).mono ?_
      rintro r w2 ⟨⟨d, rfl, hd⟩, rfl⟩
      go_wp2
      go_ret2
      exact ⟨⟨_, _, rfl, hd, by omega, by omega⟩, below_drewN hb _⟩
    · go_ret2
      exact ⟨⟨_, _, rfl, ⟨hmin0, hmin1⟩, by omega, by omega⟩, below_drewN hb _⟩

theorem short_any (m e : Int) (w : World) (hm0 : 9223372036854775808 ≤ m) (hm1 : m ≤ 18446744073709551615) (he0 : -1137 ≤ e) (he1 : e ≤ 960) (hT : P10 w) :
    Calls Tryd.prog 63 #[.int .u64 m, .int .i64 e] w fun r w' => shortE r ∧ Below w.heap.size w w' := by
  by_cases h1 : e < -1085
  · exact short_sub m e w hm0 hm1 he0 h1 hT
  · by_cases h2 : m = 9223372036854775808
    · by_cases h3 : -1085 < e
      · subst h2; exact short_skew e w h3 he1 hT
      · exact short_norm m e w hm0 hm1 (Or.inr (decide_eq_false h3)) (by omega) he1 hT
    · exact short_norm m e w hm0 hm1 (Or.inl (beq_eq_false_iff_ne.2 h2)) (by omega) he1 hT
end Go.Proofs.YtegkdlimkgfheaaDoor
