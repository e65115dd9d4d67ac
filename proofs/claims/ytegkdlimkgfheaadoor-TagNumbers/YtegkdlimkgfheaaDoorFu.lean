/-
  Walks of math.IsNaN and math.IsInf; which words are finite numbers.
-/
import Derived.Test.YtegkdlimkgfheaaDoorFq
namespace Go.Proofs.YtegkdlimkgfheaaDoor
open Go.RowKit

def nanB (X : Nat) : Bool := FloatKind.f64.format.order X X != some Ordering.eq
def infB (X : Nat) : Bool := FloatKind.f64.format.order (bits BinOp.andNot IntKind.u64 (X : Int) 9223372036854775808).toNat 9218868437227405311 == some Ordering.gt

set_option maxHeartbeats 1000000 in
theorem nan_any (X : Nat) (w : World) : Calls Tryd.prog 8 #[.float .f64 X] w fun e w' => e = .returned (.bool (nanB X)) ∧ w = w' := by
  go_enter Tryd.func8, Tryd.ntmps8
  go_wp2
  go_ret
  exact ⟨rfl, rfl⟩
set_option maxHeartbeats 1000000 in
theorem inf_any (X : Nat) (w : World) : Calls Tryd.prog 9 #[.float .f64 X, .int .i64 0] w fun e w' => e = .returned (.bool (infB X)) ∧ w = w' := by
  have hx : ∀ W, (callFunc 35 #[.float .f64 X]).run Tryd.prog W = .ok (.value (.int .u64 (X : Int))) W := fun W => by
    rw [run_callFunc_extern (e := Extern.MathFloatBits.float64bits) Tryd.func35 (by kernel_rfl) (by kernel_rfl) (by kernel_rfl) (by kernel_rfl)]; rfl
  have hy : ∀ W (n : Int), (callFunc 34 #[.int .u64 n]).run Tryd.prog W = .ok (.value (.float .f64 n.toNat)) W := fun W n => by
    rw [run_callFunc_extern (e := Extern.MathFloatBits.float64frombits) Tryd.func34 (by kernel_rfl) (by kernel_rfl) (by kernel_rfl) (by kernel_rfl)]; rfl
  have c : Calls Tryd.prog 21 #[.float .f64 X] w fun e w' => e = .returned (.float .f64 (bits BinOp.andNot IntKind.u64 (X : Int) 9223372036854775808).toNat) ∧ w = w' := by
    go_enter Tryd.func21, Tryd.ntmps21
    go_wp2
    go_ret
    exact ⟨rfl, rfl⟩
  clear hx hy
  unfold infB
  generalize (bits BinOp.andNot IntKind.u64 (X : Int) 9223372036854775808).toNat = Y at *
  go_enter Tryd.func9, Tryd.ntmps9
  go_wp2_with (go_at_call 21; refine c.mono ?_; rintro e w' ⟨rfl, rfl⟩)
  go_ret
  exact ⟨rfl, rfl⟩
theorem abs_eq (X : Nat) (hX : X < 18446744073709551616) : (bits BinOp.andNot IntKind.u64 (X : Int) 9223372036854775808).toNat = X % 9223372036854775808 := by
  have := u64_andNot_nat X 9223372036854775808 hX (by decide)
  have e : ((9223372036854775808 : Nat) : Int) = (9223372036854775808 : Int) := rfl
  rw [e] at this
  rw [this, Int.toNat_natCast, show (18446744073709551615 : Nat) - 9223372036854775808 = 2 ^ 63 - 1 by decide, Nat.and_two_pow_sub_one_eq_mod]
theorem sw : Ieee.double.signWeight = 9223372036854775808 := by decide
theorem bn : Ieee.double.binade = 4503599627370496 := by decide
theorem ir : Ieee.double.infRung = 9218868437227405312 := by decide
theorem read_max : ∃ m p, Ieee.double.read 9218868437227405311 = .number false m p := by
  unfold Ieee.Format.read
  rw [sw, bn, ir]
  exact ⟨_, _, rfl⟩
/-- a word that is no NaN and no infinity has no exponent of ones -/
theorem finite (X : Nat) (hX : X < 18446744073709551616) (h1 : nanB X = false) (h2 : infB X = false) : X / 4503599627370496 % 2048 ≠ 2047 := by
  intro he
  have hr : 9218868437227405312 ≤ X % 9223372036854775808 := by omega
  have hread : ∀ n, X % 9223372036854775808 = n → (n = 9218868437227405312 ∨ ∃ s t, Ieee.double.read X = .nan s t) := by
    intro n hn
    by_cases h : n = 9218868437227405312
    · exact Or.inl h
    · right
      unfold Ieee.Format.read
      simp only [sw, bn, ir, hn]
      rw [if_neg (by omega), if_neg (by omega), if_neg h]
      exact ⟨_, _, rfl⟩
  rcases hread _ rfl with h | ⟨s, t, h⟩
  · unfold infB at h2
    rw [abs_eq X hX, h] at h2
    obtain ⟨m, p, hm⟩ := read_max
    have hy : Ieee.double.read 9218868437227405312 = .infinity false := by
      unfold Ieee.Format.read
      simp only [sw, bn, ir]
      rfl
    have : FloatKind.f64.format.order 9218868437227405312 9218868437227405311 = some .gt := by
      show (Ieee.double.read 9218868437227405312).order (Ieee.double.read 9218868437227405311) = _
      rw [hy, hm]; rfl
    rw [this] at h2
    cases h2
  · unfold nanB at h1
    have : FloatKind.f64.format.order X X = none := by
      show (Ieee.double.read X).order (Ieee.double.read X) = _
      rw [h]; rfl
    rw [this] at h1
    cases h1
end Go.Proofs.YtegkdlimkgfheaaDoor
