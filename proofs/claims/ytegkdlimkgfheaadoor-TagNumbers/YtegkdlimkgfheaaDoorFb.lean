/-
  Walk of strconv's uscale: what is answered lies in its range; its value is not asked.
-/
import Derived.Test.YtegkdlimkgfheaaDoorFa
import Derived.Laws.BitsLemmas
namespace Go.Proofs.YtegkdlimkgfheaaDoor
open Go.RowKit

theorem i64_and63 (n : Int) : bits .and .i64 n 63 = n % 64 := by
  have h127 : (BitVec.ofInt 64 63).toNat = 2 ^ 6 - 1 := by decide
  have key : (BitVec.ofInt 64 n &&& BitVec.ofInt 64 63).toNat = (n % ((2 ^ 64 : Nat) : Int)).toNat % 2 ^ 6 := by
    rw [BitVec.toNat_and, BitVec.toNat_ofInt, h127, Nat.and_two_pow_sub_one_eq_mod]
  show IntKind.i64.wrap ((BitVec.ofInt 64 n &&& BitVec.ofInt 64 63).toNat : Nat) = n % 64
  rw [key, IntKind.wrap_i64]
  omega
theorem u64_or (a b : Int) : U64 (bits .or .u64 a b) := by
  show U64 (IntKind.u64.wrap _); exact u64_wrap _
theorem mul_any (x y : Int) (w : World) (hx : U64 x) (hy : U64 y) :
    Calls Tryd.prog 93 #[.int .u64 x, .int .u64 y] w fun e w' => (∃ a b, e = .returned (.tuple #[.int .u64 a, .int .u64 b]) ∧ U64 a ∧ U64 b) ∧ w = w' := by
  obtain ⟨x, rfl⟩ := Int.eq_ofNat_of_zero_le hx.1
  obtain ⟨y, rfl⟩ := Int.eq_ofNat_of_zero_le hy.1
  have hx1 : x < 18446744073709551616 := by have := hx.2; omega
  have hy1 : y < 18446744073709551616 := by have := hy.2; omega
  refine (Tryd.bits_Mul64 x y hx1 hy1 w).mono ?_
  rintro e w' ⟨rfl, rfl⟩
  refine ⟨⟨_, _, rfl, ?_, ?_⟩, rfl⟩
  · have : x * y / 18446744073709551616 < 18446744073709551616 := by
      rw [Nat.div_lt_iff_lt_mul (by decide)]
      exact Nat.mul_lt_mul'' hx1 hy1
    constructor <;> omega
  · have := Nat.mod_lt (x * y) (show 0 < 18446744073709551616 by decide)
    constructor <;> omega
/-- a quiet call whose contract leaves the world as it was -/
theorem quiet_same {P : Program} {f : FuncId} {args : Array Value} {w : World} {n : Nat} {v : Value}
    (h : Calls P f args (w.drewN n) fun e w' => e = .returned v ∧ w.drewN n = w') :
    Calls P f args (w.drewN n) fun e w'' => e = .returned v ∧ ∃ m, w'' = w.drewN m :=
  h.mono fun _ _ ⟨he, hm⟩ => ⟨he, n, hm.symm⟩

set_option maxHeartbeats 2000000 in
set_option maxRecDepth 100000 in
theorem uscale_any (x hi lo s : Int) (b : Nat) (w : World) (hx : U64 x) (hhi : U64 hi) (hlo : U64 lo)
    (c0 : w.cell? ⟨b, 0, none⟩ = some (.int .u64 hi)) (c1 : w.cell? ⟨b, 1, none⟩ = some (.int .u64 lo)) (c2 : w.cell? ⟨b, 2, none⟩ = some (.int .i64 s)) :
    Calls Tryd.prog 79 #[.int .u64 x, .pointer (some ⟨b, 0, none⟩)] w fun e w' => (∃ d, e = .returned (.int .u64 d) ∧ U64 d) ∧ ∃ n, w' = w.drewN n := by
  obtain ⟨t, ht⟩ : ∃ t, bits .and .i64 s 63 = t := ⟨_, rfl⟩
  have ht0 : 0 ≤ t := by rw [← ht, i64_and63]; omega
  have ht1 : t < 64 := by rw [← ht, i64_and63]; omega
  have M1 := Lib.hid (fun w1 => mul_any x hi w1 hx hhi)
  have M2 := Lib.hid (fun w1 => mul_any x lo w1 hx hlo)
  obtain ⟨hx0, hx1⟩ := hx
  clear hhi hlo
  go_enter Tryd.func79, Tryd.ntmps79
  go_wp2_with fail
  refine (M1.out _).mono ?_
  rintro e w1 ⟨⟨A, B, rfl, ⟨hA0, hA1⟩, ⟨hB0, hB1⟩⟩, rfl⟩
  go_wp2_with fail
  · go_ret
    exact ⟨⟨_, rfl, u64_or _ _⟩, 0, rfl⟩
  · refine (M2.out _).mono ?_
    rintro e w1 ⟨⟨C, D, rfl, ⟨hC0, hC1⟩, ⟨hD0, hD1⟩⟩, rfl⟩
    go_wp2_with (go_at_call 94; refine (b2_any _ _).mono ?_; rintro e w1 ⟨rfl, rfl⟩)
    all_goals go_quiet ((go_at_call 94; exact quiet_same (b2_any _ _)))
    all_goals go_wp2
    all_goals go_ret
    all_goals exact ⟨⟨_, rfl, u64_or _ _⟩, _, rfl⟩
end Go.Proofs.YtegkdlimkgfheaaDoor
