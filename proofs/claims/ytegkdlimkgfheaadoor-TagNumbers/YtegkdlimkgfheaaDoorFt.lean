/-
  Walks of strconv's ftoa64 and FormatFloat at the shortest form, for every finite number.
-/
import Derived.Test.YtegkdlimkgfheaaDoorFs
namespace Go.Proofs.YtegkdlimkgfheaaDoor
open Go.RowKit Go.Sort

theorem andE (X : Nat) (hX : X < 18446744073709551616) : bits BinOp.and IntKind.i64 ((X : Int) / 4503599627370496) 2047 = ((X / 4503599627370496 % 2048 : Nat) : Int) := by
  have e63 : (2 : Int) ^ 63 = 9223372036854775808 := by decide
  have hb := bits_mask .i64 63 (by decide) (fun n h0 h1 => IntWalk.i64_in n (by rw [e63] at h1; omega)) 11 (by decide) ((X : Int) / 4503599627370496) (by omega) (by rw [e63]; omega)
  have e : (2 : Int) ^ 11 = 2048 := by decide
  have e' : (2048 : Int) - 1 = 2047 := by decide
  rw [e, e'] at hb
  rw [hb]
  omega
theorem andM (X : Nat) (hX : X < 18446744073709551616) : bits BinOp.and IntKind.u64 (X : Int) 4503599627370495 = ((X % 4503599627370496 : Nat) : Int) := by
  have := u64_and_nat X 4503599627370495 hX (by decide)
  have e : ((4503599627370495 : Nat) : Int) = (4503599627370495 : Int) := rfl
  rw [e] at this
  rw [this, show (4503599627370495 : Nat) = 2 ^ 52 - 1 by decide, Nat.and_two_pow_sub_one_eq_mod]
theorem orM (M : Nat) (hM : M < 4503599627370496) : bits BinOp.or IntKind.u64 (M : Int) 4503599627370496 = ((M + 4503599627370496 : Nat) : Int) := by
  have := u64_or_nat M 4503599627370496 (by omega) (by decide)
  have e : ((4503599627370496 : Nat) : Int) = (4503599627370496 : Int) := rfl
  rw [e] at this
  rw [this]
  congr 1
  have h := Nat.two_pow_add_eq_or_of_lt (i := 52) (b := M) (by omega) 1
  rw [Nat.or_comm, show (4503599627370496 : Nat) = 2 ^ 52 * 1 by decide, ← h]
  omega

set_option maxHeartbeats 4000000 in
set_option maxRecDepth 100000 in
theorem ftoa_zero (B : Nat) (v : Value) (X : Nat) (C : Int) (w : World) (hst : St w B 0 w v []) (hC : C = 101 ∨ C = 102 ∨ C = 103 ∨ C = 69) (hX : X < 18446744073709551616)
   (hA : bits BinOp.and IntKind.i64 ((X : Int) / 4503599627370496) 2047 = 0) (hM : bits BinOp.and IntKind.u64 (X : Int) 4503599627370495 = 0) :
    Calls Tryd.prog 37 #[v, .float .f64 X, .int .u8 C, .int .i64 (-1)] w fun e w' => OutE B w e w' := by
  have hx : ∀ W, (callFunc 53 #[.float .f64 X]).run Tryd.prog W = .ok (.value (.int .u64 (X : Int))) W := fun W => by
    rw [run_callFunc_extern (e := Extern.MathFloatBits.float64bits) Tryd.func53 (by kernel_rfl) (by kernel_rfl) (by kernel_rfl) (by kernel_rfl)]; rfl
  have HF := Lib.hid (fun n neg => fmt_zero B v neg C (w.drewN n) ⟨hst.1, Kept.refl _ _, hst.2.2.1, hst.2.2.2⟩ hC)
  have HST := Lib.hid hst
  clear hst
  rcases hC with rfl | rfl | rfl | rfl
  all_goals
    go_enter Tryd.func37, Tryd.ntmps37
    go_wp2
    go_quiet (fail)
    go_wp2_with (go_at_call 56; refine (HF.out _ _).mono ?_; rintro e w5 ⟨v5, o5, rfl, h5⟩)
    go_ret
    exact (OutE.lift ⟨_, _, rfl, h5⟩ (kept_new (below_drewN (Below.refl _ w) _) HST.out.2.2.1) : OutE B w _ _)

/-- ftoa64, for every finite number -/
theorem ftoa_any (B : Nat) (v : Value) (X : Nat) (C : Int) (w : World) (hst : St w B 0 w v []) (hC : C = 101 ∨ C = 102 ∨ C = 103 ∨ C = 69) (hX : X < 18446744073709551616) (hfin : X / 4503599627370496 % 2048 ≠ 2047) (hE : Env w) (hvb : ∀ g, v.ownBlock = some g → g < w.heap.size) :
    Calls Tryd.prog 37 #[v, .float .f64 X, .int .u8 C, .int .i64 (-1)] w fun e w' => OutE B w e w' := by
  have hA := andE X hX
  have hM := andM X hX
  have hml : X % 4503599627370496 < 4503599627370496 := Nat.mod_lt _ (by decide)
  have hel : X / 4503599627370496 % 2048 < 2048 := Nat.mod_lt _ (by decide)
  generalize X / 4503599627370496 % 2048 = EX at *
  generalize X % 4503599627370496 = M at *
  by_cases h0 : EX = 0
  · subst h0
    by_cases hm : M = 0
    · subst hm
      exact ftoa_zero B v X C w hst hC hX hA hM
    · rcases hC with rfl | rfl | rfl | rfl
      · exact ftoa_sub101 B v X M w hst hX hA hM (by omega) hml hE hvb
      · exact ftoa_sub102 B v X M w hst hX hA hM (by omega) hml hE hvb
      · exact ftoa_sub103 B v X M w hst hX hA hM (by omega) hml hE hvb
      · exact ftoa_sub69 B v X M w hst hX hA hM (by omega) hml hE hvb
  · have hO := orM M hml
    rcases hC with rfl | rfl | rfl | rfl
    · exact ftoa_norm101 B v X EX M _ w hst hX hA (by omega) (by omega) hM hO (by omega) (by omega) hE hvb
    · exact ftoa_norm102 B v X EX M _ w hst hX hA (by omega) (by omega) hM hO (by omega) (by omega) hE hvb
    · exact ftoa_norm103 B v X EX M _ w hst hX hA (by omega) (by omega) hM hO (by omega) (by omega) hE hvb
    · exact ftoa_norm69 B v X EX M _ w hst hX hA (by omega) (by omega) hM hO (by omega) (by omega) hE hvb
end Go.Proofs.YtegkdlimkgfheaaDoor
