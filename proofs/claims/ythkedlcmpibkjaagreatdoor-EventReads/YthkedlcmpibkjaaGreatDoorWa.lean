/-
  Walks of the small functions: isCharacter, May, digit.
-/
import Derived.Test.YthkedlcmpibkjaaGreatDoorProg
import Derived.Test.YthkedlcmpibkjaaGreatDoorMa
import Derived.WalkKit
import Derived.WalkSpells
import Derived.WalkLawsBesides
import Derived.Lib.Hide
namespace Go.Proofs.YthkedlcmpibkjaaGreatDoor
open Go.RowKit

theorem ret_bool {a b : Bool} (h : a = b) : Ending.returned (.bool a) = .returned (.bool b) := by rw [h]
theorem ret_int {k : IntKind} {a b : Int} (h : a = b) : Ending.returned (.int k a) = .returned (.int k b) := by rw [h]
theorem ret_ib {k : IntKind} {a b : Int} {x y : Bool} (h : a = b) (h' : x = y) : Ending.returned (.tuple #[.int k a, .bool x]) = .returned (.tuple #[.int k b, .bool y]) := by rw [h, h']
theorem ret_ii {k k' : IntKind} {a b x y : Int} (h : a = b) (h' : x = y) : Ending.returned (.tuple #[.int k a, .int k' x]) = .returned (.tuple #[.int k b, .int k' y]) := by rw [h, h']

def charB (n : Int) : Bool := decide (n < 55296) || (decide (57343 < n) && decide (n ≤ 1114111))

set_option maxHeartbeats 400000 in
theorem isChar_any (n : Int) (w : World) :
    Calls Tryz.prog 100 #[.int .u32 n] w fun e w' => e = .returned (.bool (charB n)) ∧ w = w' := by
  by_cases h1 : n < 55296
  · go_enter Tryz.func100, Tryz.ntmps100
    go_wp2
    go_ret
    exact ⟨ret_bool (by unfold charB; rw [Bool.eq_iff_iff]; simp; omega), rfl⟩
  · by_cases h2 : 57343 < n
    · go_enter Tryz.func100, Tryz.ntmps100
      go_wp2
      go_ret
      exact ⟨ret_bool (by unfold charB; rw [Bool.eq_iff_iff]; simp; omega), rfl⟩
    · go_enter Tryz.func100, Tryz.ntmps100
      go_wp2
      go_ret
      exact ⟨ret_bool (by unfold charB; rw [Bool.eq_iff_iff]; simp; omega), rfl⟩

set_option maxHeartbeats 400000 in
theorem may_any (r : Int) (w : World) :
    Calls Tryz.prog 83 #[.int .i32 r] w fun e w' => e = .returned (.bool (Sc.mayB r)) ∧ w = w' := by
  go_enter Tryz.func83, Tryz.ntmps83
  go_wp2_with (go_at_call 100; refine (isChar_any _ _).mono ?_; rintro e w' ⟨rfl, rfl⟩)
  all_goals go_ret
  all_goals exact ⟨ret_bool (by unfold Sc.mayB; rw [Bool.eq_iff_iff]; simp [charB] at *; omega), rfl⟩

set_option maxHeartbeats 400000 in
theorem digit_any (b : UInt8) (w : World) :
    Calls Tryz.prog 101 #[.int .u8 b.toNat] w fun e w' => e = .returned (.tuple #[.int .u32 ((Sc.digB b).getD 0), .bool (Sc.digB b).isSome]) ∧ w = w' := by
  have hb := b.toNat_lt
  go_enter Tryz.func101, Tryz.ntmps101
  go_wp2
  all_goals go_ret2
  all_goals exact ⟨ret_ib (by unfold Sc.digB; (repeat' split) <;> simp <;> omega) (by unfold Sc.digB; (repeat' split) <;> simp <;> omega), rfl⟩
end Go.Proofs.YthkedlcmpibkjaaGreatDoor
