/-
  Walks of the small functions: isCharacter, May, digit.
-/
import Derived.Test.YtbimjdlkffbncaaDoorProg
import Derived.Test.YtbimjdlkffbncaaDoorMa
import Derived.WalkKit
import Derived.WalkSpells
import Derived.WalkLawsBesides
import Derived.Lib.Hide
namespace Go.Proofs.YtbimjdlkffbncaaDoor
open Go.RowKit

theorem ret_bool {a b : Bool} (h : a = b) : Ending.returned (.bool a) = .returned (.bool b) := by rw [h]
theorem ret_int {k : IntKind} {a b : Int} (h : a = b) : Ending.returned (.int k a) = .returned (.int k b) := by rw [h]
theorem ret_ib {k : IntKind} {a b : Int} {x y : Bool} (h : a = b) (h' : x = y) : Ending.returned (.tuple #[.int k a, .bool x]) = .returned (.tuple #[.int k b, .bool y]) := by rw [h, h']
theorem ret_ii {k k' : IntKind} {a b x y : Int} (h : a = b) (h' : x = y) : Ending.returned (.tuple #[.int k a, .int k' x]) = .returned (.tuple #[.int k b, .int k' y]) := by rw [h, h']

def charB (n : Int) : Bool := decide (n < 55296) || (decide (57343 < n) && decide (n ≤ 1114111))

set_option maxHeartbeats 400000 in
theorem isChar_any (n : Int) (w : World) :
    Calls Tryd.prog 141 #[.int .u32 n] w fun e w' => e = .returned (.bool (charB n)) ∧ w = w' := by
  by_cases h1 : n < 55296
  · go_enter Tryd.func141, Tryd.ntmps141
    go_wp2
    go_ret
    exact ⟨ret_bool (by unfold charB; rw [Bool.eq_iff_iff]; simp; omega), rfl⟩
  · by_cases h2 : 57343 < n
    · go_enter Tryd.func141, Tryd.ntmps141
      go_wp2
      go_ret
      exact ⟨ret_bool (by unfold charB; rw [Bool.eq_iff_iff]; simp; omega), rfl⟩
    · go_enter Tryd.func141, Tryd.ntmps141
      go_wp2
      go_ret
      exact ⟨ret_bool (by unfold charB; rw [Bool.eq_iff_iff]; simp; omega), rfl⟩

set_option maxHeartbeats 400000 in
theorem may_any (r : Int) (w : World) :
    Calls Tryd.prog 130 #[.int .i32 r] w fun e w' => e = .returned (.bool (Sc.mayB r)) ∧ w = w' := by
  go_enter Tryd.func130, Tryd.ntmps130
  go_wp2_with (go_at_call 141; refine (isChar_any _ _).mono ?_; rintro e w' ⟨rfl, rfl⟩)
  all_goals go_ret
  all_goals exact ⟨ret_bool (by unfold Sc.mayB; rw [Bool.eq_iff_iff]; simp [charB] at *; omega), rfl⟩

end Go.Proofs.YtbimjdlkffbncaaDoor
