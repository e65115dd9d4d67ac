/-
  Walks of the small functions below strconv's shortest form: what is answered lies in its range; its value is not asked.
-/
import Derived.Test.YtegkdlimkgfheaaDoorWe
import Derived.Test.YtegkdlimkgfheaaDoorSa
import Derived.Deep.QuietTactic
import Derived.BigQuiet
namespace Go.Proofs.YtegkdlimkgfheaaDoor
open Go.RowKit

/-- an integer of 64 bits without a sign -/
def U64 (d : Int) : Prop := 0 ≤ d ∧ d ≤ 18446744073709551615
theorem u64_wrap (x : Int) : U64 (IntKind.u64.wrap x) := by
  unfold U64; rw [IntKind.wrap_u64]; omega

theorem u64_div {x : Int} (h : U64 x) (k : Int) (hk : 1 ≤ k) : U64 (x / k) := by
  obtain ⟨h0, h1⟩ := h
  exact ⟨Int.ediv_nonneg h0 (by omega), Int.le_trans (Int.ediv_le_self k h0) h1⟩
theorem u64_div4 (x : Int) : U64 (IntKind.u64.wrap x / 4) := u64_div (u64_wrap x) 4 (by decide)

set_option maxHeartbeats 400000 in
theorem skewed_any (x : Int) (w : World) (h0 : -2000 ≤ x) (h1 : x ≤ 2000) :
    Calls Tryd.prog 76 #[.int .i64 x] w fun e w' => e = .returned (.int .i64 ((x * 631305 - 261663) / 2097152)) ∧ w = w' := by
  go_enter Tryd.func76, Tryd.ntmps76
  go_wp2
  go_ret
  exact ⟨by simp, rfl⟩
set_option maxHeartbeats 400000 in
theorem l10_any (x : Int) (w : World) (h0 : -2000 ≤ x) (h1 : x ≤ 2000) :
    Calls Tryd.prog 44 #[.int .i64 x] w fun e w' => e = .returned (.int .i64 (x * 78913 / 262144)) ∧ w = w' := by
  go_enter Tryd.func44, Tryd.ntmps44
  go_wp2
  go_ret
  exact ⟨by simp, rfl⟩
set_option maxHeartbeats 400000 in
theorem l2_any (x : Int) (w : World) (h0 : -2000 ≤ x) (h1 : x ≤ 2000) :
    Calls Tryd.prog 78 #[.int .i64 x] w fun e w' => e = .returned (.int .i64 (x * 108853 / 32768)) ∧ w = w' := by
  go_enter Tryd.func78, Tryd.ntmps78
  go_wp2
  go_ret
  exact ⟨by simp, rfl⟩
set_option maxHeartbeats 400000 in
theorem b2_any (b : Bool) (w : World) :
    Calls Tryd.prog 94 #[.bool b] w fun e w' => e = .returned (.int .u64 (if b then 1 else 0)) ∧ w = w' := by
  cases b
  all_goals
    go_enter Tryd.func94, Tryd.ntmps94
    go_wp2
    go_ret
    exact ⟨rfl, rfl⟩
set_option maxHeartbeats 400000 in
theorem nudge_any (u x : Int) (w : World) :
    Calls Tryd.prog 80 #[.int .u64 u, .int .i64 x] w fun e w' => (∃ d, e = .returned (.int .u64 d) ∧ U64 d) ∧ w = w' := by
  go_enter Tryd.func80, Tryd.ntmps80
  go_wp2
  go_ret
  exact ⟨⟨_, rfl, u64_wrap _⟩, rfl⟩
set_option maxHeartbeats 400000 in
theorem ceil_any (u : Int) (w : World) :
    Calls Tryd.prog 81 #[.int .u64 u] w fun e w' => (∃ d, e = .returned (.int .u64 d) ∧ U64 d) ∧ w = w' := by
  go_enter Tryd.func81, Tryd.ntmps81
  go_wp2
  go_ret
  exact ⟨⟨_, rfl, u64_div4 _⟩, rfl⟩
set_option maxHeartbeats 400000 in
theorem floor_any (u : Int) (w : World) :
    Calls Tryd.prog 82 #[.int .u64 u] w fun e w' => (∃ d, e = .returned (.int .u64 d) ∧ U64 d) ∧ w = w' := by
  go_enter Tryd.func82, Tryd.ntmps82
  go_wp2
  go_ret
  exact ⟨⟨_, rfl, u64_div4 _⟩, rfl⟩
set_option maxHeartbeats 400000 in
theorem round_any (u : Int) (w : World) :
    Calls Tryd.prog 83 #[.int .u64 u] w fun e w' => (∃ d, e = .returned (.int .u64 d) ∧ U64 d) ∧ w = w' := by
  go_enter Tryd.func83, Tryd.ntmps83
  go_wp2
  go_ret
  exact ⟨⟨_, rfl, u64_div4 _⟩, rfl⟩
end Go.Proofs.YtegkdlimkgfheaaDoor
