/-
  Walk of strconv's ftoa64 at the shortest form: a first part.
-/
import Derived.Test.YtegkdlimkgfheaaDoorFp
import Derived.Laws.BitsAllLaws
import Derived.Deep.RegionWith
namespace Go.Proofs.YtegkdlimkgfheaaDoor
open Go.RowKit Go.Sort

theorem bitLen_ge (m : Nat) (h1 : 1 ≤ m) (h2 : m < 2 ^ 64) : 2 ^ (Lib.bitLen m - 1) ≤ m ∧ m < 2 ^ Lib.bitLen m ∧ 1 ≤ Lib.bitLen m := by
  have key : ∀ k, 2 ^ k ≤ m → m < 2 ^ (k + 1) → Lib.bitLen m = k + 1 := by
    intro k hk hk2
    rw [Lib.bitLen_shift k m hk h2]
    have : m / 2 ^ k = 1 := by
      apply Nat.div_eq_of_lt_le
      · omega
      · rw [Nat.pow_succ] at hk2; omega
    rw [this]; rfl
  obtain ⟨k, hk, hk2⟩ : ∃ k, 2 ^ k ≤ m ∧ m < 2 ^ (k + 1) := ⟨m.log2, Nat.log2_self_le (by omega), Nat.lt_log2_self⟩
  rw [key k hk hk2]
  exact ⟨by simpa using hk, hk2, by omega⟩
theorem len_any (m : Nat) (w : World) (h1 : 1 ≤ m) (h2 : m < 9007199254740992) :
    Calls Tryd.prog 45 #[.int .u64 (m : Int)] w fun e w' => (∃ L : Nat, e = .returned (.int .i64 (L : Int)) ∧ 1 ≤ L ∧ L ≤ 53 ∧ 2 ^ (L - 1) ≤ m ∧ m < 2 ^ L) ∧ w = w' := by
  refine (Tryd.bits_Len64 m w (by omega) (by omega)).mono ?_
  rintro e w' ⟨rfl, rfl⟩
  have hb := bitLen_ge m h1 (by omega)
  rw [Int.toNat_natCast]
  refine ⟨⟨_, rfl, hb.2.2, ?_, hb.1, hb.2.1⟩, rfl⟩
  rcases Nat.lt_or_ge 53 (Lib.bitLen m) with h | h
  · exfalso
    have : 2 ^ 53 ≤ 2 ^ (Lib.bitLen m - 1) := Nat.pow_le_pow_right (by decide) (by omega)
    have e : (2 : Nat) ^ 53 = 9007199254740992 := by decide
    have := hb.1
    omega
  · exact h
theorem shl_bounds (m L : Nat) (hL1 : 1 ≤ L) (hL2 : L ≤ 53) (h3 : 2 ^ (L - 1) ≤ m) (h4 : m < 2 ^ L) : 9223372036854775808 ≤ IntKind.u64.wrap ((m : Int) * 2 ^ (64 - L)) ∧ IntKind.u64.wrap ((m : Int) * 2 ^ (64 - L)) ≤ 18446744073709551615 := by
  have e : (m : Int) * 2 ^ (64 - L) = ((m * 2 ^ (64 - L) : Nat) : Int) := by simp
  have hlo : 2 ^ 63 ≤ m * 2 ^ (64 - L) := by
    have : 2 ^ (L - 1) * 2 ^ (64 - L) ≤ m * 2 ^ (64 - L) := Nat.mul_le_mul_right _ h3
    rw [← Nat.pow_add] at this
    rw [show L - 1 + (64 - L) = 63 by omega] at this
    exact this
  have hhi : m * 2 ^ (64 - L) < 2 ^ 64 := by
    have : m * 2 ^ (64 - L) < 2 ^ L * 2 ^ (64 - L) := Nat.mul_lt_mul_of_pos_right h4 (Nat.pow_pos (by decide))
    rw [← Nat.pow_add] at this
    rw [show L + (64 - L) = 64 by omega] at this
    exact this
  have e63 : (2 : Nat) ^ 63 = 9223372036854775808 := by decide
  have e64 : (2 : Nat) ^ 64 = 18446744073709551616 := by decide
  rw [e, IntWalk.u64_in _ ⟨by omega, by omega⟩]
  omega
/-- the row of digits, as it lies before they are set -/
theorem buf_ready {w W w2 : World} {nd : Nat} {Z : Array Value} (hZ : Z = Array.replicate 32 (Value.int .u8 0)) (hW : W = w.alloc (.cells Z 74)) (hb : Below W.heap.size W w2) (hn : nd ≤ 32) :
    Holds encB w2 w.heap.size 0 (Array.replicate nd (0 : UInt8)) ∧ ∃ cs fz, w2.heap[w.heap.size]? = some (.cells cs 74 fz) := by
  subst hW
  have hlt : w.heap.size < (w.alloc (.cells Z 74)).heap.size := by rw [World.size_alloc]; omega
  have h0 := zero_holds w 74 Z 32 nd hZ hn
  refine ⟨fun j hj => ?_, ?_⟩
  · obtain ⟨a, b⟩ := h0 j hj
    exact ⟨(hb.cell (p := ⟨w.heap.size, 0 + j, none⟩) hlt).trans a, (hb.frozen (p := ⟨w.heap.size, 0 + j, none⟩) hlt).trans b⟩
  · exact ⟨Z, (0, 0), (hb.block _ hlt).trans (by simp [World.alloc, -World.alloc_eq])⟩
end Go.Proofs.YtegkdlimkgfheaaDoor
