/-
  Walks of strconv's numDigits and setDigits.
-/
import Derived.Test.YtegkdlimkgfheaaDoorFd
import Derived.Lib.OthersKept
import Derived.Lib.RuneBytes
import Derived.Lib.ItoaLen
namespace Go.Proofs.YtegkdlimkgfheaaDoor
open Go.RowKit Go.Sort

/-- a table of the library's and its first cell -/
structure T10 (w : World) : Prop where
  tab : Lib.TabIs Tryd.prog w "internal/strconv.uint64pow10" .u64 Lib.pow10Tab
  one : w.cell? ⟨1, 0, none⟩ = some (.int .u64 1)

set_option maxHeartbeats 1000000 in
theorem nd_zero (w : World) (h1 : w.cell? ⟨1, 0, none⟩ = some (.int .u64 1)) :
    Calls Tryd.prog 27 #[.int .u64 0] w fun e w' => e = .returned (.int .i64 0) ∧ w = w' := by
  have cL : Calls Tryd.prog 45 #[.int .u64 0] w fun e w' => e = .returned (.int .i64 0) ∧ w = w' := by
    refine (Tryd.bits_Len64 0 w (by decide) (by decide)).mono ?_
    rintro e w' ⟨rfl, rfl⟩
    exact ⟨rfl, rfl⟩
  have cP : Calls Tryd.prog 44 #[.int .i64 0] w fun e w' => e = .returned (.int .i64 0) ∧ w = w' := by
    refine (l10_any 0 w (by decide) (by decide)).mono ?_
    rintro e w' ⟨rfl, rfl⟩
    exact ⟨rfl, rfl⟩
  have cB : Calls Tryd.prog 46 #[.bool false] w fun e w' => e = .returned (.int .i64 0) ∧ w = w' := by
    refine (Tryd.internal_strconv_bool2_int false w).mono ?_
    rintro e w' ⟨rfl, rfl⟩
    exact ⟨rfl, rfl⟩
  go_enter Tryd.func27, Tryd.ntmps27
  go_wp2_with fail
  refine cL.mono ?_
  rintro e w1 ⟨rfl, rfl⟩
  go_wp2_with fail
  refine cP.mono ?_
  rintro e w1 ⟨rfl, rfl⟩
  go_wp2_with fail
  refine cB.mono ?_
  rintro e w1 ⟨rfl, rfl⟩
  go_wp2
  go_ret
  exact ⟨rfl, rfl⟩
theorem nd_any (d : Int) (hd : U64 d) (w : World) (hT : T10 w) :
    Calls Tryd.prog 27 #[.int .u64 d] w fun e w' => (∃ nd : Nat, e = .returned (.int .i64 nd) ∧ nd ≤ 20 ∧ d.toNat < 10 ^ nd) ∧ w = w' := by
  obtain ⟨d, rfl⟩ := Int.eq_ofNat_of_zero_le hd.1
  have h2 : d < 18446744073709551616 := by have := hd.2; omega
  by_cases h0 : d = 0
  · subst h0
    refine (nd_zero w hT.one).mono ?_
    rintro e w' ⟨rfl, rfl⟩
    exact ⟨⟨0, rfl, by decide, by decide⟩, rfl⟩
  · refine (Tryd.internal_strconv_numDigits d (by omega) h2 w hT.tab).mono ?_
    rintro e w' ⟨rfl, rfl⟩
    exact ⟨⟨_, rfl, Lib.nDigits_le20 d h2, by rw [Int.toNat_natCast]; exact Lib.lt_pow_nDigits d⟩, rfl⟩

abbrev encB : UInt8 → Value := fun (b : UInt8) => Value.int .u8 (b.toNat : Int)
/-- a row of 32 bytes, the first ones of which are digits -/
def Dig (w : World) (b nd : Nat) : Prop :=
  (∃ cs fz, w.heap[b]? = some (.cells cs 74 fz)) ∧ ∀ j : Nat, j < nd → ∃ c : UInt8, Tg.dg 10 c = true ∧ w.cell? ⟨b, j, none⟩ = some (.int .u8 (c.toNat : Int))
theorem dg_digit (u j : Nat) : Tg.dg 10 (Lib.dg u j) = true := by
  have h : u / 10 ^ j % 10 < 10 := Nat.mod_lt _ (by decide)
  unfold Lib.dg
  generalize u / 10 ^ j % 10 = x at h
  have : x = 0 ∨ x = 1 ∨ x = 2 ∨ x = 3 ∨ x = 4 ∨ x = 5 ∨ x = 6 ∨ x = 7 ∨ x = 8 ∨ x = 9 := by omega
  rcases this with rfl | rfl | rfl | rfl | rfl | rfl | rfl | rfl | rfl | rfl <;> decide

theorem putRow_block (w : World) (b : Nat) (dk : Array UInt8) (cs : Array Value) (t : TypeId) (fz : Nat × Nat) (h : w.heap[b]? = some (.cells cs t fz)) :
    (putRow encB w b 0 dk).heap[b]? = some (.cells (putCells encB 0 dk cs) t fz) := by
  unfold putRow mapBlock
  simp [Array.getElem?_modify, h, onCells]
theorem putRow_past (w : World) (b : Nat) (dk : Array UInt8) (k : Nat) (h : k < b) : (putRow encB w b 0 dk).heap[k]? = w.heap[k]? := by
  unfold putRow mapBlock
  simp [Array.getElem?_modify]
  intro e; omega

set_option maxHeartbeats 2000000 in
set_option maxRecDepth 100000 in
theorem setDigits_any (b : Nat) (d p : Int) (nd : Nat) (w : World) (hd : U64 d) (hn : nd ≤ 20) (hlt : d.toNat < 10 ^ nd) (hp0 : -1000 ≤ p) (hp1 : p ≤ 1000)
    (hH : Holds encB w b 0 (Array.replicate nd (0 : UInt8))) (hB : ∃ cs fz, w.heap[b]? = some (.cells cs 74 fz)) :
    Calls Tryd.prog 58 #[.slice (some ⟨b, 0, none⟩) 32 32, .int .u64 d, .int .i64 p, .int .i64 nd] w fun e w' =>
      (∃ k : Nat, e = .returned (.tuple #[.int .i64 ((nd : Int) + p), .int .i64 k]) ∧ k ≤ nd ∧ Dig w' b k) ∧ Below b w w' ∧ w'.heap.size = w.heap.size := by
  obtain ⟨d, rfl⟩ := Int.eq_ofNat_of_zero_le hd.1
  have h2 : d < 18446744073709551616 := by have := hd.2; omega
  rw [Int.toNat_natCast] at hlt
  have cF := Tryd.internal_strconv_formatBase10 b 0 32 d (Array.replicate nd (0 : UInt8)) w hH (by simpa using hlt) h2 (by simp; omega)
  rw [Array.size_replicate] at cF
  have b0 : decide ((nd : Int) ≤ 32) = true := decide_eq_true (by omega)
  have hHH := Lib.hid hH
  have hBB := Lib.hid hB
  clear hH hB hlt hd
  go_enter Tryd.func58, Tryd.ntmps58
  go_wp2_with fail
  refine cF.mono ?_
  rintro e w1 ⟨rfl, n, v', dk, hw1, hinv⟩
  have hsz : dk.size = nd := hinv.size
  have HDig : Hid (∀ k : Nat, k ≤ nd → Dig w1 b k) := by
    show ∀ k : Nat, k ≤ nd → Dig w1 b k
    intro k hk
    subst hw1
    refine ⟨?_, ?_⟩
    · obtain ⟨cs, fz, hb⟩ := hBB.out
      exact ⟨_, fz, putRow_block w b dk cs _ fz hb⟩
    · intro j hj
      refine ⟨dk[j]!, ?_, ?_⟩
      · rw [hinv.done j (by omega) (by omega)]; exact dg_digit _ _
      · have := cell?_putRow encB w b 0 (Array.replicate nd (0 : UInt8)) dk hHH.out (by rw [hsz]; simp) j (by omega)
        rw [Nat.zero_add] at this
        exact this
  have hbel : Below b w w1 := by
    subst hw1
    exact ⟨rfl, rfl, rfl, by simp, fun k hk => putRow_past w b dk k hk⟩
  have hsize : w1.heap.size = w.heap.size := by subst hw1; simp
  clear cF hinv hw1 hHH hBB hsz
  go_wp2
  go_loop [3] (fun i => ∃ k : Nat, k ≤ nd ∧ i = .int .i64 k) (fun i => (intOf i).toNat)
  case atStart => exact ⟨nd, Nat.le_refl _, rfl⟩
  case round =>
    obtain ⟨k, hk, rfl⟩ := hrel
    by_cases h0 : k = 0
    · subst h0
      go_wp2
      go_ret2
      exact ⟨⟨0, rfl, by omega, HDig.out 0 (by omega)⟩, hbel, hsize⟩
    · obtain ⟨c, hc, hcell⟩ := (HDig.out k hk).2 (k - 1) (by omega)
      have z1 : ((k : Int) - 1).toNat = k - 1 := by omega
      have z2 : k - 1 < 32 := by omega
      have z3 : (0 : Int) ≤ (k : Int) - 1 := by omega
      have z4 : 0 < k := by omega
      by_cases h48 : (c.toNat : Int) = 48
      · have b1 : ((c.toNat : Int) == 48) = true := beq_iff_eq.2 h48
        clear h48 hc
        go_wp2
        go_round
        case rel => exact ⟨k - 1, by omega, by go_num⟩
        case measure => simp [intOf]; omega
      · have b1 : ((c.toNat : Int) == 48) = false := beq_eq_false_iff_ne.2 h48
        clear h48 hc
        go_wp2
        go_ret2
        exact ⟨⟨k, rfl, hk, HDig.out k hk⟩, hbel, hsize⟩
end Go.Proofs.YtegkdlimkgfheaaDoor
