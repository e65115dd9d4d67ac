/-
  Walks of strconv's formatBits and FormatUint at the bases 16 and 8.
-/
import Derived.Test.YtegkdlimkgfheaaDoorFf
import Derived.Laws.BitsAllLaws
namespace Go.Proofs.YtegkdlimkgfheaaDoor
open Go.RowKit Go.Sort

theorem holds_set {w : World} {b i : Nat} {D : Array UInt8} (x : UInt8) (h : Holds encB w b 0 D) (hi : i < D.size) : Holds encB (w.setCell ⟨b, i, none⟩ (encB x)) b 0 (D.setIfInBounds i x) := by
  intro j hj
  rw [Array.size_setIfInBounds] at hj
  obtain ⟨h1, h2⟩ := h j hj
  rw [Nat.zero_add] at h1 h2 ⊢
  by_cases hij : j = i
  · subst hij
    refine ⟨?_, by simpa using h2⟩
    rw [getElem!_set_same _ _ _ hi]
    exact World.cell?_setCell_same _ _ _ h1
  · refine ⟨?_, by simpa using h2⟩
    have hne : (⟨b, j, none⟩ : Addr) ≠ ⟨b, i, none⟩ := fun h => hij (by injection h)
    have e : (D.setIfInBounds i x)[j]! = D[j]! := by
      rw [getElem!_pos _ j (by simpa using hj), getElem!_pos _ j hj, Array.getElem_setIfInBounds, if_neg (Ne.symm hij)]
    rw [e, ← h1]
    exact World.cell?_setCell_other _ _ _ _ (Ne.symm hne)
theorem zero_holds (w : World) (t : TypeId) (Z : Array Value) (n k : Nat) (hz : Z = Array.replicate n (.int .u8 0)) (hk : k ≤ n) : Holds encB (w.alloc (.cells Z t)) w.heap.size 0 (Array.replicate k (0 : UInt8)) := by
  intro j hj
  rw [Array.size_replicate] at hj
  subst hz
  rw [Nat.zero_add]
  refine ⟨?_, by simp⟩
  rw [World.cell?_alloc_at _ _ _ _ rfl, getElem!_pos _ j (by simpa using hj)]
  have : j < n := by omega
  simp [this]
theorem sl65 (W : World) (b i : Nat) (h1 : 1 ≤ i) (h2 : i ≤ 65) : (Instr.sliceAt 66 (.pointer (some ⟨b, 0, none⟩)) (some (.int .i64 ((i : Int) - 1))) none none).run Tryd.prog W = .ok (.slice (some ⟨b, i - 1, none⟩) (65 - (i - 1)) (65 - (i - 1))) W := by
  have hlen : Tryd.prog.arrayLen 66 = 65 := by kernel_rfl
  have hel : Tryd.prog.elem 66 = 5 := by kernel_rfl
  have ht : Tryd.prog.underlying 66 = some (.array (Tryd.prog.arrayLen 66) (Tryd.prog.elem 66)) := by rw [hlen, hel]; exact Tryd.underlying66
  rw [run_sliceAt_array_l W 66 ⟨b, 0, none⟩ ht .i64 ((i : Int) - 1) (by omega) (by rw [hlen]; omega), hlen, hel]
  have e : ((i : Int) - 1).toNat = i - 1 := by omega
  have hne : ¬ 65 = i - 1 := by omega
  have hadd : (⟨b, 0, none⟩ : Addr).add ((i - 1) * 1) = ⟨b, i - 1, none⟩ := by unfold Addr.add; split <;> simp_all
  rw [e]
  simp [Tryd.sizeOf5, slicedAt, hne]
  unfold Addr.add; split <;> simp_all
/-- digits of a base, one at least -/
def BD (base : Nat) (l : List UInt8) : Prop := l ≠ [] ∧ l.all (Tg.dg base) = true ∧ l.length ≤ 65
def digS : ByteArray := ⟨#[48, 49, 50, 51, 52, 53, 54, 55, 56, 57, 97, 98, 99, 100, 101, 102, 103, 104, 105, 106, 107, 108, 109, 110, 111, 112, 113, 114, 115, 116, 117, 118, 119, 120, 121, 122]⟩

set_option maxHeartbeats 1000000 in
theorem tz16 (w : World) (hc : w.cell? ⟨5, 15, none⟩ = some (.int .u8 4)) :
    Calls Tryd.prog 48 #[.int .u64 16] w fun e w' => e = .returned (.int .i64 4) ∧ w = w' := by
  have c : Calls Tryd.prog 71 #[.int .u64 16] w fun e w' => e = .returned (.int .i64 4) ∧ w = w' := by
    have hw : IntKind.u64.wrap (-16) = 18446744073709551600 := by decide
    have hb : bits BinOp.and IntKind.u64 16 18446744073709551600 = 16 := by decide
    go_enter Tryd.func71, Tryd.ntmps71
    go_wp2
    go_ret
    exact ⟨rfl, rfl⟩
  go_enter Tryd.func48, Tryd.ntmps48
  go_wp2_with (go_at_call 71; refine c.mono ?_; rintro e w' ⟨rfl, rfl⟩)
  go_ret
  exact ⟨rfl, rfl⟩
theorem and16 (u : Nat) (hu : u < 18446744073709551616) : bits BinOp.and IntKind.u64 (u : Int) 15 = ((u % 16 : Nat) : Int) := by
  have := u64_and_nat u 15 hu (by decide)
  have e : ((15 : Nat) : Int) = (15 : Int) := rfl
  rw [e] at this
  rw [this, show (15 : Nat) = 2 ^ 4 - 1 by decide, Nat.and_two_pow_sub_one_eq_mod]
theorem digS_at16 : ∀ x : Fin 16, Tg.dg 16 (digS[x.val]'(by have := x.isLt; show x.val < 36; omega)) = true := by decide

set_option maxHeartbeats 4000000 in
set_option maxRecDepth 100000 in
theorem fbits16 (u0 : Nat) (w : World) (hu0 : u0 < 18446744073709551616) (hc : w.cell? ⟨5, 15, none⟩ = some (.int .u8 4)) :
    Calls Tryd.prog 29 #[.slice none 0 0, .int .u64 (u0 : Int), .int .i64 16, .bool false, .bool false] w fun e w' => (∃ l : List UInt8, e = .returned (.tuple #[.slice none 0 0, .string (str l)]) ∧ BD 16 l) ∧ Below w.heap.size w w' := by
  have h5 := lt_of_cell hc
  have hH0 := zero_holds w 66 Tryd.zeroCells66 65 65 (by kernel_rfl) (Nat.le_refl _)
  have hB0 : Below w.heap.size w (w.alloc (.cells Tryd.zeroCells66 66)) := (Below.refl _ w).alloc (Nat.le_refl _) _
  have hc0 : (w.alloc (.cells Tryd.zeroCells66 66)).cell? ⟨5, 15, none⟩ = some (.int .u8 4) := by rw [World.cell?_alloc_past _ _ _ h5]; exact hc
  have cP : Calls Tryd.prog 47 #[.int .i64 16] (w.alloc (.cells Tryd.zeroCells66 66)) fun e w' => e = .returned (.bool true) ∧ (w.alloc (.cells Tryd.zeroCells66 66)) = w' := by
    have hb : bits BinOp.and IntKind.i64 16 15 = 0 := by decide
    go_enter Tryd.func47, Tryd.ntmps47
    go_wp2
    go_ret
    exact ⟨rfl, rfl⟩
  have cT := tz16 (w.alloc (.cells Tryd.zeroCells66 66)) hc0
  go_enter Tryd.func29, Tryd.ntmps29
  go_wp2_with fail
  refine cP.mono ?_
  rintro e w1 ⟨rfl, rfl⟩
  go_wp2_with fail
  refine cT.mono ?_
  rintro e w1 ⟨rfl, rfl⟩
  clear cP cT hc0 hc h5
  generalize (w.alloc (.cells Tryd.zeroCells66 66)) = W0 at hH0 hB0
  have HU : Hid (u0 * 16 ^ (65 - 65) < 18446744073709551616) := by show _ < _; simpa using hu0
  go_wp2
  go_loopw [1, 13] (fun uv iv wr => ∃ (u i : Nat) (D : Array UInt8), uv = .int .u64 (u : Int) ∧ iv = .int .i64 (i : Int) ∧ 50 ≤ i ∧ i ≤ 65 ∧ u < 18446744073709551616 ∧ Hid (u * 16 ^ (65 - i) < 18446744073709551616) ∧ Hid (D.size = 65) ∧ Hid (Holds encB wr w.heap.size 0 D) ∧ Hid (∀ j, i ≤ j → j < 65 → Tg.dg 16 D[j]! = true) ∧ Below w.heap.size w wr) (fun _ iv _ => (intOf iv).toNat)
  case atStart => exact ⟨u0, 65, Array.replicate 65 0, rfl, rfl, by omega, by omega, hu0, HU, (by simp : (Array.replicate 65 (0 : UInt8)).size = 65), hH0, (fun j h1 h2 => by omega : ∀ j, 65 ≤ j → j < 65 → Tg.dg 16 (Array.replicate 65 (0 : UInt8))[j]! = true), hB0⟩
  case round =>
    obtain ⟨u, i, D, rfl, rfl, hlo, hi, hu, HP, HS, HH, HG, hbw⟩ := hrel
    clear HU hH0 hB0
    have z1 : ((i : Int) - 1).toNat = i - 1 := by omega
    have z2 : i - 1 < 65 := by omega
    have z3 : (0 : Int) ≤ (i : Int) - 1 := by omega
    obtain ⟨s1, s2⟩ := HH.out (i - 1) (by have := HS.out; omega)
    rw [Nat.zero_add] at s1 s2
    by_cases hge : 16 ≤ u
    · have b1 : decide ((16 : Int) ≤ (u : Int)) = true := decide_eq_true (by omega)
      have b1' : decide (16 ≤ u) = true := decide_eq_true (by omega)
      have hand := and16 u hu
      obtain ⟨x, hx⟩ : ∃ x, u % 16 = x := ⟨_, rfl⟩
      have hx2 : x < 16 := by rw [← hx]; exact Nat.mod_lt _ (by decide)
      rw [hx] at hand
      clear hx
      have hx36 : x < 36 := by omega
      obtain ⟨bx, hbx⟩ : ∃ bx, (⟨#[48, 49, 50, 51, 52, 53, 54, 55, 56, 57, 97, 98, 99, 100, 101, 102, 103, 104, 105, 106, 107, 108, 109, 110, 111, 112, 113, 114, 115, 116, 117, 118, 119, 120, 121, 122]⟩ : ByteArray)[x]'(by exact hx36) = bx := ⟨_, rfl⟩
      have HD : Hid (Tg.dg 16 bx = true) := by rw [← hbx]; exact digS_at16 ⟨x, hx2⟩
      have hi2 : 50 ≤ i - 1 := by
        rcases Nat.lt_or_ge (i - 1) 50 with hlt | hge'
        · exfalso
          obtain rfl : i = 50 := by omega
          have hp := HP.out
          have e : 16 ^ (65 - 50) = 1152921504606846976 := by decide
          rw [e] at hp
          omega
        · exact hge'
      have HP2 : Hid (u / 16 * 16 ^ (65 - (i - 1)) < 18446744073709551616) := by
        show _ < _
        have hp := HP.out
        have e : 65 - (i - 1) = (65 - i) + 1 := by omega
        rw [e, Nat.pow_succ, Nat.mul_comm (16 ^ (65 - i)) 16, ← Nat.mul_assoc]
        exact Nat.lt_of_le_of_lt (Nat.mul_le_mul_right _ (Nat.div_mul_le_self u 16)) hp
      clear HP
      go_wp2
      go_roundw
      case rel =>
        refine ⟨u / 16, i - 1, D.setIfInBounds (i - 1) bx, by go_num, by go_num, hi2, by omega, by omega, HP2, ?_, holds_set bx HH.out (by have := HS.out; omega), ?_, hbw.setCell (Nat.le_refl _) _⟩
        · show _ = _
          rw [Array.size_setIfInBounds]; exact HS.out
        · show ∀ j, _
          intro j h1 h2
          by_cases hj : j = i - 1
          · subst hj
            rw [getElem!_set_same _ _ _ (by have := HS.out; omega)]; exact HD.out
          · rw [getElem!_pos _ j (by rw [Array.size_setIfInBounds]; have := HS.out; omega), Array.getElem_setIfInBounds, if_neg (Ne.symm hj)]
            have := HG.out j (by omega) h2
            rw [getElem!_pos _ j (by have := HS.out; omega)] at this
            exact this
      case measure => simp [intOf]; omega
    · have b1 : decide ((16 : Int) ≤ (u : Int)) = false := decide_eq_false (by omega)
      have b1' : decide (16 ≤ u) = false := decide_eq_false (by omega)
      have hu36 : u < 36 := by omega
      obtain ⟨bx, hbx⟩ : ∃ bx, (⟨#[48, 49, 50, 51, 52, 53, 54, 55, 56, 57, 97, 98, 99, 100, 101, 102, 103, 104, 105, 106, 107, 108, 109, 110, 111, 112, 113, 114, 115, 116, 117, 118, 119, 120, 121, 122]⟩ : ByteArray)[u]'(by exact hu36) = bx := ⟨_, rfl⟩
      have HD : Hid (Tg.dg 16 bx = true) := by rw [← hbx]; exact digS_at16 ⟨u, by omega⟩
      have HHn := Lib.hid (holds_set bx HH.out (show i - 1 < D.size by have := HS.out; omega))
      have hbn : Below w.heap.size w (wr.setCell ⟨w.heap.size, i - 1, none⟩ (.int .u8 (bx.toNat : Int))) := hbw.setCell (Nat.le_refl _) _
      clear HP
      obtain ⟨l, hl⟩ : ∃ l, l = (D.setIfInBounds (i - 1) bx).toList.drop (i - 1) := ⟨_, rfl⟩
      have hll : l.length = 65 - (i - 1) := by rw [hl, List.length_drop, Array.length_toList, Array.size_setIfInBounds, HS.out]
      have hat : ∀ j (hj : j < l.length), l[j] = (D.setIfInBounds (i - 1) bx)[i - 1 + j]! := by
        intro j hj
        have hj2 : i - 1 + j < (D.setIfInBounds (i - 1) bx).size := by rw [Array.size_setIfInBounds, HS.out]; omega
        subst hl
        rw [List.getElem_drop, getElem!_pos (D.setIfInBounds (i - 1) bx) (i - 1 + j) hj2, Array.getElem_toList]
      have HLD : Hid (BD 16 l) := by
        show BD _ _
        refine ⟨?_, ?_, by omega⟩
        · intro e; rw [e] at hll; simp at hll; omega
        · rw [List.all_eq_true]
          intro c hc
          obtain ⟨j, hj, rfl⟩ := List.getElem_of_mem hc
          rw [hat j hj]
          by_cases hj0 : j = 0
          · subst hj0
            rw [Nat.add_zero, getElem!_set_same _ _ _ (by have := HS.out; omega)]; exact HD.out
          · have hj2 : i - 1 + j < D.size := by have := HS.out; omega
            rw [getElem!_pos (D.setIfInBounds (i - 1) bx) (i - 1 + j) (by rw [Array.size_setIfInBounds]; exact hj2), Array.getElem_setIfInBounds, if_neg (by omega)]
            have := HG.out (i - 1 + j) (by omega) (by omega)
            rw [getElem!_pos D (i - 1 + j) hj2] at this
            exact this
      have hcv := run_convert_bytes_back (P := Tryd.prog) (wr.setCell ⟨w.heap.size, i - 1, none⟩ (.int .u8 (bx.toNat : Int))) 31 9 5 ⟨w.heap.size, i - 1, none⟩ (65 - (i - 1)) l Tryd.underlying31 Tryd.underlying5 Tryd.underlying9 (fun j hj => by
        rw [hat j hj]
        have := (HHn.out (i - 1 + j) (by rw [Array.size_setIfInBounds, HS.out]; omega)).1
        rw [Nat.zero_add] at this
        have hadd : (⟨w.heap.size, i - 1, none⟩ : Addr).add j = ⟨w.heap.size, i - 1 + j, none⟩ := by unfold Addr.add; split <;> simp_all
        rw [hadd]
        exact this)
      rw [hll] at hcv
      clear hat hll hl HHn
      have hsl := sl65 (wr.setCell ⟨w.heap.size, i - 1, none⟩ (.int .u8 (bx.toNat : Int))) w.heap.size i (by omega) hi
      go_wp2
      go_ret2
      exact ⟨⟨l, rfl, HLD.out⟩, hbn⟩

set_option maxHeartbeats 1000000 in
theorem fuint16 (u : Nat) (w : World) (hu : u < 18446744073709551616) (hc : w.cell? ⟨5, 15, none⟩ = some (.int .u8 4)) :
    Calls Tryd.prog 7 #[.int .u64 (u : Int), .int .i64 16] w fun e w' => (∃ l : List UInt8, e = .returned (.string (str l)) ∧ BD 16 l) ∧ Below w.heap.size w w' := by
  have c1 := fbits16 u w hu hc
  have c2 : Calls Tryd.prog 20 #[.int .u64 (u : Int), .int .i64 16] w fun e w' => (∃ l : List UInt8, e = .returned (.string (str l)) ∧ BD 16 l) ∧ Below w.heap.size w w' := by
    go_enter Tryd.func20, Tryd.ntmps20
    go_wp2_with fail
    refine c1.mono ?_
    rintro e w1 ⟨⟨l, rfl, hl⟩, hb⟩
    go_wp2
    go_ret
    exact ⟨⟨l, rfl, hl⟩, hb⟩
  go_enter Tryd.func7, Tryd.ntmps7
  go_wp2_with fail
  refine c2.mono ?_
  rintro e w1 ⟨⟨l, rfl, hl⟩, hb⟩
  go_wp2
  go_ret
  exact ⟨⟨l, rfl, hl⟩, hb⟩

set_option maxHeartbeats 1000000 in
theorem tz8 (w : World) (hc : w.cell? ⟨5, 7, none⟩ = some (.int .u8 3)) :
    Calls Tryd.prog 48 #[.int .u64 8] w fun e w' => e = .returned (.int .i64 3) ∧ w = w' := by
  have c : Calls Tryd.prog 71 #[.int .u64 8] w fun e w' => e = .returned (.int .i64 3) ∧ w = w' := by
    have hw : IntKind.u64.wrap (-8) = 18446744073709551608 := by decide
    have hb : bits BinOp.and IntKind.u64 8 18446744073709551608 = 8 := by decide
    go_enter Tryd.func71, Tryd.ntmps71
    go_wp2
    go_ret
    exact ⟨rfl, rfl⟩
  go_enter Tryd.func48, Tryd.ntmps48
  go_wp2_with (go_at_call 71; refine c.mono ?_; rintro e w' ⟨rfl, rfl⟩)
  go_ret
  exact ⟨rfl, rfl⟩
theorem and8 (u : Nat) (hu : u < 18446744073709551616) : bits BinOp.and IntKind.u64 (u : Int) 7 = ((u % 8 : Nat) : Int) := by
  have := u64_and_nat u 7 hu (by decide)
  have e : ((7 : Nat) : Int) = (7 : Int) := rfl
  rw [e] at this
  rw [this, show (7 : Nat) = 2 ^ 3 - 1 by decide, Nat.and_two_pow_sub_one_eq_mod]
theorem digS_at8 : ∀ x : Fin 8, Tg.dg 8 (digS[x.val]'(by have := x.isLt; show x.val < 36; omega)) = true := by decide

set_option maxHeartbeats 4000000 in
set_option maxRecDepth 100000 in
theorem fbits8 (u0 : Nat) (w : World) (hu0 : u0 < 18446744073709551616) (hc : w.cell? ⟨5, 7, none⟩ = some (.int .u8 3)) :
    Calls Tryd.prog 29 #[.slice none 0 0, .int .u64 (u0 : Int), .int .i64 8, .bool false, .bool false] w fun e w' => (∃ l : List UInt8, e = .returned (.tuple #[.slice none 0 0, .string (str l)]) ∧ BD 8 l) ∧ Below w.heap.size w w' := by
  have h5 := lt_of_cell hc
  have hH0 := zero_holds w 66 Tryd.zeroCells66 65 65 (by kernel_rfl) (Nat.le_refl _)
  have hB0 : Below w.heap.size w (w.alloc (.cells Tryd.zeroCells66 66)) := (Below.refl _ w).alloc (Nat.le_refl _) _
  have hc0 : (w.alloc (.cells Tryd.zeroCells66 66)).cell? ⟨5, 7, none⟩ = some (.int .u8 3) := by rw [World.cell?_alloc_past _ _ _ h5]; exact hc
  have cP : Calls Tryd.prog 47 #[.int .i64 8] (w.alloc (.cells Tryd.zeroCells66 66)) fun e w' => e = .returned (.bool true) ∧ (w.alloc (.cells Tryd.zeroCells66 66)) = w' := by
    have hb : bits BinOp.and IntKind.i64 8 7 = 0 := by decide
    go_enter Tryd.func47, Tryd.ntmps47
    go_wp2
    go_ret
    exact ⟨rfl, rfl⟩
  have cT := tz8 (w.alloc (.cells Tryd.zeroCells66 66)) hc0
  go_enter Tryd.func29, Tryd.ntmps29
  go_wp2_with fail
  refine cP.mono ?_
  rintro e w1 ⟨rfl, rfl⟩
  go_wp2_with fail
  refine cT.mono ?_
  rintro e w1 ⟨rfl, rfl⟩
  clear cP cT hc0 hc h5
  generalize (w.alloc (.cells Tryd.zeroCells66 66)) = W0 at hH0 hB0
  have HU : Hid (u0 * 8 ^ (65 - 65) < 18446744073709551616) := by show _ < _; simpa using hu0
  go_wp2
  go_loopw [1, 13] (fun uv iv wr => ∃ (u i : Nat) (D : Array UInt8), uv = .int .u64 (u : Int) ∧ iv = .int .i64 (i : Int) ∧ 44 ≤ i ∧ i ≤ 65 ∧ u < 18446744073709551616 ∧ Hid (u * 8 ^ (65 - i) < 18446744073709551616) ∧ Hid (D.size = 65) ∧ Hid (Holds encB wr w.heap.size 0 D) ∧ Hid (∀ j, i ≤ j → j < 65 → Tg.dg 8 D[j]! = true) ∧ Below w.heap.size w wr) (fun _ iv _ => (intOf iv).toNat)
  case atStart => exact ⟨u0, 65, Array.replicate 65 0, rfl, rfl, by omega, by omega, hu0, HU, (by simp : (Array.replicate 65 (0 : UInt8)).size = 65), hH0, (fun j h1 h2 => by omega : ∀ j, 65 ≤ j → j < 65 → Tg.dg 8 (Array.replicate 65 (0 : UInt8))[j]! = true), hB0⟩
  case round =>
    obtain ⟨u, i, D, rfl, rfl, hlo, hi, hu, HP, HS, HH, HG, hbw⟩ := hrel
    clear HU hH0 hB0
    have z1 : ((i : Int) - 1).toNat = i - 1 := by omega
    have z2 : i - 1 < 65 := by omega
    have z3 : (0 : Int) ≤ (i : Int) - 1 := by omega
    obtain ⟨s1, s2⟩ := HH.out (i - 1) (by have := HS.out; omega)
    rw [Nat.zero_add] at s1 s2
    by_cases hge : 8 ≤ u
    · have b1 : decide ((8 : Int) ≤ (u : Int)) = true := decide_eq_true (by omega)
      have b1' : decide (8 ≤ u) = true := decide_eq_true (by omega)
      have hand := and8 u hu
      obtain ⟨x, hx⟩ : ∃ x, u % 8 = x := ⟨_, rfl⟩
      have hx2 : x < 8 := by rw [← hx]; exact Nat.mod_lt _ (by decide)
      rw [hx] at hand
      clear hx
      have hx36 : x < 36 := by omega
      obtain ⟨bx, hbx⟩ : ∃ bx, (⟨#[48, 49, 50, 51, 52, 53, 54, 55, 56, 57, 97, 98, 99, 100, 101, 102, 103, 104, 105, 106, 107, 108, 109, 110, 111, 112, 113, 114, 115, 116, 117, 118, 119, 120, 121, 122]⟩ : ByteArray)[x]'(by exact hx36) = bx := ⟨_, rfl⟩
      have HD : Hid (Tg.dg 8 bx = true) := by rw [← hbx]; exact digS_at8 ⟨x, hx2⟩
      have hi2 : 44 ≤ i - 1 := by
        rcases Nat.lt_or_ge (i - 1) 44 with hlt | hge'
        · exfalso
          obtain rfl : i = 44 := by omega
          have hp := HP.out
          have e : 8 ^ (65 - 44) = 9223372036854775808 := by decide
          rw [e] at hp
          omega
        · exact hge'
      have HP2 : Hid (u / 8 * 8 ^ (65 - (i - 1)) < 18446744073709551616) := by
        show _ < _
        have hp := HP.out
        have e : 65 - (i - 1) = (65 - i) + 1 := by omega
        rw [e, Nat.pow_succ, Nat.mul_comm (8 ^ (65 - i)) 8, ← Nat.mul_assoc]
        exact Nat.lt_of_le_of_lt (Nat.mul_le_mul_right _ (Nat.div_mul_le_self u 8)) hp
      clear HP
      go_wp2
      go_roundw
      case rel =>
        refine ⟨u / 8, i - 1, D.setIfInBounds (i - 1) bx, by go_num, by go_num, hi2, by omega, by omega, HP2, ?_, holds_set bx HH.out (by have := HS.out; omega), ?_, hbw.setCell (Nat.le_refl _) _⟩
        · show _ = _
          rw [Array.size_setIfInBounds]; exact HS.out
        · show ∀ j, _
          intro j h1 h2
          by_cases hj : j = i - 1
          · subst hj
            rw [getElem!_set_same _ _ _ (by have := HS.out; omega)]; exact HD.out
          · rw [getElem!_pos _ j (by rw [Array.size_setIfInBounds]; have := HS.out; omega), Array.getElem_setIfInBounds, if_neg (Ne.symm hj)]
            have := HG.out j (by omega) h2
            rw [getElem!_pos _ j (by have := HS.out; omega)] at this
            exact this
      case measure => simp [intOf]; omega
    · have b1 : decide ((8 : Int) ≤ (u : Int)) = false := decide_eq_false (by omega)
      have b1' : decide (8 ≤ u) = false := decide_eq_false (by omega)
      have hu36 : u < 36 := by omega
      obtain ⟨bx, hbx⟩ : ∃ bx, (⟨#[48, 49, 50, 51, 52, 53, 54, 55, 56, 57, 97, 98, 99, 100, 101, 102, 103, 104, 105, 106, 107, 108, 109, 110, 111, 112, 113, 114, 115, 116, 117, 118, 119, 120, 121, 122]⟩ : ByteArray)[u]'(by exact hu36) = bx := ⟨_, rfl⟩
      have HD : Hid (Tg.dg 8 bx = true) := by rw [← hbx]; exact digS_at8 ⟨u, by omega⟩
      have HHn := Lib.hid (holds_set bx HH.out (show i - 1 < D.size by have := HS.out; omega))
      have hbn : Below w.heap.size w (wr.setCell ⟨w.heap.size, i - 1, none⟩ (.int .u8 (bx.toNat : Int))) := hbw.setCell (Nat.le_refl _) _
      clear HP
      obtain ⟨l, hl⟩ : ∃ l, l = (D.setIfInBounds (i - 1) bx).toList.drop (i - 1) := ⟨_, rfl⟩
      have hll : l.length = 65 - (i - 1) := by rw [hl, List.length_drop, Array.length_toList, Array.size_setIfInBounds, HS.out]
      have hat : ∀ j (hj : j < l.length), l[j] = (D.setIfInBounds (i - 1) bx)[i - 1 + j]! := by
        intro j hj
        have hj2 : i - 1 + j < (D.setIfInBounds (i - 1) bx).size := by rw [Array.size_setIfInBounds, HS.out]; omega
        subst hl
        rw [List.getElem_drop, getElem!_pos (D.setIfInBounds (i - 1) bx) (i - 1 + j) hj2, Array.getElem_toList]
      have HLD : Hid (BD 8 l) := by
        show BD _ _
        refine ⟨?_, ?_, by omega⟩
        · intro e; rw [e] at hll; simp at hll; omega
        · rw [List.all_eq_true]
          intro c hc
          obtain ⟨j, hj, rfl⟩ := List.getElem_of_mem hc
          rw [hat j hj]
          by_cases hj0 : j = 0
          · subst hj0
            rw [Nat.add_zero, getElem!_set_same _ _ _ (by have := HS.out; omega)]; exact HD.out
          · have hj2 : i - 1 + j < D.size := by have := HS.out; omega
            rw [getElem!_pos (D.setIfInBounds (i - 1) bx) (i - 1 + j) (by rw [Array.size_setIfInBounds]; exact hj2), Array.getElem_setIfInBounds, if_neg (by omega)]
            have := HG.out (i - 1 + j) (by omega) (by omega)
            rw [getElem!_pos D (i - 1 + j) hj2] at this
            exact this
      have hcv := run_convert_bytes_back (P := Tryd.prog) (wr.setCell ⟨w.heap.size, i - 1, none⟩ (.int .u8 (bx.toNat : Int))) 31 9 5 ⟨w.heap.size, i - 1, none⟩ (65 - (i - 1)) l Tryd.underlying31 Tryd.underlying5 Tryd.underlying9 (fun j hj => by
        rw [hat j hj]
        have := (HHn.out (i - 1 + j) (by rw [Array.size_setIfInBounds, HS.out]; omega)).1
        rw [Nat.zero_add] at this
        have hadd : (⟨w.heap.size, i - 1, none⟩ : Addr).add j = ⟨w.heap.size, i - 1 + j, none⟩ := by unfold Addr.add; split <;> simp_all
        rw [hadd]
        exact this)
      rw [hll] at hcv
      clear hat hll hl HHn
      have hsl := sl65 (wr.setCell ⟨w.heap.size, i - 1, none⟩ (.int .u8 (bx.toNat : Int))) w.heap.size i (by omega) hi
      go_wp2
      go_ret2
      exact ⟨⟨l, rfl, HLD.out⟩, hbn⟩

set_option maxHeartbeats 1000000 in
theorem fuint8 (u : Nat) (w : World) (hu : u < 18446744073709551616) (hc : w.cell? ⟨5, 7, none⟩ = some (.int .u8 3)) :
    Calls Tryd.prog 7 #[.int .u64 (u : Int), .int .i64 8] w fun e w' => (∃ l : List UInt8, e = .returned (.string (str l)) ∧ BD 8 l) ∧ Below w.heap.size w w' := by
  have c1 := fbits8 u w hu hc
  have c2 : Calls Tryd.prog 20 #[.int .u64 (u : Int), .int .i64 8] w fun e w' => (∃ l : List UInt8, e = .returned (.string (str l)) ∧ BD 8 l) ∧ Below w.heap.size w w' := by
    go_enter Tryd.func20, Tryd.ntmps20
    go_wp2_with fail
    refine c1.mono ?_
    rintro e w1 ⟨⟨l, rfl, hl⟩, hb⟩
    go_wp2
    go_ret
    exact ⟨⟨l, rfl, hl⟩, hb⟩
  go_enter Tryd.func7, Tryd.ntmps7
  go_wp2_with fail
  refine c2.mono ?_
  rintro e w1 ⟨⟨l, rfl, hl⟩, hb⟩
  go_wp2
  go_ret
  exact ⟨⟨l, rfl, hl⟩, hb⟩
end Go.Proofs.YtegkdlimkgfheaaDoor
