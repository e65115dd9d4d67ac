/-
  Walks of scalar.numbered, escaped and Unquote.
-/
import Derived.Test.YthkedlcmpibkjaaGreatDoorWf
import Derived.Laws.IdiomStrings
namespace Go.Proofs.YthkedlcmpibkjaaGreatDoor
open Go.RowKit

theorem digit_some (b : UInt8) (d : Nat) (w : World) (h : Hid (Sc.digB b = some d)) : Calls Tryz.prog 101 #[.int .u8 b.toNat] w fun e w' => e = .returned (.tuple #[.int .u32 d, .bool true]) ∧ w = w' := by
  have := digit_any b w
  rw [h.out] at this
  exact this
theorem digit_none (b : UInt8) (w : World) (h : Hid (Sc.digB b = none)) : Calls Tryz.prog 101 #[.int .u8 b.toNat] w fun e w' => e = .returned (.tuple #[.int .u32 0, .bool false]) ∧ w = w' := by
  have := digit_any b w
  rw [h.out] at this
  exact this
theorem digB_lt (b : UInt8) (d : Nat) (h : Sc.digB b = some d) : d < 16 := by
  unfold Sc.digB at h
  repeat' split at h
  all_goals first | (cases h; omega) | cases h

/-- the number that hexadecimal digits are -/
def hexNum : List UInt8 → Nat → Option Nat
  | [], n => some n
  | b :: t, n => match Sc.digB b with
    | none => none
    | some d => hexNum t (n * 16 + d)
/-- the character of so many digits behind a letter, and how many bytes: (0, 0): there is none -/
def numOf (l : List UInt8) (d : Nat) : Nat × Nat :=
  if l.length < 1 + d then (0, 0) else
    match hexNum ((l.drop 1).take d) 0 with
    | none => (0, 0)
    | some n => if Sc.isCh n then (n, 1 + d) else (0, 0)

theorem conv_bytes (s : ByteArray) (w : World) : ∃ cap C fr, (convert 9 46 (.string s)).run Tryz.prog w = .ok (.slice (some ⟨w.heap.size, 0, none⟩) s.size cap) (w.drew.alloc (.cells C 5 fr)) ∧ ∀ (k : Nat) (h : k < s.size), (w.alloc (.cells C 5 fr)).cell? ⟨w.heap.size, k, none⟩ = some (.int .u8 (s[k]'h).toNat) := by
  refine ⟨_, _, _, run_bytes_of_string (P := Tryz.prog) w 9 46 5 s Tryz.underlying9 Tryz.underlying46 Tryz.underlying5, fun k h => ?_⟩
  rw [World.cell?_alloc_mark]
  unfold bytesRow
  have hk : k < s.data.size := h
  simp [Array.getElem?_append]
  rw [if_pos h, Array.getElem?_eq_getElem hk]
  rfl

theorem or_dig (n d : Nat) (hn : n < 268435456) (hd : d < 16) : bits BinOp.or IntKind.u32 ((n : Int) * 16) (d : Int) = (n : Int) * 16 + d := by
  have hw : ∀ n : Int, 0 ≤ n → n < 2 ^ 32 → IntKind.u32.wrap n = n := fun n h0 h1 => by rw [IntKind.wrap_u32]; omega
  exact bits_join .u32 32 (by decide) hw 4 ((n : Int) * 16) d (by omega) (by omega) (by omega) (by omega) (by omega) (by omega)

set_option maxHeartbeats 1000000 in
set_option maxRecDepth 100000 in
theorem numbered_any (s : ByteArray) (d : Nat) (w : World) (hd : d ≤ 8) (hs : s.size ≤ 100000) :
    Calls Tryz.prog 87 #[.string s, .int .i64 d] w fun e w' => e = .returned (.tuple #[.int .i32 (numOf s.data.toList d).1, .int .i64 (numOf s.data.toList d).2]) ∧ Below w.heap.size w w' := by
  by_cases hlen : s.size < 1 + d
  · have e : numOf s.data.toList d = (0, 0) := by unfold numOf; rw [if_pos (by rw [← Lib.size_eq]; exact hlen)]
    rw [e]
    clear e
    go_enter Tryz.func87, Tryz.ntmps87
    go_wp2
    go_ret2
    exact ⟨rfl, Below.refl _ _⟩
  · obtain ⟨ANS, hANS⟩ : ∃ ANS, numOf s.data.toList d = ANS := ⟨_, rfl⟩
    rw [hANS]
    obtain ⟨T, hT⟩ : ∃ T, s.extract 1 (1 + d) = T := ⟨_, rfl⟩
    have hTd : T.data.toList = (s.data.toList.drop 1).take d := by
      rw [← hT, Lib.extract_data]; congr 1; omega
    have hTs : T.size = d := by
      rw [Lib.size_eq, hTd, List.length_take, List.length_drop, ← Lib.size_eq]; omega
    have HA : Hid ((match hexNum T.data.toList 0 with | none => (0, 0) | some n => if Sc.isCh n then (n, 1 + d) else (0, 0)) = ANS) := by
      show _ = ANS
      rw [← hANS, hTd]; unfold numOf; rw [if_neg (by rw [← Lib.size_eq]; exact hlen)]
    obtain ⟨cap, C, fr, hcv, hcell⟩ := conv_bytes T w
    have HC := Lib.hid hcell
    have HT := Lib.hid hTs
    clear hANS hTd hcell
    rw [hTs] at hcv
    clear hTs
    have hbw : Below w.heap.size w (w.alloc (.cells C 5 fr)).drew := ((Below.refl _ _).alloc (Nat.le_refl _) _).drew
    go_enter Tryz.func87, Tryz.ntmps87
    go_wp2
    clear hcv hT
    go_loop [7, 23] (fun x i => ∃ k n : Nat, k ≤ d ∧ i = .int .i64 k ∧ x = .int .u32 n ∧ Hid (n < 16 ^ k) ∧ Hid (hexNum T.data.toList 0 = hexNum (T.data.toList.drop k) n)) (fun _ i => d - (intOf i).toNat)
    case atStart => exact ⟨0, 0, by omega, rfl, rfl, (by decide : 0 < 16 ^ 0), (rfl : hexNum T.data.toList 0 = _)⟩
    case round =>
      obtain ⟨k, n, hk, rfl, rfl, HB, HK⟩ := hrel
      by_cases hlt : k < d
      · have hck := HC.out k (by rw [HT.out]; exact hlt)
        have hkT : k < T.size := by rw [HT.out]; exact hlt
        obtain ⟨b, hb⟩ : ∃ b, T[k] = b := ⟨_, rfl⟩
        rw [hb] at hck
        have hbl : T.data.toList.drop k = b :: T.data.toList.drop (k + 1) := by rw [Sc.drop_cons T k hkT, hb]
        have hn : n < 268435456 := by
          have h1 := HB.out
          have h2 : 16 ^ k ≤ 16 ^ 7 := Nat.pow_le_pow_right (by decide) (by omega)
          have h3 : (16 : Nat) ^ 7 = 268435456 := by decide
          omega
        cases hdg : Sc.digB b with
        | none =>
          have HF : Hid (((0, 0) : Nat × Nat) = ANS) := by
            have h1 := HK.out; rw [hbl] at h1; simp only [hexNum, hdg] at h1
            have h2 := HA.out; rw [h1] at h2; exact h2
          have HD := Lib.hid hdg
          clear hbl hb hkT HK HB hdg HA
          go_wp2_with (go_at_call 101; refine (digit_none b _ HD).mono ?_; rintro e w' ⟨rfl, rfl⟩)
          go_ret2
          rw [← HF.out]
          exact ⟨rfl, hbw⟩
        | some g =>
          have hg := digB_lt b g hdg
          have HN : Hid (hexNum T.data.toList 0 = hexNum (T.data.toList.drop (k + 1)) (n * 16 + g)) := by
            have := HK.out; rw [hbl] at this; simp only [hexNum, hdg] at this; exact this
          have HB2 : Hid (n * 16 + g < 16 ^ (k + 1)) := by
            have := HB.out
            show n * 16 + g < 16 ^ (k + 1)
            rw [Nat.pow_succ]; omega
          have HD := Lib.hid hdg
          have hor := or_dig n g hn hg
          clear hbl hb hkT HK HB hdg
          go_wp2_with (go_at_call 101; refine (digit_some b g _ HD).mono ?_; rintro e w' ⟨rfl, rfl⟩)
          go_round
          case rel => exact ⟨k + 1, n * 16 + g, by omega, by go_num, by go_num, HB2, HN⟩
          case measure => simp [intOf]; omega
      · obtain rfl : k = d := by omega
        have hnil : T.data.toList.drop k = [] := Sc.drop_nil T k (by rw [HT.out]; exact Nat.le_refl _)
        have hnum : hexNum T.data.toList 0 = some n := by have := HK.out; rw [hnil] at this; exact this
        have HF := Lib.hid HA.out
        rw [hnum] at HF
        simp only at HF
        have hn : n < 4294967296 := by
          have h1 := HB.out
          have h2 : 16 ^ k ≤ 16 ^ 8 := Nat.pow_le_pow_right (by decide) hd
          have h3 : (16 : Nat) ^ 8 = 4294967296 := by decide
          omega
        clear hnil hnum HA HK HB HC HT
        by_cases hc : Sc.isCh n
        · rw [if_pos hc] at HF
          have hle : n ≤ 1114111 := by unfold Sc.isCh at hc; omega
          have hvr : Lib.validRune (n : Int) = true := by unfold Lib.validRune; unfold Sc.isCh at hc; simp; omega
          clear hc hn
          go_wp2_with (go_at_call 102; refine (Tryz.utf8_ValidRune _ _).mono ?_; rintro e w' ⟨rfl, rfl⟩)
          go_ret2
          rw [← HF.out]
          exact ⟨rfl, hbw⟩
        · rw [if_neg hc] at HF
          have hvr : Lib.validRune (wrap32 (n : Int)) = false := by
            unfold Lib.validRune wrap32
            unfold Sc.isCh at hc
            simp only [decide_eq_false_iff_not]
            omega
          clear hc hn
          go_wp2_with (go_at_call 102; refine (Tryz.utf8_ValidRune _ _).mono ?_; rintro e w' ⟨rfl, rfl⟩)
          go_ret2
          rw [← HF.out]
          exact ⟨rfl, hbw⟩
end Go.Proofs.YthkedlcmpibkjaaGreatDoor
