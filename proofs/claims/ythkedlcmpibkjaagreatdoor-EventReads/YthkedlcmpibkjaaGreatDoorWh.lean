/-
  Walk of scalar.escaped.
-/
import Derived.Test.YthkedlcmpibkjaaGreatDoorWg
import Derived.BigQuiet
import Derived.Deep.QuietTactic
namespace Go.Proofs.YthkedlcmpibkjaaGreatDoor
open Go.RowKit

theorem bel_drewN {B : Nat} {a w : World} (h : Below B a w) (n : Nat) : Below B a (w.drewN n) := ⟨h.os, h.tape, h.output, h.size, h.block⟩
/-- the character of a letter -/
def charFrom (k b : Nat) : Option Nat := ((namedTab.drop k).find? fun p => p.2 == b).map (·.1)
theorem charFrom_step (k b : Nat) (h : k < 15) : charFrom k b = if lt k = b then some (ch k) else charFrom (k + 1) b := by
  unfold charFrom ch lt
  have : namedTab.drop k = namedTab.getD k (0, 0) :: namedTab.drop (k + 1) := by
    have hl : k < namedTab.length := h
    rw [List.drop_eq_getElem_cons hl]; simp [List.getD, hl]
  rw [this, List.find?_cons]
  generalize namedTab.getD k (0, 0) = x
  by_cases e : x.2 = b
  · have : (x.2 == b) = true := beq_iff_eq.2 e
    rw [this, if_pos e]; rfl
  · have : (x.2 == b) = false := beq_eq_false_iff_ne.2 e
    rw [this, if_neg e]
def nmR : Option Nat → Nat × Nat
  | some r => (r, 1)
  | none => (0, 0)
/-- the character of what stands behind a backslash, and its bytes: (0, 0): there is none -/
def escOf : List UInt8 → Nat × Nat
  | [] => (0, 0)
  | c :: t => if c.toNat = 47 then (47, 1) else if c.toNat = 120 then numOf (c :: t) 2 else if c.toNat = 117 then numOf (c :: t) 4 else if c.toNat = 85 then numOf (c :: t) 8 else nmR (charFrom 0 c.toNat)

def pairR (p : Nat × Nat) : Ending := .returned (.tuple #[.int .i32 p.1, .int .i64 p.2])

set_option maxHeartbeats 1000000 in
set_option maxRecDepth 100000 in
theorem escaped_named (s : ByteArray) (w : World) (hE : Env w) (h0 : 0 < s.size) (h1 : ((s[0].toNat : Int) == 47) = false) (h2 : ((s[0].toNat : Int) == 120) = false) (h3 : ((s[0].toNat : Int) == 117) = false) (h4 : ((s[0].toNat : Int) == 85) = false) :
    Calls Tryz.prog 68 #[.string s] w fun e w' => e = pairR (nmR (charFrom 0 s[0].toNat)) ∧ Below w.heap.size w w' := by
  have hemp := ba_isEmpty s h0
  have hnil := ba_notnil s h0
  obtain ⟨t2, fr2, hN⟩ := hE.named
  obtain ⟨ANS, hANS⟩ : ∃ ANS, charFrom 0 s[0].toNat = ANS := ⟨_, rfl⟩
  rw [hANS]
  have HA := Lib.hid hANS
  clear hE hANS
  have hB := s[0].toNat_lt
  go_enter Tryz.func68, Tryz.ntmps68
  go_wp2_with (refine wpList_load_row rfl 104 _ rfl 4 rfl t2 _ fr2 _ hN Tryz.underlying104 rfl size65 ?_)
  clear hN
  go_loopw [31] (fun i wr => ∃ k : Nat, k ≤ 15 ∧ i = .int .i64 k ∧ Hid (charFrom k s[0].toNat = ANS) ∧ Below w.heap.size w wr) (fun i _ => 15 - (intOf i).toNat)
  case atStart => exact ⟨0, by omega, rfl, HA, Below.refl _ _⟩
  case round =>
    obtain ⟨k, hk, rfl, HK, hbw⟩ := hrel
    clear HA
    by_cases hlt : k < 15
    · have hix := named_index k hlt
      have HS := Lib.hid (charFrom_step k s[0].toNat hlt)
      have hl256 := lt_lt ⟨k, hlt⟩
      have hc := ch_lt ⟨k, hlt⟩
      simp only at hl256 hc
      generalize ch k = c at *
      generalize lt k = b at *
      have hsz := hbw.size
      by_cases hcr : b = s[0].toNat
      · have HF : Hid (some c = ANS) := by
          have := HS.out; rw [if_pos hcr] at this; exact this.symm.trans HK.out
        have hb : ((b : Int) == (s[0].toNat : Int)) = true := beq_iff_eq.2 (by omega)
        clear HS HK hcr
        go_wp2
        go_quiet (fail)
        go_wp2
        go_ret2
        rw [← HF.out]
        exact ⟨rfl, bel_drewN (hbw.alloc hsz _) _⟩
      · have hb : ((b : Int) == (s[0].toNat : Int)) = false := beq_eq_false_iff_ne.2 (by omega)
        have HN : Hid (charFrom (k + 1) s[0].toNat = ANS) := by
          have := HS.out; rw [if_neg hcr] at this; exact this.symm.trans HK.out
        clear HS HK hcr
        go_wp2
        go_quiet (fail)
        go_wp2
        go_roundw
        case rel => exact ⟨k + 1, by omega, by go_num, HN, bel_drewN (hbw.alloc hsz _) _⟩
        case measure => simp [intOf]; omega
    · obtain rfl : k = 15 := by omega
      have hA : ANS = none := HK.out.symm
      subst hA
      clear HK
      go_wp2
      go_ret2
      exact ⟨rfl, hbw⟩

set_option maxHeartbeats 1000000 in
theorem escaped_num (s : ByteArray) (w : World) (hs : s.size ≤ 100000) (h0 : 0 < s.size) (d : Nat) (h : ((s[0].toNat : Int) = 120 ∧ d = 2) ∨ ((s[0].toNat : Int) = 117 ∧ d = 4) ∨ ((s[0].toNat : Int) = 85 ∧ d = 8)) :
    Calls Tryz.prog 68 #[.string s] w fun e w' => e = pairR (numOf s.data.toList d) ∧ Below w.heap.size w w' := by
  have hemp := ba_isEmpty s h0
  have hnil := ba_notnil s h0
  have cN := numbered_any s d w (by omega) hs
  unfold pairR
  generalize numOf s.data.toList d = N at *
  rcases h with ⟨h1, rfl⟩ | ⟨h1, rfl⟩ | ⟨h1, rfl⟩
  all_goals
    go_enter Tryz.func68, Tryz.ntmps68
    go_wp2_with (go_at_call 87; refine cN.mono ?_; rintro e w' ⟨rfl, hb⟩)
    go_ret2
    exact ⟨rfl, hb⟩
set_option maxHeartbeats 1000000 in
theorem escaped_slash (s : ByteArray) (w : World) (h0 : 0 < s.size) (h1 : (s[0].toNat : Int) = 47) :
    Calls Tryz.prog 68 #[.string s] w fun e w' => e = pairR (47, 1) ∧ Below w.heap.size w w' := by
  have hemp := ba_isEmpty s h0
  have hnil := ba_notnil s h0
  go_enter Tryz.func68, Tryz.ntmps68
  go_wp2
  go_ret2
  exact ⟨rfl, Below.refl _ _⟩
set_option maxHeartbeats 1000000 in
theorem escaped_empty (w : World) :
    Calls Tryz.prog 68 #[.string ⟨#[]⟩] w fun e w' => e = pairR (0, 0) ∧ Below w.heap.size w w' := by
  go_enter Tryz.func68, Tryz.ntmps68
  go_wp2
  go_ret2
  exact ⟨rfl, Below.refl _ _⟩
theorem ba_zero (s : ByteArray) (h : s.size = 0) : s = ⟨#[]⟩ := by
  cases s with
  | mk d => have hd : d.size = 0 := h
            rw [Array.size_eq_zero_iff] at hd; rw [hd]
/-- THE CONTRACT of escaped -/
theorem escaped_any (s : ByteArray) (w : World) (hs : s.size ≤ 100000) (hE : Env w) :
    Calls Tryz.prog 68 #[.string s] w fun e w' => e = pairR (escOf s.data.toList) ∧ Below w.heap.size w w' := by
  by_cases h0 : 0 < s.size
  · have hl := ba_list s h0
    by_cases h1 : s[0].toNat = 47
    · have : escOf s.data.toList = (47, 1) := by rw [hl]; simp only [escOf, if_pos h1]
      rw [this]; exact escaped_slash s w h0 (by omega)
    · by_cases h2 : s[0].toNat = 120
      · have : escOf s.data.toList = numOf s.data.toList 2 := by rw [hl]; simp only [escOf, if_neg h1, if_pos h2]
        rw [this]; exact escaped_num s w hs h0 2 (Or.inl ⟨by omega, rfl⟩)
      · by_cases h3 : s[0].toNat = 117
        · have : escOf s.data.toList = numOf s.data.toList 4 := by rw [hl]; simp only [escOf, if_neg h1, if_neg h2, if_pos h3]
          rw [this]; exact escaped_num s w hs h0 4 (Or.inr (Or.inl ⟨by omega, rfl⟩))
        · by_cases h4 : s[0].toNat = 85
          · have : escOf s.data.toList = numOf s.data.toList 8 := by rw [hl]; simp only [escOf, if_neg h1, if_neg h2, if_neg h3, if_pos h4]
            rw [this]; exact escaped_num s w hs h0 8 (Or.inr (Or.inr ⟨by omega, rfl⟩))
          · have : escOf s.data.toList = nmR (charFrom 0 s[0].toNat) := by
              rw [hl]; simp only [escOf, if_neg h1, if_neg h2, if_neg h3, if_neg h4]
            rw [this]
            exact escaped_named s w hE h0 (beq_eq_false_iff_ne.2 (by omega)) (beq_eq_false_iff_ne.2 (by omega)) (beq_eq_false_iff_ne.2 (by omega)) (beq_eq_false_iff_ne.2 (by omega))
  · have hz := ba_zero s (by omega)
    subst hz
    exact escaped_empty w
end Go.Proofs.YthkedlcmpibkjaaGreatDoor
