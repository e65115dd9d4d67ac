/-
  The document's own characters: plain mathematics, and walks of its small functions.
-/
import Derived.Test.YthkedlcmpibkjaaGreatDoorMc
import Derived.Test.YthkedlcmpibkjaaGreatDoorWf
namespace Go.Proofs.YthkedlcmpibkjaaGreatDoor
namespace Sc
open Go.Lib

/-- how many bytes a first byte asks for, and its own bits -/
def leadN (c : Nat) : Nat × Nat :=
  if c < 128 then (1, c) else if 192 ≤ c ∧ c < 224 then (2, c - 192) else if 224 ≤ c ∧ c < 240 then (3, c - 224) else if 240 ≤ c ∧ c < 248 then (4, c - 240) else (0, 0)
/-- the bits of bytes that follow -/
def contR : List UInt8 → Nat → Option Nat
  | [], r => some r
  | b :: t, r => if b.toNat < 128 ∨ 191 < b.toNat then none else contR t (r * 64 + b.toNat - 128)
/-- a character, and its width -/
def stepR (l : List UInt8) : Option (Nat × Nat) :=
  if (leadN (l.getD 0 0).toNat).1 = 0 ∨ l.length < (leadN (l.getD 0 0).toNat).1 then none else
    match contR ((l.drop 1).take ((leadN (l.getD 0 0).toNat).1 - 1)) (leadN (l.getD 0 0).toNat).2 with
    | none => none
    | some r => if isCh r ∧ (enc r).length = (leadN (l.getD 0 0).toNat).1 then some (r, (leadN (l.getD 0 0).toNat).1) else none

theorem enc_width (r : Nat) (h : isCh r) : (enc r).length = if r < 128 then 1 else if r < 2048 then 2 else if r < 65536 then 3 else 4 := by
  unfold isCh at h
  by_cases h1 : r ≤ 127
  · rw [enc1 r h1, if_pos (by omega)]; rfl
  · by_cases h2 : r ≤ 2047
    · rw [enc2 r (by omega) h2, if_neg (by omega), if_pos (by omega)]; rfl
    · by_cases h3 : r ≤ 65535
      · rw [enc3 r (by omega), if_neg (by omega), if_neg (by omega), if_pos (by omega)]; rfl
      · rw [enc4 r (by omega) (by omega), if_neg (by omega), if_neg (by omega), if_neg (by omega)]; rfl
theorem width_range (r : Nat) (h : isCh r) : (r < 128 ∧ (enc r).length = 1) ∨ (128 ≤ r ∧ r < 2048 ∧ (enc r).length = 2) ∨ (2048 ≤ r ∧ r < 65536 ∧ (enc r).length = 3) ∨ (65536 ≤ r ∧ (enc r).length = 4) := by
  have := enc_width r h
  split at this
  · omega
  · split at this
    · omega
    · split at this <;> omega
theorem stepR_of (c : UInt8) (t m : List UInt8) (n r0 r : Nat) (hl : leadN c.toNat = (n, r0)) (hn : n = t.length + 1) (hc : contR t r0 = some r) (hi : isCh r) (hw : (enc r).length = n) : stepR (c :: (t ++ m)) = some (r, n) := by
  unfold stepR
  simp only [List.getD_cons_zero, hl, List.length_cons, List.length_append, List.drop_succ_cons, List.drop_zero]
  subst hn
  rw [if_neg (by omega)]
  have e : (t ++ m).take (t.length + 1 - 1) = t := by simp
  rw [e, hc]
  simp only
  rw [if_pos ⟨hi, hw⟩]
theorem stepR_enc (r : Nat) (m : List UInt8) (h : isCh r) : stepR (enc r ++ m) = some (r, (enc r).length) := by
  have hi := h
  unfold isCh at h
  by_cases h1 : r ≤ 127
  · have he := enc1 r h1
    have := stepR_of (UInt8.ofNat r) [] m 1 r r (by rw [toNat_of r (by omega)]; unfold leadN; rw [if_pos (by omega)]) rfl rfl hi (by rw [he]; rfl)
    rw [he]; exact this
  · by_cases h2 : r ≤ 2047
    · have he := enc2 r (by omega) h2
      have := stepR_of (UInt8.ofNat (192 + r / 64)) [UInt8.ofNat (128 + r % 64)] m 2 (r / 64) r
        (by rw [toNat_of _ (by omega)]; unfold leadN; rw [if_neg (by omega), if_pos (by omega), Prod.mk.injEq]; exact ⟨rfl, by omega⟩) rfl
        (by simp only [contR]; rw [toNat_of _ (by omega), if_neg (by omega), Option.some.injEq]; omega) hi (by rw [he]; rfl)
      rw [he]; exact this
    · by_cases h3 : r ≤ 65535
      · have he := enc3 r (by omega)
        have := stepR_of (UInt8.ofNat (224 + r / 4096)) [UInt8.ofNat (128 + r / 64 % 64), UInt8.ofNat (128 + r % 64)] m 3 (r / 4096) r
          (by rw [toNat_of _ (by omega)]; unfold leadN; rw [if_neg (by omega), if_neg (by omega), if_pos (by omega), Prod.mk.injEq]; exact ⟨rfl, by omega⟩) rfl
          (by simp only [contR]; rw [toNat_of _ (by omega), toNat_of _ (by omega), if_neg (by omega), if_neg (by omega), Option.some.injEq]; omega) hi (by rw [he]; rfl)
        rw [he]; exact this
      · have he := enc4 r (by omega) (by omega)
        have := stepR_of (UInt8.ofNat (240 + r / 262144)) [UInt8.ofNat (128 + r / 4096 % 64), UInt8.ofNat (128 + r / 64 % 64), UInt8.ofNat (128 + r % 64)] m 4 (r / 262144) r
          (by rw [toNat_of _ (by omega)]; unfold leadN; rw [if_neg (by omega), if_neg (by omega), if_neg (by omega), if_pos (by omega), Prod.mk.injEq]; exact ⟨rfl, by omega⟩) rfl
          (by simp only [contR]; rw [toNat_of _ (by omega), toNat_of _ (by omega), toNat_of _ (by omega), if_neg (by omega), if_neg (by omega), if_neg (by omega), Option.some.injEq]; omega) hi (by rw [he]; rfl)
        rw [he]; exact this
theorem ofNat_eq (b : UInt8) (n : Nat) (h : b.toNat = n) : UInt8.ofNat n = b := by subst h; simp
theorem stepR_some (l : List UInt8) (r n : Nat) (h : stepR l = some (r, n)) : isCh r ∧ l = enc r ++ l.drop n ∧ n = (enc r).length := by
  unfold stepR at h
  split at h
  · cases h
  · rename_i hl
    cases hc : contR ((l.drop 1).take ((leadN (l.getD 0 0).toNat).1 - 1)) (leadN (l.getD 0 0).toNat).2 with
    | none => rw [hc] at h; cases h
    | some x =>
      rw [hc] at h
      simp only at h
      split at h
      · rename_i hx
        cases h
        obtain ⟨hi, hw⟩ := hx
        refine ⟨hi, ?_, hw.symm⟩
        have hw2 := width_range r hi
        rw [hw] at hw2
        have hi2 := hi
        unfold isCh at hi2
        cases l with
        | nil => simp [leadN] at hl
        | cons c t =>
          simp only [List.getD_cons_zero, List.drop_succ_cons, List.drop_zero, List.length_cons] at *
          have hc256 := c.toNat_lt
          by_cases k1 : c.toNat < 128
          · have e : leadN c.toNat = (1, c.toNat) := by unfold leadN; rw [if_pos k1]
            rw [e] at hc hw ⊢
            simp only [Nat.sub_self, List.take_zero, contR, Option.some.injEq] at hc
            subst hc
            rw [enc1 _ (by omega)]
            simp
          · by_cases k2 : 192 ≤ c.toNat ∧ c.toNat < 224
            · have e : leadN c.toNat = (2, c.toNat - 192) := by unfold leadN; rw [if_neg k1, if_pos k2]
              rw [e] at hc hw hw2 hl ⊢
              simp only at hw2
              match t, hl with
              | [], hl => simp at hl
              | b :: t, _ =>
                simp only [List.take_succ_cons, List.take_zero, contR] at hc
                split at hc
                · cases hc
                · rename_i hb
                  rw [Option.some.injEq] at hc
                  subst hc
                  rw [enc2 _ (by omega) (by omega)]
                  have e1 : 192 + ((c.toNat - 192) * 64 + b.toNat - 128) / 64 = c.toNat := by omega
                  have e2 : 128 + ((c.toNat - 192) * 64 + b.toNat - 128) % 64 = b.toNat := by omega
                  rw [e1, e2]
                  simp
            · by_cases k3 : 224 ≤ c.toNat ∧ c.toNat < 240
              · have e : leadN c.toNat = (3, c.toNat - 224) := by unfold leadN; rw [if_neg k1, if_neg k2, if_pos k3]
                rw [e] at hc hw hw2 hl ⊢
                simp only at hw2
                match t, hl with
                | [], hl => simp at hl
                | [_], hl => simp at hl
                | b :: d :: t, _ =>
                  simp only [List.take_succ_cons, List.take_zero, contR] at hc
                  split at hc
                  · cases hc
                  · rename_i hb
                    split at hc
                    · cases hc
                    · rename_i hd
                      rw [Option.some.injEq] at hc
                      subst hc
                      rw [enc3 _ (by omega)]
                      have e1 : 224 + (((c.toNat - 224) * 64 + b.toNat - 128) * 64 + d.toNat - 128) / 4096 = c.toNat := by omega
                      have e2 : 128 + (((c.toNat - 224) * 64 + b.toNat - 128) * 64 + d.toNat - 128) / 64 % 64 = b.toNat := by omega
                      have e3 : 128 + (((c.toNat - 224) * 64 + b.toNat - 128) * 64 + d.toNat - 128) % 64 = d.toNat := by omega
                      rw [e1, e2, e3]
                      simp
              · by_cases k4 : 240 ≤ c.toNat ∧ c.toNat < 248
                · have e : leadN c.toNat = (4, c.toNat - 240) := by unfold leadN; rw [if_neg k1, if_neg k2, if_neg k3, if_pos k4]
                  rw [e] at hc hw hw2 hl ⊢
                  simp only at hw2
                  match t, hl with
                  | [], hl => simp at hl
                  | [_], hl => simp at hl
                  | [_, _], hl => simp at hl
                  | b :: d :: f :: t, _ =>
                    simp only [List.take_succ_cons, List.take_zero, contR] at hc
                    split at hc
                    · cases hc
                    · rename_i hb
                      split at hc
                      · cases hc
                      · rename_i hd
                        split at hc
                        · cases hc
                        · rename_i hf
                          rw [Option.some.injEq] at hc
                          subst hc
                          rw [enc4 _ (by omega) (by omega)]
                          have e1 : 240 + ((((c.toNat - 240) * 64 + b.toNat - 128) * 64 + d.toNat - 128) * 64 + f.toNat - 128) / 262144 = c.toNat := by omega
                          have e2 : 128 + ((((c.toNat - 240) * 64 + b.toNat - 128) * 64 + d.toNat - 128) * 64 + f.toNat - 128) / 4096 % 64 = b.toNat := by omega
                          have e3 : 128 + ((((c.toNat - 240) * 64 + b.toNat - 128) * 64 + d.toNat - 128) * 64 + f.toNat - 128) / 64 % 64 = d.toNat := by omega
                          have e4 : 128 + ((((c.toNat - 240) * 64 + b.toNat - 128) * 64 + d.toNat - 128) * 64 + f.toNat - 128) % 64 = f.toNat := by omega
                          rw [e1, e2, e3, e4]
                          simp
                · exfalso
                  have e : leadN c.toNat = (0, 0) := by unfold leadN; rw [if_neg k1, if_neg k2, if_neg k3, if_neg k4]
                  rw [e] at hl
                  exact hl (Or.inl rfl)
      · cases h
/-- what is told of any bytes -/
def charsOf (l : List UInt8) : Option (List Nat) := if validD l = true then some (rns l) else none
theorem charsOf_step (l : List UInt8) (r n : Nat) (h : stepR l = some (r, n)) : charsOf l = (charsOf (l.drop n)).map (r :: ·) := by
  obtain ⟨hi, hl, _⟩ := stepR_some l r n h
  unfold charsOf
  have hv : validD l = validD (l.drop n) := by conv => lhs; rw [hl]
                                               exact valid_enc r _ hi
  rw [hv]
  split
  · have hr : rns l = r :: rns (l.drop n) := by conv => lhs; rw [hl]
                                                exact rns_enc r _ hi
    rw [hr]; rfl
  · rfl
theorem charsOf_none (l : List UInt8) (hne : l ≠ []) (h : stepR l = none) : charsOf l = none := by
  unfold charsOf
  rw [if_neg]
  intro hv
  rw [validD_step l hne] at hv
  split at hv
  · cases hv
  · rename_i hb
    have he := encode_decode l hne hb
    have hc := decode_ch l
    have hl : l = enc (decodeL l).1 ++ l.drop (decodeL l).2 := by
      show l = encodeRune _ ++ _
      rw [he, List.take_append_drop]
    rw [hl, stepR_enc _ _ hc] at h
    cases h
end Sc
end Go.Proofs.YthkedlcmpibkjaaGreatDoor

namespace Go.Proofs.YthkedlcmpibkjaaGreatDoor
open Go.RowKit

/-- is an integer a character? -/
def chI (r : Int) : Bool := decide (0 ≤ r) && decide (r ≤ 1114111) && (decide (r < 55296) || decide (57343 < r))
theorem chI_nat (r : Nat) : chI (r : Int) = decide (Sc.isCh r) := by
  by_cases h : Sc.isCh r
  · rw [decide_eq_true h]; unfold chI; unfold Sc.isCh at h
    simp only [Bool.and_eq_true, Bool.or_eq_true, decide_eq_true_eq]; omega
  · rw [decide_eq_false h, Bool.eq_false_iff]; unfold chI; unfold Sc.isCh at h
    simp only [ne_eq, Bool.and_eq_true, Bool.or_eq_true, decide_eq_true_eq]; omega

set_option maxHeartbeats 1000000 in
set_option maxRecDepth 100000 in
theorem character_any (r : Int) (w : World) : Calls Tryz.prog 74 #[.int .i64 r] w fun e w' => e = .returned (.bool (chI r)) ∧ w = w' := by
  go_enter Tryz.func74, Tryz.ntmps74
  go_wp2
  all_goals go_ret
  all_goals exact ⟨ret_bool (by unfold chI; rw [Bool.eq_iff_iff]; simp at *; omega), rfl⟩

set_option maxHeartbeats 1000000 in
set_option maxRecDepth 100000 in
theorem lead_any (c : Nat) (w : World) (hc : c < 256) : Calls Tryz.prog 104 #[.int .i64 c] w fun e w' => e = .returned (.tuple #[.int .i64 (Sc.leadN c).1, .int .i64 (Sc.leadN c).2]) ∧ w = w' := by
  go_enter Tryz.func104, Tryz.ntmps104
  go_wp2
  all_goals go_ret2
  all_goals refine ⟨ret_ii ?_ ?_, rfl⟩
  all_goals unfold Sc.leadN
  all_goals (repeat' split) <;> simp <;> omega

/-- the document's May -/
def mayD (r : Int) : Bool := decide (r = 9) || decide (r = 10) || decide (r = 13) || (decide (32 ≤ r) && decide (r ≤ 126)) || decide (r = 133) || (chI r && decide (160 ≤ r) && !decide (r = 65279) && !decide (r = 65534) && !decide (r = 65535))
theorem mayD_eq (r : Int) : mayD r = Sc.mayB r := by
  unfold mayD Sc.mayB chI; rw [Bool.eq_iff_iff]; simp; omega
set_option maxHeartbeats 1000000 in
set_option maxRecDepth 100000 in
theorem mayR_any (r : Int) (w : World) : Calls Tryz.prog 97 #[.int .i64 r] w fun e w' => e = .returned (.bool (Sc.mayB r)) ∧ w = w' := by
  rw [← mayD_eq]
  go_enter Tryz.func97, Tryz.ntmps97
  go_wp2_with (go_at_call 74; refine (character_any _ _).mono ?_; rintro e w' ⟨rfl, rfl⟩)
  all_goals go_ret
  all_goals exact ⟨ret_bool (by unfold mayD; unfold chI at *; rw [Bool.eq_iff_iff]; simp at *; omega), rfl⟩

set_option maxHeartbeats 1000000 in
set_option maxRecDepth 1000000 in
/-- Bytes of a character: a new slice of its bytes -/
theorem bytes_any (r : Nat) (w : World) (h : Sc.isCh r) :
    Calls Tryz.prog 75 #[.int .i64 r] w fun e w' => e = .returned (.slice (some ⟨w.heap.size, 0, none⟩) (Sc.enc r).length (Sc.enc r).length) ∧ w' = w.alloc (.cells (Lib.byteCells (Sc.enc r)).toArray 5) := by
  unfold Sc.isCh at h
  by_cases h1 : r ≤ 127
  · rw [Sc.enc1 r h1]
    have e1 : (Lib.byteCells [UInt8.ofNat r]).toArray = #[Value.int .u8 r] := by simp [Lib.byteCells]; omega
    rw [e1]
    go_enter Tryz.func75, Tryz.ntmps75
    go_wp2
    go_ret
    exact ⟨rfl, rfl⟩
  · by_cases h2 : r ≤ 2047
    · rw [Sc.enc2 r (by omega) h2]
      have e1 : (Lib.byteCells [UInt8.ofNat (192 + r / 64), UInt8.ofNat (128 + r % 64)]).toArray = #[Value.int .u8 (192 + (r : Int) / 64), Value.int .u8 (128 + (r : Int) % 64)] := by
        simp only [Lib.byteCells, List.map_cons, List.map_nil]
        rw [Sc.toNat_of _ (by omega), Sc.toNat_of _ (by omega)]; simp
      rw [e1]
      clear e1
      go_enter Tryz.func75, Tryz.ntmps75
      go_wp2
      go_ret
      exact ⟨rfl, rfl⟩
    · by_cases h3 : r ≤ 65535
      · rw [Sc.enc3 r (by omega)]
        have e1 : (Lib.byteCells [UInt8.ofNat (224 + r / 4096), UInt8.ofNat (128 + r / 64 % 64), UInt8.ofNat (128 + r % 64)]).toArray = #[Value.int .u8 (224 + (r : Int) / 4096), Value.int .u8 (128 + (r : Int) / 64 % 64), Value.int .u8 (128 + (r : Int) % 64)] := by
          simp only [Lib.byteCells, List.map_cons, List.map_nil]
          rw [Sc.toNat_of _ (by omega), Sc.toNat_of _ (by omega), Sc.toNat_of _ (by omega)]; simp
        rw [e1]
        clear e1
        have b1 : decide ((r : Int) < 128) = false := decide_eq_false (by omega)
        have b2 : decide ((r : Int) < 2048) = false := decide_eq_false (by omega)
        have b3 : decide ((r : Int) < 65536) = true := decide_eq_true (by omega)
        have hr0 : r ≤ 65535 := by omega
        clear h h1 h2 h3
        go_enter Tryz.func75, Tryz.ntmps75
        go_wp2
        go_ret
        exact ⟨rfl, rfl⟩
      · rw [Sc.enc4 r (by omega) (by omega)]
        have e1 : (Lib.byteCells [UInt8.ofNat (240 + r / 262144), UInt8.ofNat (128 + r / 4096 % 64), UInt8.ofNat (128 + r / 64 % 64), UInt8.ofNat (128 + r % 64)]).toArray = #[Value.int .u8 (240 + (r : Int) / 262144), Value.int .u8 (128 + (r : Int) / 4096 % 64), Value.int .u8 (128 + (r : Int) / 64 % 64), Value.int .u8 (128 + (r : Int) % 64)] := by
          simp only [Lib.byteCells, List.map_cons, List.map_nil]
          rw [Sc.toNat_of _ (by omega), Sc.toNat_of _ (by omega), Sc.toNat_of _ (by omega), Sc.toNat_of _ (by omega)]; simp
        rw [e1]
        clear e1
        have b1 : decide ((r : Int) < 128) = false := decide_eq_false (by omega)
        have b2 : decide ((r : Int) < 2048) = false := decide_eq_false (by omega)
        have b3 : decide ((r : Int) < 65536) = false := decide_eq_false (by omega)
        have hr0 : r ≤ 1114111 := by omega
        clear h h1 h2 h3
        go_enter Tryz.func75, Tryz.ntmps75
        go_wp2
        go_ret
        exact ⟨rfl, rfl⟩

/-- a slice of bytes that is read: it lies below block B -/
def RdB (w : World) (B : Nat) (a : Option Addr) (l : List UInt8) : Prop :=
  0 < l.length → ∃ g off, a = some ⟨g, off, none⟩ ∧ g < B ∧ ∀ (j : Nat) (h : j < l.length), w.cell? ⟨g, off + j, none⟩ = some (.int .u8 (l[j]'h).toNat)
/-- a slice of integers that is read -/
def RdI (w : World) (B : Nat) (a : Option Addr) (l : List Nat) : Prop :=
  0 < l.length → ∃ g off, a = some ⟨g, off, none⟩ ∧ g < B ∧ ∀ (j : Nat) (h : j < l.length), w.cell? ⟨g, off + j, none⟩ = some (.int .i64 (l[j]'h : Nat))
theorem RdB.below {w w' : World} {B : Nat} {a : Option Addr} {l : List UInt8} (h : RdB w B a l) (hb : Below B w w') : RdB w' B a l := fun h0 => by
  obtain ⟨g, off, e, hg, hc⟩ := h h0
  exact ⟨g, off, e, hg, fun j hj => (hb.cell (p := ⟨g, off + j, none⟩) hg).trans (hc j hj)⟩
theorem RdI.below {w w' : World} {B : Nat} {a : Option Addr} {l : List Nat} (h : RdI w B a l) (hb : Below B w w') : RdI w' B a l := fun h0 => by
  obtain ⟨g, off, e, hg, hc⟩ := h h0
  exact ⟨g, off, e, hg, fun j hj => (hb.cell (p := ⟨g, off + j, none⟩) hg).trans (hc j hj)⟩
theorem RdB.more {w : World} {B B' : Nat} {a : Option Addr} {l : List UInt8} (h : RdB w B a l) (hB : B ≤ B') : RdB w B' a l := fun h0 => by
  obtain ⟨g, off, e, hg, hc⟩ := h h0
  exact ⟨g, off, e, by omega, hc⟩
theorem RdI.more {w : World} {B B' : Nat} {a : Option Addr} {l : List Nat} (h : RdI w B a l) (hB : B ≤ B') : RdI w B' a l := fun h0 => by
  obtain ⟨g, off, e, hg, hc⟩ := h h0
  exact ⟨g, off, e, by omega, hc⟩
/-- the address of a cut -/
def cutA (a : Option Addr) (k : Nat) : Option Addr := a.map (·.add k)
theorem RdB.cut {w : World} {B : Nat} {a : Option Addr} {l : List UInt8} (h : RdB w B a l) (k : Nat) (hk : k < l.length) : RdB w B (cutA a k) (l.drop k) := fun h0 => by
  obtain ⟨g, off, rfl, hg, hc⟩ := h (by omega)
  have e : (⟨g, off, none⟩ : Addr).add k = ⟨g, off + k, none⟩ := by unfold Addr.add; split <;> simp_all
  refine ⟨g, off + k, by simp [cutA, e], hg, fun j hj => ?_⟩
  rw [List.length_drop] at hj
  rw [Nat.add_assoc, hc (k + j) (by omega), List.getElem_drop]
theorem RdI.cut {w : World} {B : Nat} {a : Option Addr} {l : List Nat} (h : RdI w B a l) (k : Nat) (hk : k < l.length) : RdI w B (cutA a k) (l.drop k) := fun h0 => by
  obtain ⟨g, off, rfl, hg, hc⟩ := h (by omega)
  have e : (⟨g, off, none⟩ : Addr).add k = ⟨g, off + k, none⟩ := by unfold Addr.add; split <;> simp_all
  refine ⟨g, off + k, by simp [cutA, e], hg, fun j hj => ?_⟩
  rw [List.length_drop] at hj
  rw [Nat.add_assoc, hc (k + j) (by omega), List.getElem_drop]
/-- integers that the call owns -/
def OwnI (w : World) (B : Nat) (v : Value) (l : List Nat) : Prop := w.ownsRow B 3 1 v l.length (l.map fun (r : Nat) => Value.int .i64 (r : Int))
theorem ownI_nil (w : World) (B : Nat) : OwnI w B (.slice none 0 0) [] := World.ownsRow_nil w B 3 1
theorem ownI_alloc {w : World} {B : Nat} {v : Value} {l : List Nat} (h : OwnI w B v l) (o : Obj) : OwnI (w.alloc o) B v l := World.ownsRow.alloc h o
theorem ownI_below {w w' : World} {B : Nat} {v : Value} {l : List Nat} (h : OwnI w B v l) (hb : Below w.heap.size w w') : OwnI w' B v l := by
  obtain ⟨h1, h2⟩ := h
  refine ⟨h1, ?_⟩
  rcases h2 with h2 | ⟨g, cap, cur, hv, hB, hh, hr⟩
  · exact .inl h2
  · exact .inr ⟨g, cap, cur, hv, hB, (hb.block g (Array.getElem?_eq_some_iff.1 hh).1).trans hh, hr⟩
/-- what is owned can be read -/
theorem OwnI.form {w : World} {B : Nat} {v : Value} {l : List Nat} (h : OwnI w B v l) : ∃ a cap, v = .slice a l.length cap ∧ l.length ≤ cap ∧ cap ≤ maxLen ∧ RdI w w.heap.size a l := by
  have h' := h
  rcases h.2 with ⟨rfl, h0⟩ | ⟨g, cap, cur, rfl, hB, hh, hn, hm, hr⟩
  · exact ⟨none, 0, by rw [h0], by omega, by decide, fun hp => absurd hp (by omega)⟩
  · refine ⟨_, cap, rfl, hn, hm, fun _ => ⟨g, 0, rfl, (Array.getElem?_eq_some_iff.1 hh).1, fun j hj => ?_⟩⟩
    have := World.ownsRow.cells h' (g := g) rfl j (.int .i64 (l[j] : Nat)) (by simp [hj])
    have e : (⟨g, 0, none⟩ : Addr).add j = ⟨g, 0 + j, none⟩ := by unfold Addr.add; split <;> simp_all
    rw [e] at this
    exact this
theorem Own.form {w : World} {B : Nat} {v : Value} {l : List UInt8} (h : Own w B v l) : ∃ a cap, v = .slice a l.length cap ∧ l.length ≤ cap ∧ cap ≤ maxLen ∧ RdB w w.heap.size a l := by
  have h' := h
  rcases h.2 with ⟨rfl, h0⟩ | ⟨g, cap, cur, rfl, hB, hh, hn, hm, hr⟩
  · exact ⟨none, 0, by rw [h0], by omega, by decide, fun hp => absurd hp (by omega)⟩
  · refine ⟨_, cap, rfl, hn, hm, fun _ => ⟨g, 0, rfl, (Array.getElem?_eq_some_iff.1 hh).1, fun j hj => ?_⟩⟩
    have := World.ownsRow.cells h' (g := g) rfl j (.int .u8 (l[j]).toNat) (by simp [Lib.byteCells, hj])
    have e : (⟨g, 0, none⟩ : Addr).add j = ⟨g, 0 + j, none⟩ := by unfold Addr.add; split <;> simp_all
    rw [e] at this
    exact this

theorem info3 : (Tryz.prog.info? 3).map (fun i => (i.zero, i.size, i.bytes)) = some (some (.int .i64 0), 1, 8) := by kernel_rfl
/-- 'append' of one integer that was just laid, onto integers that the call owns -/
theorem wpList_pushI {ops : Array Oper} {rest : List Oper} {o : Oper} {a : Act} {Q : Exit → Act → World → Prop} (hgd : o.guard = none) (s x : Operand)
    (ho : o.op = .call { callee := .builtin .append, args := #[s, x], argTypes := #[72, 72] }) (B : Nat) (v : Value) (l m : List Nat) (w0 : World) (C : Array Value) (n c : Nat)
    (hs : a.eval s = v) (ga : Nat) (hx : a.eval x = .slice (some ⟨ga, 0, none⟩) n c) (hga : ga = w0.heap.size) (hC : C = (m.map fun (r : Nat) => Value.int .i64 (r : Int)).toArray) (hm : n = m.length) (hown : OwnI w0 B v l) (hl : l.length + m.length ≤ 2000000) (hB : B ≤ w0.heap.size)
    (h : ∀ v' w', OwnI w' B v' (l ++ m) → Below B w0 w' → B ≤ w'.heap.size → wpList Tryz.prog ops Q rest (a.put o.dst v') w') :
    wpList Tryz.prog ops Q (o :: rest) a (w0.alloc (.cells C 3)) := by
  subst hC hm hga
  obtain ⟨i0, hi, hz0, hz1, hz2⟩ := info_parts info3
  refine wpList_append_own _ hgd s x 72 ho B 3 i0 (.int .i64 0) 1 8 Tryz.underlying72 hi hz0 hz1 hz2 rfl (by decide) v l.length (l.map fun (r : Nat) => Value.int .i64 (r : Int)) hs (ownI_alloc hown _) ⟨w0.heap.size, 0, none⟩ m.length c (m.map fun (r : Nat) => Value.int .i64 (r : Int)) hx (by rw [List.length_map, Nat.mul_one])
    (fun j u hu => cells_of_new w0 3 _ j u hu) (fun u hu => by simp only [List.mem_map] at hu; obtain ⟨b, _, rfl⟩ := hu; rfl) (by simp only [maxLen]; omega) (by omega) (by rw [World.size_alloc]; omega) ?_
  intro v' w' ho' hg _
  have hk : Below B w0 w' := ((Below.refl B w0).alloc hB _).grown hg (by rw [World.size_alloc]; omega) (fun k hk => (hown.lt k hk).1)
  refine h v' w' ?_ hk (Nat.le_trans hB hk.size)
  unfold OwnI
  rw [List.length_append, List.map_append]
  exact ho'
end Go.Proofs.YthkedlcmpibkjaaGreatDoor
