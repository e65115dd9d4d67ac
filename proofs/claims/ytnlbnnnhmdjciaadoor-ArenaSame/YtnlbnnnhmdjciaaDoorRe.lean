/-
  Plain mathematics: the document's own way to read characters from bytes, against the decoder's.
  Walks of the document's own small functions: Character, lead, Bytes, May; rows of integers that a call owns; slices that are read.
  Walks of the document's fits and Detect.
  Walk of the document's plain: the characters of bytes.
  Walks of the document's Runes (of bytes with the mark of Utf8) and Chars.
-/
import Derived.Test.YtnlbnnnhmdjciaaDoorMc
import Derived.Test.YtnlbnnnhmdjciaaDoorWf
import Derived.Test.YtnlbnnnhmdjciaaDoorWi
import Derived.Lib.AppendStr
namespace Go.Proofs.YtnlbnnnhmdjciaaDoor
namespace Sc
open Go.Lib

/-- how many bytes a first byte asks for, and its own bits -/
def leadN (c : Nat) : Nat × Nat :=
  if c < 128 then (1, c) else if 192 ≤ c ∧ c < 224 then (2, c - 192) else if 224 ≤ c ∧ c < 240 then (3, c - 224) else if 240 ≤ c ∧ c < 248 then (4, c - 240) else (0, 0)
/-- the bits of bytes that follow -/
def contR : List UInt8 → Nat → Option Nat
  | [], r => some r
  | b :: t, r => if b.toNat < 128 ∨ 191 < b.toNat then none else contR t (r * 64 + b.toNat - 128)
/-- a character, and its width -/
def stepR (l : List UInt8) : Option (Nat × Nat) :=
  if (leadN (l.getD 0 0).toNat).1 = 0 ∨ l.length < (leadN (l.getD 0 0).toNat).1 then none else
    match contR ((l.drop 1).take ((leadN (l.getD 0 0).toNat).1 - 1)) (leadN (l.getD 0 0).toNat).2 with
    | none => none
    | some r => if isCh r ∧ (enc r).length = (leadN (l.getD 0 0).toNat).1 then some (r, (leadN (l.getD 0 0).toNat).1) else none

theorem enc_width (r : Nat) (h : isCh r) : (enc r).length = if r < 128 then 1 else if r < 2048 then 2 else if r < 65536 then 3 else 4 := by
  unfold isCh at h
  by_cases h1 : r ≤ 127
  · rw [enc1 r h1, if_pos (by omega)]; rfl
  · by_cases h2 : r ≤ 2047
    · rw [enc2 r (by omega) h2, if_neg (by omega), if_pos (by omega)]; rfl
    · by_cases h3 : r ≤ 65535
      · rw [enc3 r (by omega), if_neg (by omega), if_neg (by omega), if_pos (by omega)]; rfl
      · rw [enc4 r (by omega) (by omega), if_neg (by omega), if_neg (by omega), if_neg (by omega)]; rfl
theorem width_range (r : Nat) (h : isCh r) : (r < 128 ∧ (enc r).length = 1) ∨ (128 ≤ r ∧ r < 2048 ∧ (enc r).length = 2) ∨ (2048 ≤ r ∧ r < 65536 ∧ (enc r).length = 3) ∨ (65536 ≤ r ∧ (enc r).length = 4) := by
  have := enc_width r h
  split at this
  · omega
  · split at this
    · omega
    · split at this <;> omega
theorem stepR_of (c : UInt8) (t m : List UInt8) (n r0 r : Nat) (hl : leadN c.toNat = (n, r0)) (hn : n = t.length + 1) (hc : contR t r0 = some r) (hi : isCh r) (hw : (enc r).length = n) : stepR (c :: (t ++ m)) = some (r, n) := by
  unfold stepR
  simp only [List.getD_cons_zero, hl, List.length_cons, List.length_append, List.drop_succ_cons, List.drop_zero]
  subst hn
  rw [if_neg (by omega)]
  have e : (t ++ m).take (t.length + 1 - 1) = t := by simp
  rw [e, hc]
  simp only
  rw [if_pos ⟨hi, hw⟩]
theorem stepR_enc (r : Nat) (m : List UInt8) (h : isCh r) : stepR (enc r ++ m) = some (r, (enc r).length) := by
  have hi := h
  unfold isCh at h
  by_cases h1 : r ≤ 127
  · have he := enc1 r h1
    have := stepR_of (UInt8.ofNat r) [] m 1 r r (by rw [toNat_of r (by omega)]; unfold leadN; rw [if_pos (by omega)]) rfl rfl hi (by rw [he]; rfl)
    rw [he]; exact this
  · by_cases h2 : r ≤ 2047
    · have he := enc2 r (by omega) h2
      have := stepR_of (UInt8.ofNat (192 + r / 64)) [UInt8.ofNat (128 + r % 64)] m 2 (r / 64) r
        (by rw [toNat_of _ (by omega)]; unfold leadN; rw [if_neg (by omega), if_pos (by omega), Prod.mk.injEq]; exact ⟨rfl, by omega⟩) rfl
        (by simp only [contR]; rw [toNat_of _ (by omega), if_neg (by omega), Option.some.injEq]; omega) hi (by rw [he]; rfl)
      rw [he]; exact this
    · by_cases h3 : r ≤ 65535
      · have he := enc3 r (by omega)
        have := stepR_of (UInt8.ofNat (224 + r / 4096)) [UInt8.ofNat (128 + r / 64 % 64), UInt8.ofNat (128 + r % 64)] m 3 (r / 4096) r
          (by rw [toNat_of _ (by omega)]; unfold leadN; rw [if_neg (by omega), if_neg (by omega), if_pos (by omega), Prod.mk.injEq]; exact ⟨rfl, by omega⟩) rfl
          (by simp only [contR]; rw [toNat_of _ (by omega), toNat_of _ (by omega), if_neg (by omega), if_neg (by omega), Option.some.injEq]; omega) hi (by rw [he]; rfl)
        rw [he]; exact this
      · have he := enc4 r (by omega) (by omega)
        have := stepR_of (UInt8.ofNat (240 + r / 262144)) [UInt8.ofNat (128 + r / 4096 % 64), UInt8.ofNat (128 + r / 64 % 64), UInt8.ofNat (128 + r % 64)] m 4 (r / 262144) r
          (by rw [toNat_of _ (by omega)]; unfold leadN; rw [if_neg (by omega), if_neg (by omega), if_neg (by omega), if_pos (by omega), Prod.mk.injEq]; exact ⟨rfl, by omega⟩) rfl
          (by simp only [contR]; rw [toNat_of _ (by omega), toNat_of _ (by omega), toNat_of _ (by omega), if_neg (by omega), if_neg (by omega), if_neg (by omega), Option.some.injEq]; omega) hi (by rw [he]; rfl)
        rw [he]; exact this
theorem ofNat_eq (b : UInt8) (n : Nat) (h : b.toNat = n) : UInt8.ofNat n = b := by subst h; simp
theorem stepR_some (l : List UInt8) (r n : Nat) (h : stepR l = some (r, n)) : isCh r ∧ l = enc r ++ l.drop n ∧ n = (enc r).length := by
  unfold stepR at h
  split at h
  · cases h
  · rename_i hl
    cases hc : contR ((l.drop 1).take ((leadN (l.getD 0 0).toNat).1 - 1)) (leadN (l.getD 0 0).toNat).2 with
    | none => rw [hc] at h; cases h
    | some x =>
      rw [hc] at h
      simp only at h
      split at h
      · rename_i hx
        cases h
        obtain ⟨hi, hw⟩ := hx
        refine ⟨hi, ?_, hw.symm⟩
        have hw2 := width_range r hi
        rw [hw] at hw2
        have hi2 := hi
        unfold isCh at hi2
        cases l with
        | nil => simp [leadN] at hl
        | cons c t =>
          simp only [List.getD_cons_zero, List.drop_succ_cons, List.drop_zero, List.length_cons] at *
          have hc256 := c.toNat_lt
          by_cases k1 : c.toNat < 128
          · have e : leadN c.toNat = (1, c.toNat) := by unfold leadN; rw [if_pos k1]
            rw [e] at hc hw ⊢
            simp only [Nat.sub_self, List.take_zero, contR, Option.some.injEq] at hc
            subst hc
            rw [enc1 _ (by omega)]
            simp
          · by_cases k2 : 192 ≤ c.toNat ∧ c.toNat < 224
            · have e : leadN c.toNat = (2, c.toNat - 192) := by unfold leadN; rw [if_neg k1, if_pos k2]
              rw [e] at hc hw hw2 hl ⊢
              simp only at hw2
              match t, hl with
              | [], hl => simp at hl
              | b :: t, _ =>
                simp only [List.take_succ_cons, List.take_zero, contR] at hc
                split at hc
                · cases hc
                · rename_i hb
                  rw [Option.some.injEq] at hc
                  subst hc
                  rw [enc2 _ (by omega) (by omega)]
                  have e1 : 192 + ((c.toNat - 192) * 64 + b.toNat - 128) / 64 = c.toNat := by omega
                  have e2 : 128 + ((c.toNat - 192) * 64 + b.toNat - 128) % 64 = b.toNat := by omega
                  rw [e1, e2]
                  simp
            · by_cases k3 : 224 ≤ c.toNat ∧ c.toNat < 240
              · have e : leadN c.toNat = (3, c.toNat - 224) := by unfold leadN; rw [if_neg k1, if_neg k2, if_pos k3]
                rw [e] at hc hw hw2 hl ⊢
                simp only at hw2
                match t, hl with
                | [], hl => simp at hl
                | [_], hl => simp at hl
                | b :: d :: t, _ =>
                  simp only [List.take_succ_cons, List.take_zero, contR] at hc
                  split at hc
                  · cases hc
                  · rename_i hb
                    split at hc
                    · cases hc
                    · rename_i hd
                      rw [Option.some.injEq] at hc
                      subst hc
                      rw [enc3 _ (by omega)]
                      have e1 : 224 + (((c.toNat - 224) * 64 + b.toNat - 128) * 64 + d.toNat - 128) / 4096 = c.toNat := by omega
                      have e2 : 128 + (((c.toNat - 224) * 64 + b.toNat - 128) * 64 + d.toNat - 128) / 64 % 64 = b.toNat := by omega
                      have e3 : 128 + (((c.toNat - 224) * 64 + b.toNat - 128) * 64 + d.toNat - 128) % 64 = d.toNat := by omega
                      rw [e1, e2, e3]
                      simp
              · by_cases k4 : 240 ≤ c.toNat ∧ c.toNat < 248
                · have e : leadN c.toNat = (4, c.toNat - 240) := by unfold leadN; rw [if_neg k1, if_neg k2, if_neg k3, if_pos k4]
                  rw [e] at hc hw hw2 hl ⊢
                  simp only at hw2
                  match t, hl with
                  | [], hl => simp at hl
                  | [_], hl => simp at hl
                  | [_, _], hl => simp at hl
                  | b :: d :: f :: t, _ =>
                    simp only [List.take_succ_cons, List.take_zero, contR] at hc
                    split at hc
                    · cases hc
                    · rename_i hb
                      split at hc
                      · cases hc
                      · rename_i hd
                        split at hc
                        · cases hc
                        · rename_i hf
                          rw [Option.some.injEq] at hc
                          subst hc
                          rw [enc4 _ (by omega) (by omega)]
                          have e1 : 240 + ((((c.toNat - 240) * 64 + b.toNat - 128) * 64 + d.toNat - 128) * 64 + f.toNat - 128) / 262144 = c.toNat := by omega
                          have e2 : 128 + ((((c.toNat - 240) * 64 + b.toNat - 128) * 64 + d.toNat - 128) * 64 + f.toNat - 128) / 4096 % 64 = b.toNat := by omega
                          have e3 : 128 + ((((c.toNat - 240) * 64 + b.toNat - 128) * 64 + d.toNat - 128) * 64 + f.toNat - 128) / 64 % 64 = d.toNat := by omega
                          have e4 : 128 + ((((c.toNat - 240) * 64 + b.toNat - 128) * 64 + d.toNat - 128) * 64 + f.toNat - 128) % 64 = f.toNat := by omega
                          rw [e1, e2, e3, e4]
                          simp
                · exfalso
                  have e : leadN c.toNat = (0, 0) := by unfold leadN; rw [if_neg k1, if_neg k2, if_neg k3, if_neg k4]
                  rw [e] at hl
                  exact hl (Or.inl rfl)
      · cases h
/-- what is told of any bytes -/
def charsOf (l : List UInt8) : Option (List Nat) := if validD l = true then some (rns l) else none
theorem charsOf_step (l : List UInt8) (r n : Nat) (h : stepR l = some (r, n)) : charsOf l = (charsOf (l.drop n)).map (r :: ·) := by
  obtain ⟨hi, hl, _⟩ := stepR_some l r n h
  unfold charsOf
  have hv : validD l = validD (l.drop n) := by conv => lhs; rw [hl]
                                               exact valid_enc r _ hi
  rw [hv]
  split
  · have hr : rns l = r :: rns (l.drop n) := by conv => lhs; rw [hl]
                                                exact rns_enc r _ hi
    rw [hr]; rfl
  · rfl
theorem charsOf_none (l : List UInt8) (hne : l ≠ []) (h : stepR l = none) : charsOf l = none := by
  unfold charsOf
  rw [if_neg]
  intro hv
  rw [validD_step l hne] at hv
  split at hv
  · cases hv
  · rename_i hb
    have he := encode_decode l hne hb
    have hc := decode_ch l
    have hl : l = enc (decodeL l).1 ++ l.drop (decodeL l).2 := by
      show l = encodeRune _ ++ _
      rw [he, List.take_append_drop]
    rw [hl, stepR_enc _ _ hc] at h
    cases h
end Sc
end Go.Proofs.YtnlbnnnhmdjciaaDoor
namespace Go.Proofs.YtnlbnnnhmdjciaaDoor
open Go.RowKit

/-- is an integer a character? -/
def chI (r : Int) : Bool := decide (0 ≤ r) && decide (r ≤ 1114111) && (decide (r < 55296) || decide (57343 < r))
theorem chI_nat (r : Nat) : chI (r : Int) = decide (Sc.isCh r) := by
  by_cases h : Sc.isCh r
  · rw [decide_eq_true h]; unfold chI; unfold Sc.isCh at h
    simp only [Bool.and_eq_true, Bool.or_eq_true, decide_eq_true_eq]; omega
  · rw [decide_eq_false h, Bool.eq_false_iff]; unfold chI; unfold Sc.isCh at h
    simp only [ne_eq, Bool.and_eq_true, Bool.or_eq_true, decide_eq_true_eq]; omega

set_option maxHeartbeats 1000000 in
set_option maxRecDepth 100000 in
theorem character_any (r : Int) (w : World) : Calls Tryd.prog 71 #[.int .i64 r] w fun e w' => e = .returned (.bool (chI r)) ∧ w = w' := by
  go_enter Tryd.func71, Tryd.ntmps71
  go_wp2
  all_goals go_ret
  all_goals exact ⟨ret_bool (by unfold chI; rw [Bool.eq_iff_iff]; simp at *; omega), rfl⟩

set_option maxHeartbeats 1000000 in
set_option maxRecDepth 100000 in
theorem lead_any (c : Nat) (w : World) (hc : c < 256) : Calls Tryd.prog 88 #[.int .i64 c] w fun e w' => e = .returned (.tuple #[.int .i64 (Sc.leadN c).1, .int .i64 (Sc.leadN c).2]) ∧ w = w' := by
  go_enter Tryd.func88, Tryd.ntmps88
  go_wp2
  all_goals go_ret2
  all_goals refine ⟨ret_ii ?_ ?_, rfl⟩
  all_goals unfold Sc.leadN
  all_goals (repeat' split) <;> simp <;> omega

/-- the document's May -/
def mayD (r : Int) : Bool := decide (r = 9) || decide (r = 10) || decide (r = 13) || (decide (32 ≤ r) && decide (r ≤ 126)) || decide (r = 133) || (chI r && decide (160 ≤ r) && !decide (r = 65279) && !decide (r = 65534) && !decide (r = 65535))
theorem mayD_eq (r : Int) : mayD r = Sc.mayB r := by
  unfold mayD Sc.mayB chI; rw [Bool.eq_iff_iff]; simp; omega
set_option maxHeartbeats 1000000 in
set_option maxRecDepth 1000000 in
/-- Bytes of a character: a new slice of its bytes -/
theorem bytes_any (r : Nat) (w : World) (h : Sc.isCh r) :
    Calls Tryd.prog 89 #[.int .i64 r] w fun e w' => e = .returned (.slice (some ⟨w.heap.size, 0, none⟩) (Sc.enc r).length (Sc.enc r).length) ∧ w' = w.alloc (.cells (Lib.byteCells (Sc.enc r)).toArray 5) := by
  unfold Sc.isCh at h
  by_cases h1 : r ≤ 127
  · rw [Sc.enc1 r h1]
    have e1 : (Lib.byteCells [UInt8.ofNat r]).toArray = #[Value.int .u8 r] := by simp [Lib.byteCells]; omega
    rw [e1]
    go_enter Tryd.func89, Tryd.ntmps89
    go_wp2
    go_ret
    exact ⟨rfl, rfl⟩
  · by_cases h2 : r ≤ 2047
    · rw [Sc.enc2 r (by omega) h2]
      have e1 : (Lib.byteCells [UInt8.ofNat (192 + r / 64), UInt8.ofNat (128 + r % 64)]).toArray = #[Value.int .u8 (192 + (r : Int) / 64), Value.int .u8 (128 + (r : Int) % 64)] := by
        simp only [Lib.byteCells, List.map_cons, List.map_nil]
        rw [Sc.toNat_of _ (by omega), Sc.toNat_of _ (by omega)]; simp
      rw [e1]
      clear e1
      go_enter Tryd.func89, Tryd.ntmps89
      go_wp2
      go_ret
      exact ⟨rfl, rfl⟩
    · by_cases h3 : r ≤ 65535
      · rw [Sc.enc3 r (by omega)]
        have e1 : (Lib.byteCells [UInt8.ofNat (224 + r / 4096), UInt8.ofNat (128 + r / 64 % 64), UInt8.ofNat (128 + r % 64)]).toArray = #[Value.int .u8 (224 + (r : Int) / 4096), Value.int .u8 (128 + (r : Int) / 64 % 64), Value.int .u8 (128 + (r : Int) % 64)] := by
          simp only [Lib.byteCells, List.map_cons, List.map_nil]
          rw [Sc.toNat_of _ (by omega), Sc.toNat_of _ (by omega), Sc.toNat_of _ (by omega)]; simp
        rw [e1]
        clear e1
        have b1 : decide ((r : Int) < 128) = false := decide_eq_false (by omega)
        have b2 : decide ((r : Int) < 2048) = false := decide_eq_false (by omega)
        have b3 : decide ((r : Int) < 65536) = true := decide_eq_true (by omega)
        have hr0 : r ≤ 65535 := by omega
        clear h h1 h2 h3
        go_enter Tryd.func89, Tryd.ntmps89
        go_wp2
        go_ret
        exact ⟨rfl, rfl⟩
      · rw [Sc.enc4 r (by omega) (by omega)]
        have e1 : (Lib.byteCells [UInt8.ofNat (240 + r / 262144), UInt8.ofNat (128 + r / 4096 % 64), UInt8.ofNat (128 + r / 64 % 64), UInt8.ofNat (128 + r % 64)]).toArray = #[Value.int .u8 (240 + (r : Int) / 262144), Value.int .u8 (128 + (r : Int) / 4096 % 64), Value.int .u8 (128 + (r : Int) / 64 % 64), Value.int .u8 (128 + (r : Int) % 64)] := by
          simp only [Lib.byteCells, List.map_cons, List.map_nil]
          rw [Sc.toNat_of _ (by omega), Sc.toNat_of _ (by omega), Sc.toNat_of _ (by omega), Sc.toNat_of _ (by omega)]; simp
        rw [e1]
        clear e1
        have b1 : decide ((r : Int) < 128) = false := decide_eq_false (by omega)
        have b2 : decide ((r : Int) < 2048) = false := decide_eq_false (by omega)
        have b3 : decide ((r : Int) < 65536) = false := decide_eq_false (by omega)
        have hr0 : r ≤ 1114111 := by omega
        clear h h1 h2 h3
        go_enter Tryd.func89, Tryd.ntmps89
        go_wp2
        go_ret
        exact ⟨rfl, rfl⟩

/-- a slice of bytes that is read: it lies below block B -/
def RdB (w : World) (B : Nat) (a : Option Addr) (l : List UInt8) : Prop :=
  0 < l.length → ∃ g off, a = some ⟨g, off, none⟩ ∧ g < B ∧ ∀ (j : Nat) (h : j < l.length), w.cell? ⟨g, off + j, none⟩ = some (.int .u8 (l[j]'h).toNat)
/-- a slice of integers that is read -/
def RdC (w : World) (B : Nat) (a : Option Addr) (l : List Nat) : Prop :=
  0 < l.length → ∃ g off, a = some ⟨g, off, none⟩ ∧ g < B ∧ ∀ (j : Nat) (h : j < l.length), w.cell? ⟨g, off + j, none⟩ = some (.int .i64 (l[j]'h : Nat))
theorem RdB.below {w w' : World} {B : Nat} {a : Option Addr} {l : List UInt8} (h : RdB w B a l) (hb : Below B w w') : RdB w' B a l := fun h0 => by
  obtain ⟨g, off, e, hg, hc⟩ := h h0
  exact ⟨g, off, e, hg, fun j hj => (hb.cell (p := ⟨g, off + j, none⟩) hg).trans (hc j hj)⟩
theorem RdC.below {w w' : World} {B : Nat} {a : Option Addr} {l : List Nat} (h : RdC w B a l) (hb : Below B w w') : RdC w' B a l := fun h0 => by
  obtain ⟨g, off, e, hg, hc⟩ := h h0
  exact ⟨g, off, e, hg, fun j hj => (hb.cell (p := ⟨g, off + j, none⟩) hg).trans (hc j hj)⟩
theorem RdB.more {w : World} {B B' : Nat} {a : Option Addr} {l : List UInt8} (h : RdB w B a l) (hB : B ≤ B') : RdB w B' a l := fun h0 => by
  obtain ⟨g, off, e, hg, hc⟩ := h h0
  exact ⟨g, off, e, by omega, hc⟩
theorem RdC.more {w : World} {B B' : Nat} {a : Option Addr} {l : List Nat} (h : RdC w B a l) (hB : B ≤ B') : RdC w B' a l := fun h0 => by
  obtain ⟨g, off, e, hg, hc⟩ := h h0
  exact ⟨g, off, e, by omega, hc⟩
/-- the address of a cut -/
def cutA (a : Option Addr) (k : Nat) : Option Addr := a.map (·.add k)
theorem RdB.cut {w : World} {B : Nat} {a : Option Addr} {l : List UInt8} (h : RdB w B a l) (k : Nat) (hk : k < l.length) : RdB w B (cutA a k) (l.drop k) := fun h0 => by
  obtain ⟨g, off, rfl, hg, hc⟩ := h (by omega)
  have e : (⟨g, off, none⟩ : Addr).add k = ⟨g, off + k, none⟩ := by unfold Addr.add; split <;> simp_all
  refine ⟨g, off + k, by simp [cutA, e], hg, fun j hj => ?_⟩
  rw [List.length_drop] at hj
  rw [Nat.add_assoc, hc (k + j) (by omega), List.getElem_drop]
theorem RdC.cut {w : World} {B : Nat} {a : Option Addr} {l : List Nat} (h : RdC w B a l) (k : Nat) (hk : k < l.length) : RdC w B (cutA a k) (l.drop k) := fun h0 => by
  obtain ⟨g, off, rfl, hg, hc⟩ := h (by omega)
  have e : (⟨g, off, none⟩ : Addr).add k = ⟨g, off + k, none⟩ := by unfold Addr.add; split <;> simp_all
  refine ⟨g, off + k, by simp [cutA, e], hg, fun j hj => ?_⟩
  rw [List.length_drop] at hj
  rw [Nat.add_assoc, hc (k + j) (by omega), List.getElem_drop]
/-- integers that the call owns -/
def OwnC (w : World) (B : Nat) (v : Value) (l : List Nat) : Prop := w.ownsRow B 3 1 v l.length (l.map fun (r : Nat) => Value.int .i64 (r : Int))
theorem ownI_nil (w : World) (B : Nat) : OwnC w B (.slice none 0 0) [] := World.ownsRow_nil w B 3 1
theorem ownI_alloc {w : World} {B : Nat} {v : Value} {l : List Nat} (h : OwnC w B v l) (o : Obj) : OwnC (w.alloc o) B v l := World.ownsRow.alloc h o
theorem ownI_below {w w' : World} {B : Nat} {v : Value} {l : List Nat} (h : OwnC w B v l) (hb : Below w.heap.size w w') : OwnC w' B v l := by
  obtain ⟨h1, h2⟩ := h
  refine ⟨h1, ?_⟩
  rcases h2 with h2 | ⟨g, cap, cur, hv, hB, hh, hr⟩
  · exact .inl h2
  · exact .inr ⟨g, cap, cur, hv, hB, (hb.block g (Array.getElem?_eq_some_iff.1 hh).1).trans hh, hr⟩
/-- what is owned can be read -/
theorem OwnC.form {w : World} {B : Nat} {v : Value} {l : List Nat} (h : OwnC w B v l) : ∃ a cap, v = .slice a l.length cap ∧ l.length ≤ cap ∧ cap ≤ maxLen ∧ RdC w w.heap.size a l := by
  have h' := h
  rcases h.2 with ⟨rfl, h0⟩ | ⟨g, cap, cur, rfl, hB, hh, hn, hm, hr⟩
  · exact ⟨none, 0, by rw [h0], by omega, by decide, fun hp => absurd hp (by omega)⟩
  · refine ⟨_, cap, rfl, hn, hm, fun _ => ⟨g, 0, rfl, (Array.getElem?_eq_some_iff.1 hh).1, fun j hj => ?_⟩⟩
    have := World.ownsRow.cells h' (g := g) rfl j (.int .i64 (l[j] : Nat)) (by simp [hj])
    have e : (⟨g, 0, none⟩ : Addr).add j = ⟨g, 0 + j, none⟩ := by unfold Addr.add; split <;> simp_all
    rw [e] at this
    exact this
theorem Own.form {w : World} {B : Nat} {v : Value} {l : List UInt8} (h : Own w B v l) : ∃ a cap, v = .slice a l.length cap ∧ l.length ≤ cap ∧ cap ≤ maxLen ∧ RdB w w.heap.size a l := by
  have h' := h
  rcases h.2 with ⟨rfl, h0⟩ | ⟨g, cap, cur, rfl, hB, hh, hn, hm, hr⟩
  · exact ⟨none, 0, by rw [h0], by omega, by decide, fun hp => absurd hp (by omega)⟩
  · refine ⟨_, cap, rfl, hn, hm, fun _ => ⟨g, 0, rfl, (Array.getElem?_eq_some_iff.1 hh).1, fun j hj => ?_⟩⟩
    have := World.ownsRow.cells h' (g := g) rfl j (.int .u8 (l[j]).toNat) (by simp [Lib.byteCells, hj])
    have e : (⟨g, 0, none⟩ : Addr).add j = ⟨g, 0 + j, none⟩ := by unfold Addr.add; split <;> simp_all
    rw [e] at this
    exact this

theorem infoC : (Tryd.prog.info? 3).map (fun i => (i.zero, i.size, i.bytes)) = some (some (.int .i64 0), 1, 8) := by kernel_rfl
/-- 'append' of one integer that was just laid, onto integers that the call owns -/
theorem wpList_pushI {ops : Array Oper} {rest : List Oper} {o : Oper} {a : Act} {Q : Exit → Act → World → Prop} (hgd : o.guard = none) (s x : Operand)
    (ho : o.op = .call { callee := .builtin .append, args := #[s, x], argTypes := #[34, 34] }) (B : Nat) (v : Value) (l m : List Nat) (w0 : World) (C : Array Value) (n c : Nat)
    (hs : a.eval s = v) (ga : Nat) (hx : a.eval x = .slice (some ⟨ga, 0, none⟩) n c) (hga : ga = w0.heap.size) (hC : C = (m.map fun (r : Nat) => Value.int .i64 (r : Int)).toArray) (hm : n = m.length) (hown : OwnC w0 B v l) (hl : l.length + m.length ≤ 2000000) (hB : B ≤ w0.heap.size)
    (h : ∀ v' w', OwnC w' B v' (l ++ m) → Below B w0 w' → B ≤ w'.heap.size → wpList Tryd.prog ops Q rest (a.put o.dst v') w') :
    wpList Tryd.prog ops Q (o :: rest) a (w0.alloc (.cells C 3)) := by
  subst hC hm hga
  obtain ⟨i0, hi, hz0, hz1, hz2⟩ := info_parts infoC
  refine wpList_append_own _ hgd s x 34 ho B 3 i0 (.int .i64 0) 1 8 Tryd.underlying34 hi hz0 hz1 hz2 rfl (by decide) v l.length (l.map fun (r : Nat) => Value.int .i64 (r : Int)) hs (ownI_alloc hown _) ⟨w0.heap.size, 0, none⟩ m.length c (m.map fun (r : Nat) => Value.int .i64 (r : Int)) hx (by rw [List.length_map, Nat.mul_one])
    (fun j u hu => cells_of_new w0 3 _ j u hu) (fun u hu => by simp only [List.mem_map] at hu; obtain ⟨b, _, rfl⟩ := hu; rfl) (by simp only [maxLen]; omega) (by omega) (by rw [World.size_alloc]; omega) ?_
  intro v' w' ho' hg _
  have hk : Below B w0 w' := ((Below.refl B w0).alloc hB _).grown hg (by rw [World.size_alloc]; omega) (fun k hk => (hown.lt k hk).1)
  refine h v' w' ?_ hk (Nat.le_trans hB hk.size)
  unfold OwnC
  rw [List.length_append, List.map_append]
  exact ho'
end Go.Proofs.YtnlbnnnhmdjciaaDoor
namespace Go.Proofs.YtnlbnnnhmdjciaaDoor
open Go.RowKit

def fit1 (b : UInt8) (y : Nat) : Bool := if y = 256 then !decide (b.toNat = 0) else if y < 256 then decide (b.toNat = y) else true
def fitGo : List UInt8 → List Nat → Bool
  | b :: l, y :: rs => fit1 b y && fitGo l rs
  | _, _ => true
def fitsB (l : List UInt8) (rs : List Nat) : Bool := if l.length < rs.length then false else fitGo l rs

set_option maxHeartbeats 2000000 in
set_option maxRecDepth 100000 in
theorem fits_any (a ar : Option Addr) (l : List UInt8) (rs : List Nat) (cap cr : Nat) (w : World) (hb : RdB w w.heap.size a l) (hr : RdC w w.heap.size ar rs) (hl : l.length ≤ 1000000) (hrl : rs.length ≤ 1000) (hy : ∀ y ∈ rs, y ≤ 256) :
    Calls Tryd.prog 87 #[.slice a l.length cap, .slice ar rs.length cr] w fun e w' => e = .returned (.bool (fitsB l rs)) ∧ Below w.heap.size w w' := by
  unfold fitsB
  by_cases hlt : l.length < rs.length
  · rw [if_pos hlt]
    clear hb hr hy
    go_enter Tryd.func87, Tryd.ntmps87
    go_wp2
    go_ret
    exact ⟨rfl, Below.refl _ _⟩
  · rw [if_neg hlt]
    obtain ⟨ANS, hANS⟩ : ∃ ANS, fitGo l rs = ANS := ⟨_, rfl⟩
    rw [hANS]
    have HA : Hid (fitGo (l.drop 0) (rs.drop 0) = ANS) := hANS
    clear hANS
    have HB := Lib.hid hb
    have HR := Lib.hid hr
    have HY := Lib.hid hy
    clear hb hr hy
    go_enter Tryd.func87, Tryd.ntmps87
    go_wp2
    go_loopw [5] (fun i wr => ∃ k : Nat, k ≤ rs.length ∧ i = .int .i64 k ∧ Below w.heap.size w wr ∧ Hid (fitGo (l.drop k) (rs.drop k) = ANS)) (fun i _ => rs.length - (intOf i).toNat)
    case atStart => exact ⟨0, by omega, rfl, Below.refl _ _, HA⟩
    case round =>
      obtain ⟨k, hk, rfl, hbw, HK⟩ := hrel
      clear HA
      by_cases hkl : k < rs.length
      · have hkb : k < l.length := by omega
        obtain ⟨g, off, rfl, hg, hcb⟩ := HB.out (by omega)
        obtain ⟨g', off', rfl, hg', hcr⟩ := HR.out (by omega)
        have c1 := (hbw.cell (p := ⟨g, off + k, none⟩) hg).trans (hcb k hkb)
        have c2 := (hbw.cell (p := ⟨g', off' + k, none⟩) hg').trans (hcr k hkl)
        have hy := HY.out _ (List.getElem_mem hkl)
        have hstep : fitGo (l.drop k) (rs.drop k) = (fit1 l[k] rs[k] && fitGo (l.drop (k + 1)) (rs.drop (k + 1))) := by
          rw [List.drop_eq_getElem_cons hkb, List.drop_eq_getElem_cons hkl]; rfl
        have HS := Lib.hid hstep
        clear hstep hcb hcr HB HR HY
        have hx := l[k].toNat_lt
        generalize l[k] = x at *
        generalize rs[k] = y at *
        have hw1 : IntKind.i64.wrap ((x.toNat : Nat) : Int) = (x.toNat : Int) := IntWalk.i64_in _ (by omega)
        have hki : (0 : Int) ≤ (k : Int) := by omega
        have hk1 : (k : Int) < (l.length : Int) := by omega
        have hk2 : (k : Int) < (rs.length : Int) := by omega
        have good : fit1 x y = true → Hid (fitGo (l.drop (k + 1)) (rs.drop (k + 1)) = ANS) := fun h => by
          have := HK.out; rw [HS.out, h, Bool.true_and] at this; exact this
        have bad : fit1 x y = false → Hid (ANS = false) := fun h => by
          have := HK.out; rw [HS.out, h, Bool.false_and] at this; exact this.symm
        clear HS HK
        by_cases y1 : y = 256
        · have e1 : ((y : Int) == 256) = true := beq_iff_eq.2 (by omega)
          have e2 : decide ((y : Int) < 256) = false := decide_eq_false (by omega)
          by_cases x1 : x.toNat = 0
          · have e3 : ((x.toNat : Int) == 0) = true := beq_iff_eq.2 (by omega)
            have HF := bad (by unfold fit1; rw [if_pos y1]; simp [x1])
            clear good bad y1 x1
            go_wp2
            go_quiet (fail)
            go_wp2
            go_ret
            rw [HF.out]
            exact ⟨rfl, bel_drewN hbw _⟩
          · have e3 : ((x.toNat : Int) == 0) = false := beq_eq_false_iff_ne.2 (by omega)
            have HN := good (by unfold fit1; rw [if_pos y1]; simp [x1])
            clear good bad y1 x1
            go_wp2
            go_quiet (fail)
            go_wp2
            go_roundw
            case rel => exact ⟨k + 1, by omega, by go_num, bel_drewN hbw _, HN⟩
            case measure => simp [intOf]; omega
        · have e1 : ((y : Int) == 256) = false := beq_eq_false_iff_ne.2 (by omega)
          have e2 : decide ((y : Int) < 256) = true := decide_eq_true (by omega)
          by_cases x1 : x.toNat = y
          · have e3 : ((x.toNat : Int) != (y : Int)) = false := by rw [x1]; simp
            have HN := good (by unfold fit1; rw [if_neg y1, if_pos (by omega)]; simp [x1])
            clear good bad y1 x1
            go_wp2
            go_quiet (fail)
            go_wp2
            go_roundw
            case rel => exact ⟨k + 1, by omega, by go_num, bel_drewN hbw _, HN⟩
            case measure => simp [intOf]; omega
          · have e3 : ((x.toNat : Int) != (y : Int)) = true := bne_iff_ne.2 (by omega)
            have HF := bad (by unfold fit1; rw [if_neg y1, if_pos (by omega)]; simp [x1])
            clear good bad y1 x1
            go_wp2
            go_quiet (fail)
            go_wp2
            go_ret
            rw [HF.out]
            exact ⟨rfl, bel_drewN hbw _⟩
      · have hA : ANS = true := by
          have := HK.out
          rw [show rs.drop k = [] from List.drop_eq_nil_iff.2 (by omega)] at this
          rw [← this]
          cases l.drop k <;> rfl
        clear HB HR HY HK
        go_wp2
        go_ret
        exact ⟨ret_bool hA.symm, hbw⟩

/-- fits at a row of constants that was just laid -/
theorem fits_at (a : Option Addr) (l : List UInt8) (rs : List Nat) (cap : Nat) (w0 : World) (C : Array Value) (n : Nat) (hC : C = (rs.map fun (r : Nat) => Value.int .i64 (r : Int)).toArray) (hn : n = rs.length) (hb : RdB w0 w0.heap.size a l) (hl : l.length ≤ 1000000) (hrl : rs.length ≤ 1000) (hy : ∀ y ∈ rs, y ≤ 256) (b : Bool) (hres : fitsB l rs = b) :
    Calls Tryd.prog 87 #[.slice a l.length cap, .slice (some ⟨w0.heap.size, 0, none⟩) n n] (w0.alloc (.cells C 3)) fun e w' => e = .returned (.bool b) ∧ Below w0.heap.size w0 w' := by
  subst hC hn hres
  have hal : Below w0.heap.size w0 (w0.alloc (.cells (rs.map fun (r : Nat) => Value.int .i64 (r : Int)).toArray 3)) := (Below.refl _ _).alloc (Nat.le_refl _) _
  refine (fits_any a _ l rs cap _ _ ((hb.below hal).more hal.size) (fun h0 => ⟨w0.heap.size, 0, rfl, by rw [World.size_alloc]; omega, fun j hj => ?_⟩) hl hrl hy).mono ?_
  · have := cells_of_new w0 3 (rs.map fun (r : Nat) => Value.int .i64 (r : Int)) j (.int .i64 (rs[j] : Nat)) (by simp [hj])
    have e : (⟨w0.heap.size, 0, none⟩ : Addr).add j = ⟨w0.heap.size, 0 + j, none⟩ := by unfold Addr.add; split <;> simp_all
    rw [e] at this
    exact this
  · rintro e w' ⟨rfl, hb'⟩
    exact ⟨rfl, hal.trans (hb'.mono hal.size)⟩

theorem fits_1 (a : Option Addr) (L : List UInt8) (cap : Nat) (w0 : World) (hb : RdB w0 w0.heap.size a L) (hl : L.length ≤ 1000000) (h : fitsB L [0, 0, 254, 255] = false) :
    Calls Tryd.prog 87 #[.slice a L.length cap, .slice (some ⟨w0.heap.size, 0, none⟩) 4 4] (w0.alloc (.cells #[.int .i64 0, .int .i64 0, .int .i64 254, .int .i64 255] 3)) fun e w' => e = .returned (.bool false) ∧ Below w0.heap.size w0 w' :=
  fits_at a L [0, 0, 254, 255] cap w0 #[.int .i64 0, .int .i64 0, .int .i64 254, .int .i64 255] 4 rfl rfl hb hl (by decide) (by decide) false h
theorem fits_2 (a : Option Addr) (L : List UInt8) (cap : Nat) (w0 : World) (hb : RdB w0 w0.heap.size a L) (hl : L.length ≤ 1000000) (h : fitsB L [0, 0, 0, 256] = false) :
    Calls Tryd.prog 87 #[.slice a L.length cap, .slice (some ⟨w0.heap.size, 0, none⟩) 4 4] (w0.alloc (.cells #[.int .i64 0, .int .i64 0, .int .i64 0, .int .i64 256] 3)) fun e w' => e = .returned (.bool false) ∧ Below w0.heap.size w0 w' :=
  fits_at a L [0, 0, 0, 256] cap w0 #[.int .i64 0, .int .i64 0, .int .i64 0, .int .i64 256] 4 rfl rfl hb hl (by decide) (by decide) false h
theorem fits_3 (a : Option Addr) (L : List UInt8) (cap : Nat) (w0 : World) (hb : RdB w0 w0.heap.size a L) (hl : L.length ≤ 1000000) (h : fitsB L [255, 254, 0, 0] = false) :
    Calls Tryd.prog 87 #[.slice a L.length cap, .slice (some ⟨w0.heap.size, 0, none⟩) 4 4] (w0.alloc (.cells #[.int .i64 255, .int .i64 254, .int .i64 0, .int .i64 0] 3)) fun e w' => e = .returned (.bool false) ∧ Below w0.heap.size w0 w' :=
  fits_at a L [255, 254, 0, 0] cap w0 #[.int .i64 255, .int .i64 254, .int .i64 0, .int .i64 0] 4 rfl rfl hb hl (by decide) (by decide) false h
theorem fits_4 (a : Option Addr) (L : List UInt8) (cap : Nat) (w0 : World) (hb : RdB w0 w0.heap.size a L) (hl : L.length ≤ 1000000) (h : fitsB L [256, 0, 0, 0] = false) :
    Calls Tryd.prog 87 #[.slice a L.length cap, .slice (some ⟨w0.heap.size, 0, none⟩) 4 4] (w0.alloc (.cells #[.int .i64 256, .int .i64 0, .int .i64 0, .int .i64 0] 3)) fun e w' => e = .returned (.bool false) ∧ Below w0.heap.size w0 w' :=
  fits_at a L [256, 0, 0, 0] cap w0 #[.int .i64 256, .int .i64 0, .int .i64 0, .int .i64 0] 4 rfl rfl hb hl (by decide) (by decide) false h
theorem fits_5 (a : Option Addr) (L : List UInt8) (cap : Nat) (w0 : World) (hb : RdB w0 w0.heap.size a L) (hl : L.length ≤ 1000000) (h : fitsB L [254, 255] = false) :
    Calls Tryd.prog 87 #[.slice a L.length cap, .slice (some ⟨w0.heap.size, 0, none⟩) 2 2] (w0.alloc (.cells #[.int .i64 254, .int .i64 255] 3)) fun e w' => e = .returned (.bool false) ∧ Below w0.heap.size w0 w' :=
  fits_at a L [254, 255] cap w0 #[.int .i64 254, .int .i64 255] 2 rfl rfl hb hl (by decide) (by decide) false h
theorem fits_6 (a : Option Addr) (L : List UInt8) (cap : Nat) (w0 : World) (hb : RdB w0 w0.heap.size a L) (hl : L.length ≤ 1000000) (h : fitsB L [0, 256] = false) :
    Calls Tryd.prog 87 #[.slice a L.length cap, .slice (some ⟨w0.heap.size, 0, none⟩) 2 2] (w0.alloc (.cells #[.int .i64 0, .int .i64 256] 3)) fun e w' => e = .returned (.bool false) ∧ Below w0.heap.size w0 w' :=
  fits_at a L [0, 256] cap w0 #[.int .i64 0, .int .i64 256] 2 rfl rfl hb hl (by decide) (by decide) false h
theorem fits_7 (a : Option Addr) (L : List UInt8) (cap : Nat) (w0 : World) (hb : RdB w0 w0.heap.size a L) (hl : L.length ≤ 1000000) (h : fitsB L [255, 254] = false) :
    Calls Tryd.prog 87 #[.slice a L.length cap, .slice (some ⟨w0.heap.size, 0, none⟩) 2 2] (w0.alloc (.cells #[.int .i64 255, .int .i64 254] 3)) fun e w' => e = .returned (.bool false) ∧ Below w0.heap.size w0 w' :=
  fits_at a L [255, 254] cap w0 #[.int .i64 255, .int .i64 254] 2 rfl rfl hb hl (by decide) (by decide) false h
theorem fits_8 (a : Option Addr) (L : List UInt8) (cap : Nat) (w0 : World) (hb : RdB w0 w0.heap.size a L) (hl : L.length ≤ 1000000) (h : fitsB L [256, 0] = false) :
    Calls Tryd.prog 87 #[.slice a L.length cap, .slice (some ⟨w0.heap.size, 0, none⟩) 2 2] (w0.alloc (.cells #[.int .i64 256, .int .i64 0] 3)) fun e w' => e = .returned (.bool false) ∧ Below w0.heap.size w0 w' :=
  fits_at a L [256, 0] cap w0 #[.int .i64 256, .int .i64 0] 2 rfl rfl hb hl (by decide) (by decide) false h
theorem fits_9 (a : Option Addr) (L : List UInt8) (cap : Nat) (w0 : World) (hb : RdB w0 w0.heap.size a L) (hl : L.length ≤ 1000000) (h : fitsB L [239, 187, 191] = true) :
    Calls Tryd.prog 87 #[.slice a L.length cap, .slice (some ⟨w0.heap.size, 0, none⟩) 3 3] (w0.alloc (.cells #[.int .i64 239, .int .i64 187, .int .i64 191] 3)) fun e w' => e = .returned (.bool true) ∧ Below w0.heap.size w0 w' :=
  fits_at a L [239, 187, 191] cap w0 #[.int .i64 239, .int .i64 187, .int .i64 191] 3 rfl rfl hb hl (by decide) (by decide) true h

set_option maxHeartbeats 2000000 in
set_option maxRecDepth 100000 in
theorem detect_gen (a : Option Addr) (L : List UInt8) (cap : Nat) (w : World) (hb : RdB w w.heap.size a L) (hL : L.length ≤ 1000000)
    (f1 : fitsB L [0, 0, 254, 255] = false) (f2 : fitsB L [0, 0, 0, 256] = false) (f3 : fitsB L [255, 254, 0, 0] = false) (f4 : fitsB L [256, 0, 0, 0] = false) (f5 : fitsB L [254, 255] = false) (f6 : fitsB L [0, 256] = false) (f7 : fitsB L [255, 254] = false) (f8 : fitsB L [256, 0] = false) (f9 : fitsB L [239, 187, 191] = true) :
    Calls Tryd.prog 67 #[.slice a L.length cap] w fun e w' => e = .returned (.tuple #[.int .i64 0, .int .i64 3]) ∧ Below w.heap.size w w' := by
  have C1 := Lib.hid (fun w1 (h : Below w.heap.size w w1) => fits_1 a L cap w1 ((hb.below h).more h.size) hL f1)
  have C2 := Lib.hid (fun w1 (h : Below w.heap.size w w1) => fits_2 a L cap w1 ((hb.below h).more h.size) hL f2)
  have C3 := Lib.hid (fun w1 (h : Below w.heap.size w w1) => fits_3 a L cap w1 ((hb.below h).more h.size) hL f3)
  have C4 := Lib.hid (fun w1 (h : Below w.heap.size w w1) => fits_4 a L cap w1 ((hb.below h).more h.size) hL f4)
  have C5 := Lib.hid (fun w1 (h : Below w.heap.size w w1) => fits_5 a L cap w1 ((hb.below h).more h.size) hL f5)
  have C6 := Lib.hid (fun w1 (h : Below w.heap.size w w1) => fits_6 a L cap w1 ((hb.below h).more h.size) hL f6)
  have C7 := Lib.hid (fun w1 (h : Below w.heap.size w w1) => fits_7 a L cap w1 ((hb.below h).more h.size) hL f7)
  have C8 := Lib.hid (fun w1 (h : Below w.heap.size w w1) => fits_8 a L cap w1 ((hb.below h).more h.size) hL f8)
  have C9 := Lib.hid (fun w1 (h : Below w.heap.size w w1) => fits_9 a L cap w1 ((hb.below h).more h.size) hL f9)
  clear f1 f2 f3 f4 f5 f6 f7 f8 f9 hb
  go_enter Tryd.func67, Tryd.ntmps67
  go_wp2_with fail
  refine (C1.out _ (Below.refl _ _)).mono ?_
  rintro e w1 ⟨rfl, h1⟩
  go_wp2_with fail
  refine (C2.out _ h1).mono ?_
  rintro e w2 ⟨rfl, g2⟩
  have h2 := h1.trans (g2.mono h1.size)
  go_wp2_with fail
  refine (C3.out _ h2).mono ?_
  rintro e w3 ⟨rfl, g3⟩
  have h3 := h2.trans (g3.mono h2.size)
  go_wp2_with fail
  refine (C4.out _ h3).mono ?_
  rintro e w4 ⟨rfl, g4⟩
  have h4 := h3.trans (g4.mono h3.size)
  go_wp2_with fail
  refine (C5.out _ h4).mono ?_
  rintro e w5 ⟨rfl, g5⟩
  have h5 := h4.trans (g5.mono h4.size)
  go_wp2_with fail
  refine (C6.out _ h5).mono ?_
  rintro e w6 ⟨rfl, g6⟩
  have h6 := h5.trans (g6.mono h5.size)
  go_wp2_with fail
  refine (C7.out _ h6).mono ?_
  rintro e w7 ⟨rfl, g7⟩
  have h7 := h6.trans (g7.mono h6.size)
  go_wp2_with fail
  refine (C8.out _ h7).mono ?_
  rintro e w8 ⟨rfl, g8⟩
  have h8 := h7.trans (g8.mono h7.size)
  go_wp2_with fail
  refine (C9.out _ h8).mono ?_
  rintro e w9 ⟨rfl, g9⟩
  have h9 := h8.trans (g9.mono h8.size)
  go_wp2
  go_ret2
  exact ⟨rfl, h9⟩
theorem fits_no (L : List UInt8) (rs : List Nat) (h : fitGo L rs = false) : fitsB L rs = false := by
  unfold fitsB
  split
  · rfl
  · exact h
theorem fits_yes (t : List UInt8) : fitsB (239 :: 187 :: 191 :: t) [239, 187, 191] = true := by
  unfold fitsB
  rw [if_neg (by simp only [List.length_cons, List.length_nil]; omega)]
  cases t <;> rfl
/-- Detect of bytes that begin with the mark of Utf8 -/
theorem detect_utf8 (a : Option Addr) (t : List UInt8) (cap : Nat) (w : World) (hb : RdB w w.heap.size a (239 :: 187 :: 191 :: t)) (hl : t.length ≤ 100000) :
    Calls Tryd.prog 67 #[.slice a (239 :: 187 :: 191 :: t).length cap] w fun e w' => e = .returned (.tuple #[.int .i64 0, .int .i64 3]) ∧ Below w.heap.size w w' :=
  detect_gen a (239 :: 187 :: 191 :: t) cap w hb (by simp only [List.length_cons]; omega) (fits_no _ _ rfl) (fits_no _ _ rfl) (fits_no _ _ rfl) (fits_no _ _ rfl) (fits_no _ _ rfl) (fits_no _ _ rfl) (fits_no _ _ rfl) (fits_no _ _ rfl) (fits_yes t)
end Go.Proofs.YtnlbnnnhmdjciaaDoor
namespace Go.Proofs.YtnlbnnnhmdjciaaDoor
open Go.RowKit

def sliceLen : Value → Nat
  | .slice _ n _ => n
  | _ => 0
def JoinsI (a : List Nat) (o ANS : Option (List Nat)) : Prop := o.map (a ++ ·) = ANS
theorem JoinsI.step {a : List Nat} {r : Nat} {o ANS : Option (List Nat)} (h : JoinsI a (o.map (r :: ·)) ANS) : JoinsI (a ++ [r]) o ANS := by
  unfold JoinsI at *
  rw [← h, Option.map_map]
  congr 1
  funext y
  simp
/-- what a call that answers characters, or that there are none, returns -/
def ChR (B : Nat) (w : World) (o : Option (List Nat)) (e : Ending) (w' : World) : Prop :=
  ∃ v, e = .returned (.tuple #[v, .bool o.isSome]) ∧ OwnC w' B v (o.getD []) ∧ Below B w w'
theorem leadN_le (c : Nat) : (Sc.leadN c).1 ≤ 4 ∧ ((Sc.leadN c).1 ≠ 0 → (Sc.leadN c).2 < 128) := by
  unfold Sc.leadN
  repeat' split
  all_goals exact ⟨by simp, by simp; try omega⟩

def stepK (l : List UInt8) (n r0 : Nat) : Option (Nat × Nat) :=
  if n = 0 ∨ l.length < n then none else (Sc.contR ((l.drop 1).take (n - 1)) r0).bind fun r => if Sc.isCh r ∧ (Sc.enc r).length = n then some (r, n) else none
theorem stepR_eq (l : List UInt8) : Sc.stepR l = stepK l (Sc.leadN (l.getD 0 0).toNat).1 (Sc.leadN (l.getD 0 0).toNat).2 := by
  unfold Sc.stepR stepK
  split
  · rfl
  · cases Sc.contR ((l.drop 1).take ((Sc.leadN (l.getD 0 0).toNat).1 - 1)) (Sc.leadN (l.getD 0 0).toNat).2 <;> rfl

set_option maxHeartbeats 4000000 in
set_option maxRecDepth 100000 in
theorem plainR_any (a : Option Addr) (L : List UInt8) (cap : Nat) (w : World) (hb : RdB w w.heap.size a L) (hc : L.length ≤ cap) (hcm : cap ≤ maxLen) (hL : L.length ≤ 100000) :
    Calls Tryd.prog 68 #[.slice a L.length cap] w (ChR w.heap.size w (Sc.charsOf L)) := by
  unfold maxLen at hcm
  obtain ⟨ANS, hANS⟩ : ∃ ANS, Sc.charsOf L = ANS := ⟨_, rfl⟩
  have HA : JoinsI [] (Sc.charsOf L) ANS := by unfold JoinsI; rw [hANS]; simp
  rw [hANS]
  clear hANS
  go_enter Tryd.func68, Tryd.ntmps68
  go_wp2
  go_loopw [0, 4] (fun b v wr => ∃ (a : Option Addr) (l : List UInt8) (cap : Nat) (acc : List Nat), b = .slice a l.length cap ∧ l.length ≤ cap ∧ cap ≤ 9223372036854775807 ∧ RdB w w.heap.size a l ∧ OwnC wr w.heap.size v acc ∧ Below w.heap.size w wr ∧ JoinsI acc (Sc.charsOf l) ANS ∧ acc.length + l.length ≤ 100000) (fun b _ _ => sliceLen b)
  case atStart => exact ⟨a, L, cap, [], rfl, hc, hcm, hb, ownI_nil _ _, Below.refl _ _, HA, by simpa using hL⟩
  case round =>
    clear hb hc hcm hL HA
    obtain ⟨a, l, cap, acc, rfl, hc, hcm, hb, hown, hbw, HJ, hal⟩ := hrel
    have hsz := hbw.size
    by_cases h0 : l.length = 0
    · have hl : l = [] := List.eq_nil_of_length_eq_zero h0
      have hA : some acc = ANS := by
        unfold JoinsI at HJ; rw [hl] at HJ; simpa [Sc.charsOf, Lib.validD_nil, Sc.rns_nil] using HJ
      subst hA
      subst hl
      clear HJ
      go_wp2
      go_ret2
      exact ⟨_, rfl, hown, hbw⟩
    · obtain ⟨g, off, rfl, hg, hcb⟩ := hb (by omega)
      have hne : l ≠ [] := fun e => h0 (by rw [e]; rfl)
      have hp : 0 < l.length := by omega
      have c0 := (hbw.cell (p := ⟨g, off + 0, none⟩) hg).trans (hcb 0 hp)
      rw [Nat.add_zero] at c0
      have hx0 := l[0].toNat_lt
      have hgd : l.getD 0 0 = l[0] := by simp [List.getD, hp]
      obtain ⟨x, hx⟩ : ∃ x, l[0] = x := ⟨_, rfl⟩
      rw [hx] at c0 hx0 hgd
      obtain ⟨hn4, hr128⟩ := leadN_le x.toNat
      have cL := lead_any x.toNat
      have hst := stepR_eq l
      rw [hgd] at hst
      obtain ⟨n, r0, hnr⟩ : ∃ n r0, Sc.leadN x.toNat = (n, r0) := ⟨_, _, rfl⟩
      rw [hnr] at hn4 hr128 cL hst
      simp only at hn4 hr128 cL hst
      clear hgd hnr hx h0
      have HST := Lib.hid hst
      have CL := Lib.hid (fun w1 => cL w1 hx0)
      clear hst cL
      by_cases hbad : n = 0 ∨ l.length < n
      · have hA : ANS = none := by
          have := Sc.charsOf_none l hne (by rw [HST.out]; unfold stepK; rw [if_pos hbad])
          unfold JoinsI at HJ; rw [this] at HJ; exact HJ.symm
        subst hA
        clear HJ HST hcb
        rcases hbad with rfl | hbad
        · go_wp2_with (go_at_call 88; refine (CL.out _).mono ?_; rintro e w' ⟨rfl, rfl⟩)
          go_ret2
          exact ⟨_, rfl, ownI_nil _ _, hbw⟩
        · by_cases hn0 : n = 0
          · subst hn0
            exact absurd hbad (by omega)
          · have b1 : ((n : Int) == 0) = false := beq_eq_false_iff_ne.2 (by omega)
            clear hn0
            go_wp2_with (go_at_call 88; refine (CL.out _).mono ?_; rintro e w' ⟨rfl, rfl⟩)
            go_ret2
            exact ⟨_, rfl, ownI_nil _ _, hbw⟩
      · have HS2 : Hid (Sc.stepR l = (Sc.contR ((l.drop 1).take (n - 1)) r0).bind fun r => if Sc.isCh r ∧ (Sc.enc r).length = n then some (r, n) else none) := by
          have := HST.out; unfold stepK at this; rw [if_neg hbad] at this; exact this
        clear HST
        have hn1 : 1 ≤ n := by omega
        have hnl : n ≤ l.length := by omega
        have hr0 : r0 < 128 := hr128 (by omega)
        have b1 : ((n : Int) == 0) = false := beq_eq_false_iff_ne.2 (by omega)
        have b2 : decide (l.length < n) = false := decide_eq_false (by omega)
        have b3 : decide ((l.length : Int) < (n : Int)) = false := decide_eq_false (by omega)
        have b4 : decide (0 < l.length) = true := decide_eq_true (by omega)
        have b5 : decide ((0 : Int) < (l.length : Int)) = true := decide_eq_true (by omega)
        clear hbad hr128
        go_wp2_with (go_at_call 88; refine (CL.out _).mono ?_; rintro e w' ⟨rfl, rfl⟩)
        clear CL c0
        go_loop [6, 7] (fun rr i => ∃ k r : Nat, 1 ≤ k ∧ k ≤ n ∧ i = .int .i64 k ∧ rr = .int .i64 r ∧ Hid (r < 128 * 64 ^ (k - 1)) ∧ Hid (Sc.contR ((l.drop 1).take (n - 1)) r0 = Sc.contR ((l.drop k).take (n - k)) r)) (fun _ i => n - (intOf i).toNat)
        case atStart => exact ⟨1, r0, by omega, hn1, rfl, rfl, (by simpa using hr0 : r0 < 128 * 64 ^ (1 - 1)), (rfl : Sc.contR _ _ = _)⟩
        case round =>
          obtain ⟨k, r, hk1, hkn, rfl, rfl, HB, HK⟩ := hrel
          have hrb : r < 33554432 := by
            have h1 := HB.out
            have h2 : 64 ^ (k - 1) ≤ 64 ^ 3 := Nat.pow_le_pow_right (by decide) (by omega)
            have h3 : (64 : Nat) ^ 3 = 262144 := by decide
            rw [h3] at h2
            have h4 : 128 * 64 ^ (k - 1) ≤ 128 * 262144 := Nat.mul_le_mul_left 128 h2
            omega
          by_cases hlt : k < n
          · have hkl : k < l.length := by omega
            have ck := (hbw.cell (p := ⟨g, off + k, none⟩) hg).trans (hcb k hkl)
            have hdr : (l.drop k).take (n - k) = l[k] :: (l.drop (k + 1)).take (n - (k + 1)) := by
              rw [List.drop_eq_getElem_cons hkl]
              obtain ⟨d, hd⟩ : ∃ d, n - k = d + 1 := ⟨n - k - 1, by omega⟩
              have hd2 : n - (k + 1) = d := by omega
              rw [hd, hd2, List.take_succ_cons]
            have hxk := l[k].toNat_lt
            generalize l[k] = y at *
            by_cases hy : y.toNat < 128 ∨ 191 < y.toNat
            · have hA : ANS = none := by
                have h1 := HK.out; rw [hdr] at h1; simp only [Sc.contR, if_pos hy] at h1
                have h2 := HS2.out; rw [h1] at h2
                have := Sc.charsOf_none l hne h2
                unfold JoinsI at HJ; rw [this] at HJ; exact HJ.symm
              subst hA
              clear HJ HS2 HK HB hcb hdr
              by_cases hy1 : y.toNat < 128
              · clear hy
                go_wp2
                go_ret2
                exact ⟨_, rfl, ownI_nil _ _, hbw⟩
              · have hy2 : 191 < y.toNat := by omega
                clear hy
                go_wp2
                go_ret2
                exact ⟨_, rfl, ownI_nil _ _, hbw⟩
            · have HN : Hid (Sc.contR ((l.drop 1).take (n - 1)) r0 = Sc.contR ((l.drop (k + 1)).take (n - (k + 1))) (r * 64 + y.toNat - 128)) := by
                have h1 := HK.out; rw [hdr] at h1; simp only [Sc.contR, if_neg hy] at h1; exact h1
              have HB2 : Hid (r * 64 + y.toNat - 128 < 128 * 64 ^ (k + 1 - 1)) := by
                have h1 := HB.out
                show r * 64 + y.toNat - 128 < 128 * 64 ^ (k + 1 - 1)
                obtain ⟨d, rfl⟩ : ∃ d, k = d + 1 := ⟨k - 1, by omega⟩
                have e1 : d + 1 - 1 = d := by omega
                have e2 : d + 1 + 1 - 1 = d + 1 := by omega
                rw [e1] at h1
                rw [e2, Nat.pow_succ]
                omega
              have hy1 : 128 ≤ y.toNat := by omega
              have hy2 : y.toNat ≤ 191 := by omega
              clear hy hdr HK HB HJ HS2 hcb
              go_wp2
              go_round
              case rel => exact ⟨k + 1, r * 64 + y.toNat - 128, by omega, by omega, by go_num, by go_num, HB2, HN⟩
              case measure => simp [intOf]; omega
          · obtain rfl : k = n := by omega
            have HC : Hid (Sc.contR ((l.drop 1).take (k - 1)) r0 = some r) := by
              have h1 := HK.out; rw [Nat.sub_self, List.take_zero] at h1; exact h1
            clear HK HB
            have HS3 : Hid (Sc.stepR l = if Sc.isCh r ∧ (Sc.enc r).length = k then some (r, k) else none) := by
              have := HS2.out; rw [HC.out] at this; exact this
            clear HS2 HC hcb
            by_cases hch : Sc.isCh r
            · have b6 : chI (r : Int) = true := by rw [chI_nat]; exact decide_eq_true hch
              by_cases hw : (Sc.enc r).length = k
              · have b7 : (((Sc.enc r).length : Int) != (k : Int)) = false := by rw [hw]; simp
                have hsome : Sc.stepR l = some (r, k) := by rw [HS3.out, if_pos ⟨hch, hw⟩]
                have HN : JoinsI (acc ++ [r]) (Sc.charsOf (l.drop k)) ANS := by
                  have := HJ; rw [Sc.charsOf_step l r k hsome] at this; exact this.step
                have hbr : RdB w w.heap.size (if cap = k then some ⟨g, off, none⟩ else some ⟨g, off + k, none⟩) (l.drop k) := by
                  by_cases hck : cap = k
                  · intro h0; rw [List.length_drop] at h0; omega
                  · rw [if_neg hck]
                    by_cases hkl : k < l.length
                    · have e : (⟨g, off, none⟩ : Addr).add k = ⟨g, off + k, none⟩ := by unfold Addr.add; split <;> simp_all
                      have := hb.cut k hkl
                      simp only [cutA, Option.map_some, e] at this
                      exact this
                    · intro h0; rw [List.length_drop] at h0; omega
                have hdl : (l.drop k).length = l.length - k := List.length_drop ..
                have HBR := Lib.hid hbr
                have hal2 : (acc ++ [r]).length + (l.length - k) ≤ 100000 := by rw [List.length_append]; simp; omega
                obtain ⟨m, hm⟩ : ∃ m, m = l.drop k := ⟨_, rfl⟩
                rw [← hm] at HN HBR hdl
                clear hsome HS3 HJ hbr hw hm
                by_cases hck : cap = k
                · subst hck
                  rw [if_pos rfl] at HBR
                  go_wp2_with (first | (go_at_call 71; refine (character_any _ _).mono ?_; rintro e w' ⟨rfl, rfl⟩) | (go_at_call 89; refine (bytes_any r _ hch).mono ?_; rintro e w2 ⟨rfl, rfl⟩) | (at_builtin; refine wpList_pushI rfl (.tmp 63) (.tmp 65) rfl w.heap.size _ acc [r] (wr.alloc (.cells (Lib.byteCells (Sc.enc r)).toArray 5)) _ _ _ rfl _ rfl (by rw [World.size_alloc]) rfl rfl (ownI_alloc hown _) (by simp; omega) (by rw [World.size_alloc]; omega) ?_; intro v' w' ho' hk' hB'))
                  go_roundw
                  case rel => exact ⟨_, m, cap - cap, acc ++ [r], by rw [hdl]; go_num, by omega, by omega, HBR.out, ho', (hbw.alloc hsz _).trans hk', HN, by rw [hdl]; exact hal2⟩
                  case measure => simp [sliceLen]; omega
                · rw [if_neg hck] at HBR
                  go_wp2_with (first | (go_at_call 71; refine (character_any _ _).mono ?_; rintro e w' ⟨rfl, rfl⟩) | (go_at_call 89; refine (bytes_any r _ hch).mono ?_; rintro e w2 ⟨rfl, rfl⟩) | (at_builtin; refine wpList_pushI rfl (.tmp 63) (.tmp 65) rfl w.heap.size _ acc [r] (wr.alloc (.cells (Lib.byteCells (Sc.enc r)).toArray 5)) _ _ _ rfl _ rfl (by rw [World.size_alloc]) rfl rfl (ownI_alloc hown _) (by simp; omega) (by rw [World.size_alloc]; omega) ?_; intro v' w' ho' hk' hB'))
                  go_roundw
                  case rel => exact ⟨_, m, cap - k, acc ++ [r], by rw [hdl], by omega, by omega, HBR.out, ho', (hbw.alloc hsz _).trans hk', HN, by rw [hdl]; exact hal2⟩
                  case measure => simp [sliceLen]; omega
              · have b7 : (((Sc.enc r).length : Int) != (k : Int)) = true := bne_iff_ne.2 (by omega)
                have hA : ANS = none := by
                  have := Sc.charsOf_none l hne (by rw [HS3.out, if_neg (fun h => hw h.2)])
                  unfold JoinsI at HJ; rw [this] at HJ; exact HJ.symm
                subst hA
                clear HJ HS3 hw
                go_wp2_with (first | (go_at_call 71; refine (character_any _ _).mono ?_; rintro e w' ⟨rfl, rfl⟩) | (go_at_call 89; refine (bytes_any r _ hch).mono ?_; rintro e w2 ⟨rfl, rfl⟩))
                go_ret2
                exact ⟨_, rfl, ownI_nil _ _, hbw.alloc hsz _⟩
            · have b6 : chI (r : Int) = false := by rw [chI_nat]; exact decide_eq_false hch
              have hA : ANS = none := by
                have := Sc.charsOf_none l hne (by rw [HS3.out, if_neg (fun h => hch h.1)])
                unfold JoinsI at HJ; rw [this] at HJ; exact HJ.symm
              subst hA
              clear HJ HS3 hch
              go_wp2_with (go_at_call 71; refine (character_any _ _).mono ?_; rintro e w' ⟨rfl, rfl⟩)
              go_ret2
              exact ⟨_, rfl, ownI_nil _ _, hbw⟩
end Go.Proofs.YtnlbnnnhmdjciaaDoor
namespace Go.Proofs.YtnlbnnnhmdjciaaDoor
open Go.RowKit

def RuR (B : Nat) (w : World) (o : Option (List Nat)) (e : Ending) (w' : World) : Prop :=
  ∃ v, e = .returned (.tuple #[v, .int .i64 (if o.isSome then 0 else 6)]) ∧ OwnC w' B v (o.getD []) ∧ Below B w w'

theorem OwnC.mono {w : World} {B B' : Nat} {v : Value} {l : List Nat} (h : OwnC w B v l) (hB : B' ≤ B) : OwnC w B' v l := by
  obtain ⟨h1, h2⟩ := h
  refine ⟨h1, ?_⟩
  rcases h2 with h2 | ⟨g, cap, cur, hv, hB2, hr⟩
  · exact .inl h2
  · exact .inr ⟨g, cap, cur, hv, by omega, hr⟩

set_option maxHeartbeats 1000000 in
set_option maxRecDepth 100000 in
theorem runes_utf8 (a : Option Addr) (t : List UInt8) (cap : Nat) (w : World) (hb : RdB w w.heap.size a (239 :: 187 :: 191 :: t)) (hc : (239 :: 187 :: 191 :: t : List UInt8).length ≤ cap) (hcm : cap ≤ maxLen) (hL : t.length ≤ 100000) :
    Calls Tryd.prog 55 #[.slice a (239 :: 187 :: 191 :: t).length cap] w (RuR w.heap.size w (Sc.charsOf t)) := by
  have cD := detect_utf8 a t cap w hb hL
  have hlen : (239 :: 187 :: 191 :: t : List UInt8).length = t.length + 3 := by simp
  rw [hlen] at hc cD ⊢
  obtain ⟨g, off, rfl, hg, hcb⟩ := hb (by rw [hlen]; omega)
  have hbt : RdB w w.heap.size (if cap = 3 then some ⟨g, off, none⟩ else some ⟨g, off + 3, none⟩) t := by
    intro h0
    rw [if_neg (by omega)]
    refine ⟨g, off + 3, rfl, hg, fun j hj => ?_⟩
    have := hcb (j + 3) (by rw [hlen]; omega)
    rw [Nat.add_assoc, Nat.add_comm 3 j]
    exact this
  unfold maxLen at hcm
  have CP := Lib.hid (fun (w1 : World) (h : Below w.heap.size w w1) => plainR_any (if cap = 3 then some ⟨g, off, none⟩ else some ⟨g, off + 3, none⟩) t (cap - 3) w1 ((hbt.below h).more h.size) (by omega) (by unfold maxLen; omega) hL)
  have hch : ∀ rs, Sc.charsOf t = some rs → ∀ r ∈ rs, Sc.isCh r := by
    intro rs h
    unfold Sc.charsOf at h
    split at h
    · cases h; exact Sc.ch_rns t
    · cases h
  have hrl : ∀ rs, Sc.charsOf t = some rs → rs.length ≤ 100000 := by
    intro rs h
    unfold Sc.charsOf at h
    split at h
    · cases h
      have : ∀ (n : Nat) (l : List UInt8), l.length ≤ n → (Sc.rns l).length ≤ l.length := by
        intro n
        induction n with
        | zero => intro l h; have : l = [] := List.eq_nil_of_length_eq_zero (by omega)
                  subst this; simp [Sc.rns_nil]
        | succ n ih =>
          intro l h
          by_cases hl : l = []
          · subst hl; simp [Sc.rns_nil]
          · have hp : 0 < l.length := List.length_pos_iff.2 hl
            have hw := Lib.decodeL_width l
            have := ih (l.drop (Lib.decodeL l).2) (by rw [List.length_drop]; omega)
            rw [Sc.rns_step l hl, List.length_cons]
            rw [List.length_drop] at this
            omega
      have := this t.length t (Nat.le_refl _)
      omega
    · cases h
  clear hb hcb hbt
  by_cases hck : cap = 3
  · subst hck
    have ht : t = [] := List.eq_nil_of_length_eq_zero (by omega)
    subst ht
    have ho : Sc.charsOf [] = some [] := rfl
    rw [ho] at CP ⊢
    clear hch hrl ho hlen hc
    go_enter Tryd.func55, Tryd.ntmps55
    go_wp2_with fail
    refine cD.mono ?_
    rintro e w1 ⟨rfl, h1⟩
    go_wp2_with fail
    refine (CP.out w1 h1).mono ?_
    rintro e w2 ⟨v, rfl, ho, h2⟩
    obtain ⟨a', cap', hv, hc1, hc2, hrd⟩ := ho.form
    have HO := Lib.hid (ho.mono h1.size)
    clear CP cD hrd ho
    subst hv
    go_wp2
    refine wp_loop_rounds 1 ?_
    rw [rounds_succ]
    go_wp2
    go_ret2
    exact ⟨_, rfl, HO.out, h1.trans (h2.mono h1.size)⟩
  · rw [if_neg hck] at CP
    cases ho : Sc.charsOf t with
    | none =>
      rw [ho] at CP
      clear hch hrl ho
      go_enter Tryd.func55, Tryd.ntmps55
      go_wp2_with fail
      refine cD.mono ?_
      rintro e w1 ⟨rfl, h1⟩
      go_wp2_with fail
      refine (CP.out w1 h1).mono ?_
      rintro e w2 ⟨v, rfl, ho, h2⟩
      clear CP cD ho
      go_wp2
      go_ret2
      exact ⟨_, rfl, ownI_nil _ _, h1.trans (h2.mono h1.size)⟩
    | some rs =>
      rw [ho] at CP
      have HCH := Lib.hid (hch rs ho)
      have hrs := hrl rs ho
      clear hch hrl ho
      go_enter Tryd.func55, Tryd.ntmps55
      go_wp2_with fail
      refine cD.mono ?_
      rintro e w1 ⟨rfl, h1⟩
      go_wp2_with fail
      refine (CP.out w1 h1).mono ?_
      rintro e w2 ⟨v, rfl, ho, h2⟩
      obtain ⟨a', cap', hv, hc1, hc2, hrd⟩ := ho.form
      have HO := Lib.hid (ho.mono h1.size)
      have HR := Lib.hid hrd
      clear CP cD hrd ho
      unfold maxLen at hc2
      simp only [Option.getD_some] at hv hc1 HO HR
      subst hv
      go_wp2
      go_loop [10] (fun i => ∃ k : Nat, k ≤ rs.length ∧ i = .int .i64 k) (fun i => rs.length - (intOf i).toNat)
      case atStart => exact ⟨0, by omega, rfl⟩
      case round =>
        obtain ⟨k, hk, rfl⟩ := hrel
        by_cases hlt : k < rs.length
        · obtain ⟨g2, off2, rfl, hg2, hcell⟩ := HR.out (by omega)
          have ck := hcell k hlt
          have b6 : chI (rs[k] : Int) = true := by rw [chI_nat]; exact decide_eq_true (HCH.out _ (List.getElem_mem hlt))
          generalize rs[k] = y at *
          clear hcell
          go_wp2_with (go_at_call 71; refine (character_any _ _).mono ?_; rintro e w' ⟨rfl, rfl⟩)
          go_round
          case rel => exact ⟨k + 1, by omega, by go_num⟩
          case measure => simp [intOf]; omega
        · go_wp2
          go_ret2
          exact ⟨_, rfl, HO.out, h1.trans (h2.mono h1.size)⟩

set_option maxHeartbeats 1000000 in
set_option maxRecDepth 100000 in
/-- THE CONTRACT of Chars -/
theorem chars_any (s : ByteArray) (w : World) (hs : s.size ≤ 100000) : Calls Tryd.prog 43 #[.string s] w (ChR w.heap.size w (Sc.charsOf s.data.toList)) := by
  obtain ⟨i0, hi, hz0, hz1, hz2⟩ := info_parts info5
  have ho0 : (w.alloc (.cells #[.int .u8 239, .int .u8 187, .int .u8 191] 5)).ownsRow w.heap.size 5 1 (.slice (some ⟨w.heap.size, 0, none⟩) 3 3) 3 (Lib.byteCells [239, 187, 191]) := World.ownsRow_lit (base := w.heap.size) (e := 5) (size := 1) w #[.int .u8 239, .int .u8 187, .int .u8 191] 3 (Nat.le_refl _) (by decide) rfl
  have hal : Below w.heap.size w (w.alloc (.cells #[.int .u8 239, .int .u8 187, .int .u8 191] 5)) := (Below.refl _ _).alloc (Nat.le_refl _) _
  obtain ⟨ANS, hANS⟩ : ∃ ANS, Sc.charsOf s.data.toList = ANS := ⟨_, rfl⟩
  have CR := Lib.hid (fun a cap (w1 : World) hb hc hcm => runes_utf8 a s.data.toList cap w1 hb hc hcm (by rw [← Lib.size_eq]; exact hs))
  rw [hANS] at CR ⊢
  clear hANS
  have HO := Lib.hid ho0
  clear ho0
  go_enter Tryd.func43, Tryd.ntmps43
  go_wp2_with (at_builtin; refine Lib.wpList_append_own_string _ rfl (.tmp 7) (.tmp 8) 48 9 rfl w.heap.size 5 i0 Tryd.underlying48 Tryd.underlying9 hi hz0 hz1 hz2 _ 3 _ rfl HO.out s rfl (by simp only [maxLen]; omega) (by omega) (by rw [World.size_alloc]; omega) ?_; intro v' w' ho' hg' _)
  have hown : Own w' w.heap.size v' (239 :: 187 :: 191 :: s.data.toList) := by
    have e : (239 :: 187 :: 191 :: s.data.toList : List UInt8) = [239, 187, 191] ++ s.data.toList := rfl
    rw [e]
    refine own_of_append ho' ?_ ?_
    · rw [List.length_append, ← Lib.size_eq]; rfl
    · rw [Lib.byteCells_append]; rfl
  have hb1 : Below w.heap.size w w' := hal.grown hg' (by rw [World.size_alloc]; omega) (fun k hk => (HO.out.lt k hk).1)
  obtain ⟨a', cap', hv, hc1, hc2, hrd⟩ := hown.form
  clear ho' hg' hown HO hal
  subst hv
  go_wp2_with fail
  refine (CR.out a' cap' w' hrd hc1 hc2).mono ?_
  rintro e w2 ⟨v, rfl, ho, h2⟩
  clear CR hrd
  have HO := Lib.hid (ho.mono hb1.size)
  clear ho
  cases ANS with
  | none =>
    go_wp2
    go_ret2
    exact ⟨_, rfl, HO.out, hb1.trans (h2.mono hb1.size)⟩
  | some rs =>
    go_wp2
    go_ret2
    exact ⟨_, rfl, HO.out, hb1.trans (h2.mono hb1.size)⟩
end Go.Proofs.YtnlbnnnhmdjciaaDoor
