/-
  Plain mathematics: the document's own way to read characters from bytes, against the decoder's.
-/
import Derived.Test.YtlfmaeodkghbbaaDoorMc
namespace Go.Proofs.YtlfmaeodkghbbaaDoor
namespace Sc
open Go.Lib

/-- how many bytes a first byte asks for, and its own bits -/
def leadN (c : Nat) : Nat × Nat :=
  if c < 128 then (1, c) else if 192 ≤ c ∧ c < 224 then (2, c - 192) else if 224 ≤ c ∧ c < 240 then (3, c - 224) else if 240 ≤ c ∧ c < 248 then (4, c - 240) else (0, 0)
/-- the bits of bytes that follow -/
def contR : List UInt8 → Nat → Option Nat
  | [], r => some r
  | b :: t, r => if b.toNat < 128 ∨ 191 < b.toNat then none else contR t (r * 64 + b.toNat - 128)
/-- a character, and its width -/
def stepR (l : List UInt8) : Option (Nat × Nat) :=
  if (leadN (l.getD 0 0).toNat).1 = 0 ∨ l.length < (leadN (l.getD 0 0).toNat).1 then none else
    match contR ((l.drop 1).take ((leadN (l.getD 0 0).toNat).1 - 1)) (leadN (l.getD 0 0).toNat).2 with
    | none => none
    | some r => if isCh r ∧ (enc r).length = (leadN (l.getD 0 0).toNat).1 then some (r, (leadN (l.getD 0 0).toNat).1) else none

theorem enc_width (r : Nat) (h : isCh r) : (enc r).length = if r < 128 then 1 else if r < 2048 then 2 else if r < 65536 then 3 else 4 := by
  unfold isCh at h
  by_cases h1 : r ≤ 127
  · rw [enc1 r h1, if_pos (by omega)]; rfl
  · by_cases h2 : r ≤ 2047
    · rw [enc2 r (by omega) h2, if_neg (by omega), if_pos (by omega)]; rfl
    · by_cases h3 : r ≤ 65535
      · rw [enc3 r (by omega), if_neg (by omega), if_neg (by omega), if_pos (by omega)]; rfl
      · rw [enc4 r (by omega) (by omega), if_neg (by omega), if_neg (by omega), if_neg (by omega)]; rfl
theorem width_range (r : Nat) (h : isCh r) : (r < 128 ∧ (enc r).length = 1) ∨ (128 ≤ r ∧ r < 2048 ∧ (enc r).length = 2) ∨ (2048 ≤ r ∧ r < 65536 ∧ (enc r).length = 3) ∨ (65536 ≤ r ∧ (enc r).length = 4) := by
  have := enc_width r h
  split at this
  · omega
  · split at this
    · omega
    · split at this <;> omega
theorem stepR_of (c : UInt8) (t m : List UInt8) (n r0 r : Nat) (hl : leadN c.toNat = (n, r0)) (hn : n = t.length + 1) (hc : contR t r0 = some r) (hi : isCh r) (hw : (enc r).length = n) : stepR (c :: (t ++ m)) = some (r, n) := by
  unfold stepR
  simp only [List.getD_cons_zero, hl, List.length_cons, List.length_append, List.drop_succ_cons, List.drop_zero]
  subst hn
  rw [if_neg (by omega)]
  have e : (t ++ m).take (t.length + 1 - 1) = t := by simp
  rw [e, hc]
  simp only
  rw [if_pos ⟨hi, hw⟩]
theorem stepR_enc (r : Nat) (m : List UInt8) (h : isCh r) : stepR (enc r ++ m) = some (r, (enc r).length) := by
  have hi := h
  unfold isCh at h
  by_cases h1 : r ≤ 127
  · have he := enc1 r h1
    have := stepR_of (UInt8.ofNat r) [] m 1 r r (by rw [toNat_of r (by omega)]; unfold leadN; rw [if_pos (by omega)]) rfl rfl hi (by rw [he]; rfl)
    rw [he]; exact this
  · by_cases h2 : r ≤ 2047
    · have he := enc2 r (by omega) h2
      have := stepR_of (UInt8.ofNat (192 + r / 64)) [UInt8.ofNat (128 + r % 64)] m 2 (r / 64) r
        (by rw [toNat_of _ (by omega)]; unfold leadN; rw [if_neg (by omega), if_pos (by omega), Prod.mk.injEq]; exact ⟨rfl, by omega⟩) rfl
        (by simp only [contR]; rw [toNat_of _ (by omega), if_neg (by omega), Option.some.injEq]; omega) hi (by rw [he]; rfl)
      rw [he]; exact this
    · by_cases h3 : r ≤ 65535
      · have he := enc3 r (by omega)
        have := stepR_of (UInt8.ofNat (224 + r / 4096)) [UInt8.ofNat (128 + r / 64 % 64), UInt8.ofNat (128 + r % 64)] m 3 (r / 4096) r
          (by rw [toNat_of _ (by omega)]; unfold leadN; rw [if_neg (by omega), if_neg (by omega), if_pos (by omega), Prod.mk.injEq]; exact ⟨rfl, by omega⟩) rfl
          (by simp only [contR]; rw [toNat_of _ (by omega), toNat_of _ (by omega), if_neg (by omega), if_neg (by omega), Option.some.injEq]; omega) hi (by rw [he]; rfl)
        rw [he]; exact this
      · have he := enc4 r (by omega) (by omega)
        have := stepR_of (UInt8.ofNat (240 + r / 262144)) [UInt8.ofNat (128 + r / 4096 % 64), UInt8.ofNat (128 + r / 64 % 64), UInt8.ofNat (128 + r % 64)] m 4 (r / 262144) r
          (by rw [toNat_of _ (by omega)]; unfold leadN; rw [if_neg (by omega), if_neg (by omega), if_neg (by omega), if_pos (by omega), Prod.mk.injEq]; exact ⟨rfl, by omega⟩) rfl
          (by simp only [contR]; rw [toNat_of _ (by omega), toNat_of _ (by omega), toNat_of _ (by omega), if_neg (by omega), if_neg (by omega), if_neg (by omega), Option.some.injEq]; omega) hi (by rw [he]; rfl)
        rw [he]; exact this
theorem ofNat_eq (b : UInt8) (n : Nat) (h : b.toNat = n) : UInt8.ofNat n = b := by subst h; simp
theorem stepR_some (l : List UInt8) (r n : Nat) (h : stepR l = some (r, n)) : isCh r ∧ l = enc r ++ l.drop n ∧ n = (enc r).length := by
  unfold stepR at h
  split at h
  · cases h
  · rename_i hl
    cases hc : contR ((l.drop 1).take ((leadN (l.getD 0 0).toNat).1 - 1)) (leadN (l.getD 0 0).toNat).2 with
    | none => rw [hc] at h; cases h
    | some x =>
      rw [hc] at h
      simp only at h
      split at h
      · rename_i hx
        cases h
        obtain ⟨hi, hw⟩ := hx
        refine ⟨hi, ?_, hw.symm⟩
        have hw2 := width_range r hi
        rw [hw] at hw2
        have hi2 := hi
        unfold isCh at hi2
        cases l with
        | nil => simp [leadN] at hl
        | cons c t =>
          simp only [List.getD_cons_zero, List.drop_succ_cons, List.drop_zero, List.length_cons] at *
          have hc256 := c.toNat_lt
          by_cases k1 : c.toNat < 128
          · have e : leadN c.toNat = (1, c.toNat) := by unfold leadN; rw [if_pos k1]
            rw [e] at hc hw ⊢
            simp only [Nat.sub_self, List.take_zero, contR, Option.some.injEq] at hc
            subst hc
            rw [enc1 _ (by omega)]
            simp
          · by_cases k2 : 192 ≤ c.toNat ∧ c.toNat < 224
            · have e : leadN c.toNat = (2, c.toNat - 192) := by unfold leadN; rw [if_neg k1, if_pos k2]
              rw [e] at hc hw hw2 hl ⊢
              simp only at hw2
              match t, hl with
              | [], hl => simp at hl
              | b :: t, _ =>
                simp only [List.take_succ_cons, List.take_zero, contR] at hc
                split at hc
                · cases hc
                · rename_i hb
                  rw [Option.some.injEq] at hc
                  subst hc
                  rw [enc2 _ (by omega) (by omega)]
                  have e1 : 192 + ((c.toNat - 192) * 64 + b.toNat - 128) / 64 = c.toNat := by omega
                  have e2 : 128 + ((c.toNat - 192) * 64 + b.toNat - 128) % 64 = b.toNat := by omega
                  rw [e1, e2]
                  simp
            · by_cases k3 : 224 ≤ c.toNat ∧ c.toNat < 240
              · have e : leadN c.toNat = (3, c.toNat - 224) := by unfold leadN; rw [if_neg k1, if_neg k2, if_pos k3]
                rw [e] at hc hw hw2 hl ⊢
                simp only at hw2
                match t, hl with
                | [], hl => simp at hl
                | [_], hl => simp at hl
                | b :: d :: t, _ =>
                  simp only [List.take_succ_cons, List.take_zero, contR] at hc
                  split at hc
                  · cases hc
                  · rename_i hb
                    split at hc
                    · cases hc
                    · rename_i hd
                      rw [Option.some.injEq] at hc
                      subst hc
                      rw [enc3 _ (by omega)]
                      have e1 : 224 + (((c.toNat - 224) * 64 + b.toNat - 128) * 64 + d.toNat - 128) / 4096 = c.toNat := by omega
                      have e2 : 128 + (((c.toNat - 224) * 64 + b.toNat - 128) * 64 + d.toNat - 128) / 64 % 64 = b.toNat := by omega
                      have e3 : 128 + (((c.toNat - 224) * 64 + b.toNat - 128) * 64 + d.toNat - 128) % 64 = d.toNat := by omega
                      rw [e1, e2, e3]
                      simp
              · by_cases k4 : 240 ≤ c.toNat ∧ c.toNat < 248
                · have e : leadN c.toNat = (4, c.toNat - 240) := by unfold leadN; rw [if_neg k1, if_neg k2, if_neg k3, if_pos k4]
                  rw [e] at hc hw hw2 hl ⊢
                  simp only at hw2
                  match t, hl with
                  | [], hl => simp at hl
                  | [_], hl => simp at hl
                  | [_, _], hl => simp at hl
                  | b :: d :: f :: t, _ =>
                    simp only [List.take_succ_cons, List.take_zero, contR] at hc
                    split at hc
                    · cases hc
                    · rename_i hb
                      split at hc
                      · cases hc
                      · rename_i hd
                        split at hc
                        · cases hc
                        · rename_i hf
                          rw [Option.some.injEq] at hc
                          subst hc
                          rw [enc4 _ (by omega) (by omega)]
                          have e1 : 240 + ((((c.toNat - 240) * 64 + b.toNat - 128) * 64 + d.toNat - 128) * 64 + f.toNat - 128) / 262144 = c.toNat := by omega
                          have e2 : 128 + ((((c.toNat - 240) * 64 + b.toNat - 128) * 64 + d.toNat - 128) * 64 + f.toNat - 128) / 4096 % 64 = b.toNat := by omega
                          have e3 : 128 + ((((c.toNat - 240) * 64 + b.toNat - 128) * 64 + d.toNat - 128) * 64 + f.toNat - 128) / 64 % 64 = d.toNat := by omega
                          have e4 : 128 + ((((c.toNat - 240) * 64 + b.toNat - 128) * 64 + d.toNat - 128) * 64 + f.toNat - 128) % 64 = f.toNat := by omega
                          rw [e1, e2, e3, e4]
                          simp
                · exfalso
                  have e : leadN c.toNat = (0, 0) := by unfold leadN; rw [if_neg k1, if_neg k2, if_neg k3, if_neg k4]
                  rw [e] at hl
                  exact hl (Or.inl rfl)
      · cases h
/-- what is told of any bytes -/
def charsOf (l : List UInt8) : Option (List Nat) := if validD l = true then some (rns l) else none
theorem charsOf_step (l : List UInt8) (r n : Nat) (h : stepR l = some (r, n)) : charsOf l = (charsOf (l.drop n)).map (r :: ·) := by
  obtain ⟨hi, hl, _⟩ := stepR_some l r n h
  unfold charsOf
  have hv : validD l = validD (l.drop n) := by conv => lhs; rw [hl]
                                               exact valid_enc r _ hi
  rw [hv]
  split
  · have hr : rns l = r :: rns (l.drop n) := by conv => lhs; rw [hl]
                                                exact rns_enc r _ hi
    rw [hr]; rfl
  · rfl
theorem charsOf_none (l : List UInt8) (hne : l ≠ []) (h : stepR l = none) : charsOf l = none := by
  unfold charsOf
  rw [if_neg]
  intro hv
  rw [validD_step l hne] at hv
  split at hv
  · cases hv
  · rename_i hb
    have he := encode_decode l hne hb
    have hc := decode_ch l
    have hl : l = enc (decodeL l).1 ++ l.drop (decodeL l).2 := by
      show l = encodeRune _ ++ _
      rw [he, List.take_append_drop]
    rw [hl, stepR_enc _ _ hc] at h
    cases h
end Sc
end Go.Proofs.YtlfmaeodkghbbaaDoor
