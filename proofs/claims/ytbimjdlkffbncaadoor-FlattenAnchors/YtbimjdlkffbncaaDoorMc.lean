/-
  Plain mathematics, no program's run in it: the runes of a text, and their bytes: a text is valid just if it is the bytes of its runes.
-/
import Derived.Test.YtbimjdlkffbncaaDoorMb
import Derived.Lib.MapLaws
import Derived.Lib.ValidLaws
namespace Go.Proofs.YtbimjdlkffbncaaDoor
namespace Sc
open Go.Lib

/-- is a number a character? -/
def isCh (r : Nat) : Prop := r < 55296 ∨ (57343 < r ∧ r ≤ 1114111)
instance (r : Nat) : Decidable (isCh r) := inferInstanceAs (Decidable (_ ∨ _))
/-- the bytes of a rune -/
def enc (r : Nat) : List UInt8 := encodeRune (r : Int)

/-- the runes of a text, with fuel -/
def rnsGo : Nat → List UInt8 → List Nat
  | 0, _ => []
  | n + 1, l => if l = [] then [] else (decodeL l).1 :: rnsGo n (l.drop (decodeL l).2)
def rns (l : List UInt8) : List Nat := rnsGo l.length l

theorem rnsGo_nil (n : Nat) : rnsGo n [] = [] := by cases n <;> simp [rnsGo]
theorem rnsGo_fuel : ∀ (n m : Nat) (l : List UInt8), l.length ≤ n → l.length ≤ m → rnsGo n l = rnsGo m l
  | 0, m, l, h, _ => by
    have : l = [] := List.eq_nil_of_length_eq_zero (by omega)
    subst this; rw [rnsGo_nil, rnsGo_nil]
  | n + 1, 0, l, _, h => by
    have : l = [] := List.eq_nil_of_length_eq_zero (by omega)
    subst this; rw [rnsGo_nil, rnsGo_nil]
  | n + 1, m + 1, l, h1, h2 => by
    by_cases hl : l = []
    · subst hl; rw [rnsGo_nil, rnsGo_nil]
    · simp only [rnsGo, if_neg hl]
      have hw := decodeL_width l
      rw [rnsGo_fuel n m _ (by rw [List.length_drop]; omega) (by rw [List.length_drop]; omega)]
theorem rns_nil : rns [] = [] := rfl
theorem rns_step (l : List UInt8) (hl : l ≠ []) : rns l = (decodeL l).1 :: rns (l.drop (decodeL l).2) := by
  have hp : 0 < l.length := List.length_pos_iff.2 hl
  have hw := decodeL_width l
  unfold rns
  obtain ⟨n, hn⟩ : ∃ n, l.length = n + 1 := ⟨l.length - 1, by omega⟩
  rw [hn]
  simp only [rnsGo, if_neg hl]
  rw [rnsGo_fuel n (l.drop (decodeL l).2).length _ (by rw [List.length_drop]; omega) (Nat.le_refl _)]

theorem enc1 (r : Nat) (h : r ≤ 127) : enc r = [UInt8.ofNat r] := by
  unfold enc encodeRune
  rw [encodeRuneZ_one (by omega) (by omega)]
  simp
theorem enc2 (r : Nat) (h0 : 128 ≤ r) (h : r ≤ 2047) : enc r = [UInt8.ofNat (192 + r / 64), UInt8.ofNat (128 + r % 64)] := by
  unfold enc encodeRune
  rw [encodeRuneZ_two (by omega) (by omega)]
  simp only [List.map_cons, List.map_nil]
  have e1 : (192 + (r : Int) / 64).toNat = 192 + r / 64 := by omega
  have e2 : (128 + (r : Int) % 64).toNat = 128 + r % 64 := by omega
  rw [e1, e2]
theorem enc3 (r : Nat) (h : (2048 ≤ r ∧ r < 55296) ∨ (57343 < r ∧ r ≤ 65535)) : enc r = [UInt8.ofNat (224 + r / 4096), UInt8.ofNat (128 + r / 64 % 64), UInt8.ofNat (128 + r % 64)] := by
  unfold enc encodeRune
  rw [encodeRuneZ_three (by omega)]
  simp only [List.map_cons, List.map_nil]
  have e1 : (224 + (r : Int) / 4096).toNat = 224 + r / 4096 := by omega
  have e2 : (128 + (r : Int) / 64 % 64).toNat = 128 + r / 64 % 64 := by omega
  have e3 : (128 + (r : Int) % 64).toNat = 128 + r % 64 := by omega
  rw [e1, e2, e3]
theorem enc4 (r : Nat) (h0 : 65536 ≤ r) (h : r ≤ 1114111) : enc r = [UInt8.ofNat (240 + r / 262144), UInt8.ofNat (128 + r / 4096 % 64), UInt8.ofNat (128 + r / 64 % 64), UInt8.ofNat (128 + r % 64)] := by
  unfold enc encodeRune
  rw [encodeRuneZ_four (by omega) (by omega)]
  simp only [List.map_cons, List.map_nil]
  have e1 : (240 + (r : Int) / 262144).toNat = 240 + r / 262144 := by omega
  have e2 : (128 + (r : Int) / 4096 % 64).toNat = 128 + r / 4096 % 64 := by omega
  have e3 : (128 + (r : Int) / 64 % 64).toNat = 128 + r / 64 % 64 := by omega
  have e4 : (128 + (r : Int) % 64).toNat = 128 + r % 64 := by omega
  rw [e1, e2, e3, e4]
theorem toNat_of (n : Nat) (h : n < 256) : (UInt8.ofNat n).toNat = n := by
  rw [UInt8.toNat_ofNat']; omega

theorem decode_enc (r : Nat) (t : List UInt8) (h : isCh r) : decodeL (enc r ++ t) = (r, (enc r).length) := by
  unfold isCh at h
  rw [decodeL_N]
  by_cases h1 : r ≤ 127
  · rw [enc1 r h1]
    simp only [List.cons_append, List.nil_append, List.getD_cons_zero, List.length_cons, List.length_nil]
    rw [toNat_of r (by omega)]
    unfold decodeN
    rw [if_pos (by omega)]
  · by_cases h2 : r ≤ 2047
    · rw [enc2 r (by omega) h2]
      simp only [List.cons_append, List.nil_append, List.getD_cons_zero, List.getD_cons_succ, List.length_cons, List.length_nil]
      rw [toNat_of _ (by omega), toNat_of _ (by omega)]
      unfold decodeN
      rw [if_neg (by omega), if_pos (by omega), if_pos (by omega)]
      rw [Prod.mk.injEq]; omega
    · by_cases h3 : r ≤ 65535
      · rw [enc3 r (by omega)]
        simp only [List.cons_append, List.nil_append, List.getD_cons_zero, List.getD_cons_succ, List.length_cons, List.length_nil]
        rw [toNat_of _ (by omega), toNat_of _ (by omega), toNat_of _ (by omega)]
        unfold decodeN
        rw [if_neg (by omega), if_neg (by omega), if_pos (by omega), if_pos (by omega)]
        rw [Prod.mk.injEq]; omega
      · rw [enc4 r (by omega) (by omega)]
        simp only [List.cons_append, List.nil_append, List.getD_cons_zero, List.getD_cons_succ, List.length_cons, List.length_nil]
        rw [toNat_of _ (by omega), toNat_of _ (by omega), toNat_of _ (by omega), toNat_of _ (by omega)]
        unfold decodeN
        rw [if_neg (by omega), if_neg (by omega), if_neg (by omega), if_pos (by omega), if_pos (by omega)]
        rw [Prod.mk.injEq]; omega

theorem enc_len (r : Nat) : 1 ≤ (enc r).length ∧ (enc r).length ≤ 4 := by
  have := runeCells_le (r : Int)
  rw [runeCells_length] at this
  exact this
theorem enc_ne (r : Nat) : enc r ≠ [] := by
  have := (enc_len r).1
  intro e; rw [e] at this; simp at this

theorem valid_enc (r : Nat) (t : List UInt8) (h : isCh r) : validD (enc r ++ t) = validD t := by
  have hne : enc r ++ t ≠ [] := by simp [enc_ne]
  rw [validD_step _ hne, decode_enc r t h]
  have : ¬ (r = 65533 ∧ (enc r).length = 1) := by
    rintro ⟨rfl, h1⟩
    rw [enc3 65533 (by omega)] at h1
    simp at h1
  rw [if_neg this, List.drop_left]
theorem rns_enc (r : Nat) (t : List UInt8) (h : isCh r) : rns (enc r ++ t) = r :: rns t := by
  have hne : enc r ++ t ≠ [] := by simp [enc_ne]
  rw [rns_step _ hne, decode_enc r t h, List.drop_left]

/-- the bytes of a row of runes -/
def encs (rs : List Nat) : List UInt8 := rs.flatMap enc
theorem encs_nil : encs [] = [] := rfl
theorem encs_cons (r : Nat) (rs : List Nat) : encs (r :: rs) = enc r ++ encs rs := by simp [encs]
theorem encs_append (a b : List Nat) : encs (a ++ b) = encs a ++ encs b := by simp [encs]
theorem valid_encs : ∀ rs : List Nat, (∀ r ∈ rs, isCh r) → validD (encs rs) = true
  | [], _ => rfl
  | r :: rs, h => by
    rw [encs_cons, valid_enc r _ (h r (by simp))]
    exact valid_encs rs fun x hx => h x (by simp [hx])
theorem rns_encs : ∀ rs : List Nat, (∀ r ∈ rs, isCh r) → rns (encs rs) = rs
  | [], _ => rfl
  | r :: rs, h => by
    rw [encs_cons, rns_enc r _ (h r (by simp)), rns_encs rs fun x hx => h x (by simp [hx])]

/-- what is decoded where nothing is wrong is a character -/
theorem decode_ch (l : List UInt8) : isCh (decodeL l).1 := by
  rw [decodeL_N]
  unfold isCh
  have hb : (l.getD 0 0).toNat < 256 := (l.getD 0 0).toNat_lt
  rcases decodeN_shape l.length (l.getD 0 0).toNat (l.getD 1 0).toNat (l.getD 2 0).toNat (l.getD 3 0).toNat with ⟨h, e⟩ | ⟨h1, h2, h3, h4, e⟩ | ⟨h1, h2, h3, h4, h5, h6, e⟩ | ⟨h1, h2, h3, h4, h5, h6, h7, e⟩ | e
  all_goals rw [e]; simp only; omega
theorem rns_ch : ∀ (n : Nat) (l : List UInt8), l.length ≤ n → ∀ r ∈ rns l, isCh r
  | 0, l, h, r, hr => by
    have : l = [] := List.eq_nil_of_length_eq_zero (by omega)
    subst this; simp [rns_nil] at hr
  | n + 1, l, h, r, hr => by
    by_cases hl : l = []
    · subst hl; simp [rns_nil] at hr
    · rw [rns_step l hl] at hr
      have hp : 0 < l.length := List.length_pos_iff.2 hl
      have hw := decodeL_width l
      rcases List.mem_cons.1 hr with rfl | hr
      · exact decode_ch l
      · exact rns_ch n _ (by rw [List.length_drop]; omega) r hr
theorem ch_rns (l : List UInt8) : ∀ r ∈ rns l, isCh r := rns_ch l.length l (Nat.le_refl _)

/-- A VALID TEXT IS THE BYTES OF ITS RUNES -/
theorem encs_rns_go : ∀ (n : Nat) (l : List UInt8), l.length ≤ n → validD l = true → encs (rns l) = l
  | 0, l, h, _ => by
    have : l = [] := List.eq_nil_of_length_eq_zero (by omega)
    subst this; rfl
  | n + 1, l, h, hv => by
    by_cases hl : l = []
    · subst hl; rfl
    · rw [validD_step l hl] at hv
      have hp : 0 < l.length := List.length_pos_iff.2 hl
      have hw := decodeL_width l
      by_cases hb : (decodeL l).1 = 65533 ∧ (decodeL l).2 = 1
      · rw [if_pos hb] at hv; cases hv
      · rw [if_neg hb] at hv
        rw [rns_step l hl, encs_cons, encs_rns_go n _ (by rw [List.length_drop]; omega) hv]
        have := encode_decode l hl hb
        show encodeRune _ ++ _ = l
        rw [this, List.take_append_drop]
theorem encs_rns (l : List UInt8) (hv : validD l = true) : encs (rns l) = l := encs_rns_go l.length l (Nat.le_refl _) hv
end Sc
end Go.Proofs.YtbimjdlkffbncaaDoor
