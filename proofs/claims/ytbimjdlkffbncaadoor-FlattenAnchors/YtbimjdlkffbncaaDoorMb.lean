/-
  Plain mathematics, no program in it: steps of endD and endS at a place of a text.
-/
import Derived.Test.YtbimjdlkffbncaaDoorMa
namespace Go.Proofs.YtbimjdlkffbncaaDoor
namespace Sc
theorem drop_cons (s : ByteArray) (k : Nat) (h : k < s.size) : s.data.toList.drop k = s[k] :: s.data.toList.drop (k + 1) := by
  rw [List.drop_eq_getElem_cons (by simpa using h)]; rfl
theorem drop_nil (s : ByteArray) (k : Nat) (h : s.size ≤ k) : s.data.toList.drop k = [] := by
  rw [List.drop_eq_nil_iff]; simpa using h
theorem endD_bs (t : List UInt8) (k : Nat) : endD (92 :: t) k = endD (t.drop 1) (k + 2) := by
  cases t with
  | nil => simp [endD]
  | cons c t => simp [endD]
theorem endD_q (t : List UInt8) (k : Nat) : endD (34 :: t) k = some (k + 1) := by
  cases t <;> simp [endD]
theorem endD_other (b : UInt8) (t : List UInt8) (k : Nat) (h1 : b ≠ 92) (h2 : b ≠ 34) : endD (b :: t) k = endD t (k + 1) := by
  cases t <;> simp [endD, h1, h2]
theorem endS_qq (t : List UInt8) (k : Nat) : endS (39 :: 39 :: t) k = endS t (k + 2) := by simp [endS]
theorem endS_q (t : List UInt8) (k : Nat) (h : t.head? ≠ some 39) : endS (39 :: t) k = some (k + 1) := by
  cases t with
  | nil => simp [endS]
  | cons c t => simp at h; simp [endS, h]
theorem endS_other (b : UInt8) (t : List UInt8) (k : Nat) (h2 : b ≠ 39) : endS (b :: t) k = endS t (k + 1) := by
  cases t <;> simp [endS, h2]
theorem u8_eq {a : UInt8} (n : Nat) (h : a.toNat = n) : a = UInt8.ofNat n := by
  rw [← h]; simp
theorem u8_ne {a b : UInt8} (h : a.toNat ≠ b.toNat) : a ≠ b := fun e => h (by rw [e])
/-- what is told behind a step at place k of s, where the byte is c -/
theorem endD_at (s : ByteArray) (k : Nat) (h : k < s.size) :
    endD (s.data.toList.drop k) k = if (s[k].toNat : Int) = 92 then endD (s.data.toList.drop (k + 2)) (k + 2) else if (s[k].toNat : Int) = 34 then some (k + 1) else endD (s.data.toList.drop (k + 1)) (k + 1) := by
  rw [drop_cons s k h]
  by_cases h1 : (s[k].toNat : Int) = 92
  · rw [if_pos h1]
    have e : s[k] = 92 := u8_eq 92 (by omega)
    rw [e, endD_bs, List.drop_drop]
  · rw [if_neg h1]
    by_cases h2 : (s[k].toNat : Int) = 34
    · rw [if_pos h2]
      have e : s[k] = 34 := u8_eq 34 (by omega)
      rw [e, endD_q]
    · rw [if_neg h2, endD_other _ _ _ (fun e => h1 (by rw [e]; rfl)) (fun e => h2 (by rw [e]; rfl))]
end Sc
end Go.Proofs.YtbimjdlkffbncaaDoor
