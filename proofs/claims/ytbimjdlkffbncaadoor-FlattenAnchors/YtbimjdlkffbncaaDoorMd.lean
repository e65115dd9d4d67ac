/-
  Plain mathematics, no program's run in it: strings.ReplaceAll by the head of a text; quotes twice, and once again.
-/
import Derived.Test.YtbimjdlkffbncaaDoorMc
import Derived.Lib.Replace
import Derived.Lib.CountLaws
namespace Go.Proofs.YtbimjdlkffbncaaDoor
namespace Sc
open Go.Lib

theorem idx_cons (b : UInt8) (l old : List UInt8) (h : old.isPrefixOf (b :: l) = false) : index (b :: l) old = if index l old == -1 then -1 else index l old + 1 := by
  simp [index, h]
theorem idx_pre (l old : List UInt8) (h : old.isPrefixOf l = true) : index l old = 0 := by
  cases l with
  | nil => cases old with
    | nil => rfl
    | cons a t => simp [List.isPrefixOf] at h
  | cons b l => simp [index, h]

theorem repAll_eq (s old new : List UInt8) (hne : old ≠ new) : replaceAll s old new = replaceK old new (count s old) s := by
  unfold replaceAll replace replaceNum
  rw [if_neg (by simpa using hne), if_pos (Or.inl (by decide))]
theorem repAll_nil (old new : List UInt8) (hne : old ≠ new) (h0 : old ≠ []) : replaceAll [] old new = [] := by
  rw [repAll_eq _ _ _ hne]
  have : index [] old = -1 := by
    cases old with
    | nil => exact absurd rfl h0
    | cons a t => rfl
  rw [count_miss this]; rfl
theorem repAll_pre (s old new : List UInt8) (hne : old ≠ new) (h0 : old ≠ []) (h : old.isPrefixOf s = true) :
    replaceAll s old new = new ++ replaceAll (s.drop old.length) old new := by
  rw [repAll_eq _ _ _ hne, repAll_eq _ _ _ hne]
  have hi : index s old = ((0 : Nat) : Int) := idx_pre s old h
  rw [count_hit h0 hi, Nat.add_comm 1, replaceK_hit old new _ s 0 hi]
  simp
theorem repAll_skip (b : UInt8) (l old new : List UInt8) (hne : old ≠ new) (h0 : old ≠ []) (h : old.isPrefixOf (b :: l) = false) :
    replaceAll (b :: l) old new = b :: replaceAll l old new := by
  rw [repAll_eq _ _ _ hne, repAll_eq _ _ _ hne]
  have hc := idx_cons b l old h
  by_cases hm : index l old = -1
  · have hm' : index (b :: l) old = -1 := by rw [hc, hm]; rfl
    rw [count_miss hm, count_miss hm']; rfl
  · have hge := index_ge l old
    obtain ⟨i, hi⟩ : ∃ i : Nat, index l old = i := ⟨(index l old).toNat, by omega⟩
    have hi' : index (b :: l) old = ((i + 1 : Nat) : Int) := by
      rw [hc, if_neg (by simpa using hm), hi]; omega
    rw [count_hit h0 hi, count_hit h0 hi', Nat.add_comm 1, Nat.add_comm 1, replaceK_hit old new _ _ _ hi, replaceK_hit old new _ _ _ hi']
    have e : (b :: l).drop (i + 1 + old.length) = l.drop (i + old.length) := by
      rw [show i + 1 + old.length = (i + old.length) + 1 by omega, List.drop_succ_cons]
    rw [e]
    simp

/-- each quote twice -/
def dbl : List UInt8 → List UInt8
  | [] => []
  | b :: t => if b = 39 then 39 :: 39 :: dbl t else b :: dbl t
/-- two quotes once -/
def undbl : List UInt8 → List UInt8
  | [] => []
  | [b] => [b]
  | b :: c :: t => if b = 39 ∧ c = 39 then 39 :: undbl t else b :: undbl (c :: t)

theorem rep_dbl : ∀ l : List UInt8, replaceAll l [39] [39, 39] = dbl l
  | [] => repAll_nil _ _ (by decide) (by decide)
  | b :: t => by
    by_cases h : b = 39
    · subst h
      rw [repAll_pre _ _ _ (by decide) (by decide) (by simp [List.isPrefixOf])]
      simp [dbl, rep_dbl t]
    · rw [repAll_skip _ _ _ _ (by decide) (by decide) (by simp [List.isPrefixOf]; exact fun e => h e.symm)]
      simp [dbl, h, rep_dbl t]
theorem rep_undbl : ∀ l : List UInt8, replaceAll l [39, 39] [39] = undbl l
  | [] => repAll_nil _ _ (by decide) (by decide)
  | [b] => by
    rw [repAll_skip _ _ _ _ (by decide) (by decide) (by simp [List.isPrefixOf]), repAll_nil _ _ (by decide) (by decide)]
    rfl
  | b :: c :: t => by
    by_cases h : b = 39 ∧ c = 39
    · obtain ⟨rfl, rfl⟩ := h
      rw [repAll_pre _ _ _ (by decide) (by decide) (by simp [List.isPrefixOf])]
      simp [undbl, rep_undbl t]
    · rw [repAll_skip _ _ _ _ (by decide) (by decide) (by simp [List.isPrefixOf]; intro e e'; exact h ⟨e.symm, e'.symm⟩)]
      rw [rep_undbl (c :: t)]
      simp only [undbl, if_neg h]
theorem undbl_dbl : ∀ l : List UInt8, undbl (dbl l) = l
  | [] => rfl
  | b :: t => by
    by_cases h : b = 39
    · subst h
      simp [dbl, undbl, undbl_dbl t]
    · have ih := undbl_dbl t
      simp only [dbl, if_neg h]
      cases hd : dbl t with
      | nil => rw [hd] at ih; simp [undbl] at ih; simp [undbl, ← ih]
      | cons c r =>
        rw [hd] at ih
        have hn : ¬ (b = 39 ∧ c = 39) := fun e => h e.1
        simp only [undbl, if_neg hn, ih]
theorem dbl_len : ∀ l : List UInt8, (dbl l).length = l.length + l.count 39
  | [] => rfl
  | b :: t => by
    have ih := dbl_len t
    by_cases h : b = 39
    · subst h; simp [dbl, ih]; omega
    · simp [dbl, h, ih]; omega
theorem undbl_len : ∀ l : List UInt8, (undbl l).length ≤ l.length
  | [] => Nat.le_refl _
  | [_] => Nat.le_refl _
  | b :: c :: t => by
    have h1 := undbl_len t
    have h2 := undbl_len (c :: t)
    by_cases h : b = 39 ∧ c = 39
    · simp only [undbl, if_pos h, List.length_cons]; omega
    · simp only [undbl, if_neg h, List.length_cons] at *; omega
theorem dbl_append (a b : List UInt8) : dbl (a ++ b) = dbl a ++ dbl b := by
  induction a with
  | nil => rfl
  | cons x t ih => by_cases h : x = 39 <;> simp [dbl, h, ih]

/-- a text between single quotes -/
def sq (l : List UInt8) : List UInt8 := 39 :: (dbl l ++ [39])
theorem sq_len (l : List UInt8) : (sq l).length = l.length + 2 + l.count 39 := by
  simp [sq, dbl_len]; omega
end Sc
end Go.Proofs.YtbimjdlkffbncaaDoor
