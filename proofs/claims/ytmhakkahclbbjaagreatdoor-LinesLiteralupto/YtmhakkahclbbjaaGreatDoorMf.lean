/-
  Plain mathematics, no program's run in it: what End tells.
-/
import Derived.Test.YtmhakkahclbbjaaGreatDoorMb
namespace Go.Proofs.YtmhakkahclbbjaaGreatDoor
namespace Sc
theorem endD_some : ∀ (t : List UInt8) (k n : Nat), endD t k = some n → k + 1 ≤ n ∧ n ≤ k + t.length ∧ t[n - k - 1]? = some 34 ∧ ∀ r, endD (t.take (n - k) ++ r) k = some n
  | [], k, n, h => by simp [endD] at h
  | [b], k, n, h => by
    simp only [endD] at h
    by_cases hb : b = 34
    · rw [if_pos hb] at h
      cases h
      subst hb
      have e : k + 1 - k = 1 := by omega
      refine ⟨by omega, by simp, by simp [e], fun r => ?_⟩
      simp [e, endD_q]
    · rw [if_neg hb] at h; cases h
  | b :: c :: t, k, n, h => by
    simp only [endD] at h
    by_cases hb : b = 92
    · rw [if_pos hb] at h
      obtain ⟨h1, h2, h3, h4⟩ := endD_some t (k + 2) n h
      subst hb
      obtain ⟨m, rfl⟩ : ∃ m, n = k + 2 + m + 1 := ⟨n - k - 3, by omega⟩
      have e1 : k + 2 + m + 1 - (k + 2) - 1 = m := by omega
      have e2 : k + 2 + m + 1 - (k + 2) = m + 1 := by omega
      have e3 : k + 2 + m + 1 - k - 1 = m + 2 := by omega
      have e4 : k + 2 + m + 1 - k = m + 3 := by omega
      rw [e1] at h3
      refine ⟨by omega, by simp; omega, by rw [e3]; simpa using h3, fun r => ?_⟩
      have := h4 r
      rw [e2] at this
      rw [e4]
      simp only [List.take_succ_cons, List.cons_append]
      rw [endD_bs]
      simpa using this
    · rw [if_neg hb] at h
      by_cases hb2 : b = 34
      · rw [if_pos hb2] at h
        cases h
        subst hb2
        have e : k + 1 - k = 1 := by omega
        refine ⟨by omega, by simp, by simp [e], fun r => ?_⟩
        simp [e, endD_q]
      · rw [if_neg hb2] at h
        obtain ⟨h1, h2, h3, h4⟩ := endD_some (c :: t) (k + 1) n h
        obtain ⟨m, rfl⟩ : ∃ m, n = k + 1 + m + 1 := ⟨n - k - 2, by omega⟩
        have e1 : k + 1 + m + 1 - (k + 1) - 1 = m := by omega
        have e2 : k + 1 + m + 1 - (k + 1) = m + 1 := by omega
        have e3 : k + 1 + m + 1 - k - 1 = m + 1 := by omega
        have e4 : k + 1 + m + 1 - k = m + 2 := by omega
        rw [e1] at h3
        refine ⟨by omega, by simp at h2 ⊢; omega, by rw [e3]; simpa using h3, fun r => ?_⟩
        have := h4 r
        rw [e2] at this
        rw [e4]
        simp only [List.take_succ_cons, List.cons_append]
        rw [endD_other b _ _ hb hb2]
        simpa using this
theorem endS_some : ∀ (t : List UInt8) (k n : Nat), endS t k = some n → k + 1 ≤ n ∧ n ≤ k + t.length ∧ t[n - k - 1]? = some 39 ∧ ∀ r, r.head? ≠ some 39 → endS (t.take (n - k) ++ r) k = some n
  | [], k, n, h => by simp [endS] at h
  | [b], k, n, h => by
    simp only [endS] at h
    by_cases hb : b = 39
    · rw [if_pos hb] at h
      cases h
      subst hb
      have e : k + 1 - k = 1 := by omega
      refine ⟨by omega, by simp, by simp [e], fun r hr => ?_⟩
      simp [e, endS_q r k hr]
    · rw [if_neg hb] at h; cases h
  | b :: c :: t, k, n, h => by
    simp only [endS] at h
    by_cases hb : b = 39
    · rw [if_pos hb] at h
      subst hb
      by_cases hc : c = 39
      · rw [if_pos hc] at h
        subst hc
        obtain ⟨h1, h2, h3, h4⟩ := endS_some t (k + 2) n h
        obtain ⟨m, rfl⟩ : ∃ m, n = k + 2 + m + 1 := ⟨n - k - 3, by omega⟩
        have e1 : k + 2 + m + 1 - (k + 2) - 1 = m := by omega
        have e2 : k + 2 + m + 1 - (k + 2) = m + 1 := by omega
        have e3 : k + 2 + m + 1 - k - 1 = m + 2 := by omega
        have e4 : k + 2 + m + 1 - k = m + 3 := by omega
        rw [e1] at h3
        refine ⟨by omega, by simp; omega, by rw [e3]; simpa using h3, fun r hr => ?_⟩
        have := h4 r hr
        rw [e2] at this
        rw [e4]
        simp only [List.take_succ_cons, List.cons_append]
        rw [endS_qq]
        simpa using this
      · rw [if_neg hc] at h
        cases h
        have e : k + 1 - k = 1 := by omega
        refine ⟨by omega, by simp, by simp [e], fun r hr => ?_⟩
        simp [e, endS_q r k hr]
    · rw [if_neg hb] at h
      obtain ⟨h1, h2, h3, h4⟩ := endS_some (c :: t) (k + 1) n h
      obtain ⟨m, rfl⟩ : ∃ m, n = k + 1 + m + 1 := ⟨n - k - 2, by omega⟩
      have e1 : k + 1 + m + 1 - (k + 1) - 1 = m := by omega
      have e2 : k + 1 + m + 1 - (k + 1) = m + 1 := by omega
      have e3 : k + 1 + m + 1 - k - 1 = m + 1 := by omega
      have e4 : k + 1 + m + 1 - k = m + 2 := by omega
      rw [e1] at h3
      refine ⟨by omega, by simp at h2 ⊢; omega, by rw [e3]; simpa using h3, fun r hr => ?_⟩
      have := h4 r hr
      rw [e2] at this
      rw [e4]
      simp only [List.take_succ_cons, List.cons_append]
      rw [endS_other b _ _ hb]
      simpa using this

/-- WHAT End TELLS: its bounds, its two quotes, and that it ends there, whatever stands behind it -/
theorem endOf_some (l : List UInt8) (n : Nat) (h : endOf l = some n) :
    2 ≤ n ∧ n ≤ l.length ∧ (∃ q : UInt8, (q = 34 ∨ q = 39) ∧ l.head? = some q ∧ l[n - 1]? = some q) ∧ endOf (l.take n) = some n := by
  cases l with
  | nil => simp [endOf] at h
  | cons q t =>
    simp only [endOf] at h
    by_cases h1 : q = 34
    · rw [if_pos h1] at h
      subst h1
      obtain ⟨a, b, c, d⟩ := endD_some t 1 n h
      obtain ⟨m, rfl⟩ : ∃ m, n = m + 2 := ⟨n - 2, by omega⟩
      have e1 : m + 2 - 1 - 1 = m := by omega
      have e2 : m + 2 - 1 = m + 1 := by omega
      rw [e1] at c
      refine ⟨by omega, by simp; omega, ⟨34, Or.inl rfl, rfl, by rw [e2]; simpa using c⟩, ?_⟩
      have := d []
      rw [e2] at this
      simp only [List.take_succ_cons, endOf, if_true]
      simpa using this
    · rw [if_neg h1] at h
      by_cases h2 : q = 39
      · rw [if_pos h2] at h
        subst h2
        obtain ⟨a, b, c, d⟩ := endS_some t 1 n h
        obtain ⟨m, rfl⟩ : ∃ m, n = m + 2 := ⟨n - 2, by omega⟩
        have e1 : m + 2 - 1 - 1 = m := by omega
        have e2 : m + 2 - 1 = m + 1 := by omega
        rw [e1] at c
        refine ⟨by omega, by simp; omega, ⟨39, Or.inr rfl, rfl, by rw [e2]; simpa using c⟩, ?_⟩
        have := d [] (by simp)
        rw [e2] at this
        simp only [List.take_succ_cons, endOf, if_neg h1, if_true]
        simpa using this
      · rw [if_neg h2] at h; cases h
end Sc
end Go.Proofs.YtmhakkahclbbjaaGreatDoor
