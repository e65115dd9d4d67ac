/-
  Mathematics: the tag of a node's event is the node's.
-/
import Derived.Test.YtbimjdlkffbncaaDoorFa
namespace Go.Proofs.YtbimjdlkffbncaaDoor
namespace Fl
theorem right_nil : Tg.right [] = false := by decide +kernel
theorem own_nil : Tg.isOwn [] = false := by decide +kernel
theorem fits_nil (s : List UInt8) : Tg.fits [] s = false := by
  unfold Tg.fits Tg.fitsK
  rw [if_neg (by decide), if_neg (by decide), if_neg (by decide)]
  exact own_nil
theorem group_back (c t : List UInt8) (h : Ar.isTagOf c t = true) : Co.groupTag c (unless' t c) = .ok t := by
  unfold unless' Co.groupTag
  by_cases ht : t = c
  · rw [if_pos ht, if_pos (.inl rfl), ht]
  · rw [if_neg ht]
    unfold Ar.isTagOf at h
    have hb : (t == c) = false := beq_eq_false_iff_ne.2 ht
    rw [hb, Bool.false_or, Bool.and_eq_true] at h
    have hn : ¬ (t = [] ∨ t = c) := by
      rintro (e | e)
      · rw [e, right_nil] at h; exact absurd h.1 (by decide)
      · exact ht e
    rw [if_neg hn, if_pos ⟨h.1, by simpa using h.2⟩]
theorem tag_back (g : List Ar.Nd) (x : Ar.Nd) (h : Ar.mayBe g x = true) :
    Co.tagOf (event x) = .ok x.tag ∧ (event x).text = x.text ∧ (event x).anchor = [] ∧ ((event x).plain = true → (event x).tag = []) := by
  unfold Ar.mayBe at h
  rw [Bool.and_eq_true] at h
  have h2 := h.2
  unfold Ar.may1 at h2
  unfold event
  split at h2
  · rename_i h0
    rw [if_pos h0]
    rw [Bool.and_eq_true, Bool.and_eq_true] at h2
    obtain ⟨_, _, hf⟩ := h2
    split
    · rename_i hp
      refine ⟨?_, rfl, rfl, fun _ => rfl⟩
      show Co.scalarTag [] x.text true = _
      unfold Co.scalarTag
      rw [if_pos rfl, if_pos rfl, hp.2]
    · refine ⟨?_, rfl, rfl, fun h => by simp at h⟩
      show Co.scalarTag (unless' x.tag strW) x.text false = _
      unfold Co.scalarTag unless'
      by_cases ht : x.tag = strW
      · rw [if_pos ht, if_pos rfl, if_neg (by decide), ht]; rfl
      · rw [if_neg ht]
        have hn : ¬ x.tag = [] := fun e => by rw [e, fits_nil] at hf; cases hf
        rw [if_neg hn, if_pos hf]
  · rename_i h0
    rw [if_neg h0]
    split at h2
    · rename_i h1
      rw [if_pos h1]
      rw [Bool.and_eq_true] at h2
      have ht : x.text = [] := List.isEmpty_iff.1 h2.1
      refine ⟨?_, ht.symm, rfl, fun h => by simp at h⟩
      show Co.groupTag Ar.seqW _ = _
      exact group_back _ _ h2.2
    · rename_i h1
      rw [if_neg h1]
      split at h2
      · rename_i h3
        rw [if_pos h3]
        rw [Bool.and_eq_true, Bool.and_eq_true] at h2
        have ht : x.text = [] := List.isEmpty_iff.1 h2.1
        refine ⟨?_, ht.symm, rfl, fun h => by simp at h⟩
        show Co.groupTag Ar.mapW _ = _
        exact group_back _ _ h2.2.1
      · cases h2
end Fl
end Go.Proofs.YtbimjdlkffbncaaDoor
