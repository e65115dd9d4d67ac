/-
  The laws' own: heavy, Theirs.
-/
import Derived.Test.YthkedlcmpibkjaaGreatDoorEo
namespace Go.Proofs.YthkedlcmpibkjaaGreatDoor
namespace Ev
def big (x : E) : Bool := decide (3000 < x.text.length) || (decide (3000 < x.anchor.length) || decide (3000 < x.tag.length))
/-- is a row too long to be asked? -/
def heavy (es : List E) : Bool := es.any big || decide (150 < es.length)
theorem big_false (x : E) (h : big x = false) : x.anchor.length ≤ 3000 ∧ x.tag.length ≤ 3000 ∧ x.text.length ≤ 3000 := by
  unfold big at h
  simp only [Bool.or_eq_false_iff, decide_eq_false_iff_not] at h
  omega
theorem light (es : List E) (h : heavy es = false) : es.length ≤ 150 ∧ ∀ x ∈ es, x.anchor.length ≤ 3000 ∧ x.tag.length ≤ 3000 ∧ x.text.length ≤ 3000 := by
  unfold heavy at h
  rw [Bool.or_eq_false_iff, decide_eq_false_iff_not, List.any_eq_false] at h
  exact ⟨by omega, fun x hx => big_false x (by have := h.1 x hx; simpa using this)⟩
theorem any_drop (es : List E) (j : Nat) (h : j < es.length) : (es.drop j).any big = (big es[j] || (es.drop (j + 1)).any big) := by
  rw [List.drop_eq_getElem_cons h, List.any_cons]
end Ev
open Go.RowKit

end Go.Proofs.YthkedlcmpibkjaaGreatDoor
