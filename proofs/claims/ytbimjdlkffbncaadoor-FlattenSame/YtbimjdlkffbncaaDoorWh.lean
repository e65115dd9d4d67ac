/-
  Walk of scalar.escaped.
-/
import Derived.Test.YtbimjdlkffbncaaDoorWg
import Derived.BigQuiet
import Derived.Deep.QuietTactic
namespace Go.Proofs.YtbimjdlkffbncaaDoor
open Go.RowKit

theorem bel_drewN {B : Nat} {a w : World} (h : Below B a w) (n : Nat) : Below B a (w.drewN n) := ⟨h.os, h.tape, h.output, h.size, h.block⟩
/-- the character of a letter -/
def charFrom (k b : Nat) : Option Nat := ((namedTab.drop k).find? fun p => p.2 == b).map (·.1)
theorem charFrom_step (k b : Nat) (h : k < 15) : charFrom k b = if lt k = b then some (ch k) else charFrom (k + 1) b := by
  unfold charFrom ch lt
  have : namedTab.drop k = namedTab.getD k (0, 0) :: namedTab.drop (k + 1) := by
    have hl : k < namedTab.length := h
    rw [List.drop_eq_getElem_cons hl]; simp [List.getD, hl]
  rw [this, List.find?_cons]
  generalize namedTab.getD k (0, 0) = x
  by_cases e : x.2 = b
  · have : (x.2 == b) = true := beq_iff_eq.2 e
    rw [this, if_pos e]; rfl
  · have : (x.2 == b) = false := beq_eq_false_iff_ne.2 e
    rw [this, if_neg e]
def nmR : Option Nat → Nat × Nat
  | some r => (r, 1)
  | none => (0, 0)
/-- the character of what stands behind a backslash, and its bytes: (0, 0): there is none -/
def escOf : List UInt8 → Nat × Nat
  | [] => (0, 0)
  | c :: t => if c.toNat = 47 then (47, 1) else if c.toNat = 120 then numOf (c :: t) 2 else if c.toNat = 117 then numOf (c :: t) 4 else if c.toNat = 85 then numOf (c :: t) 8 else nmR (charFrom 0 c.toNat)

def pairR (p : Nat × Nat) : Ending := .returned (.tuple #[.int .i32 p.1, .int .i64 p.2])

theorem ba_zero (s : ByteArray) (h : s.size = 0) : s = ⟨#[]⟩ := by
  cases s with
  | mk d => have hd : d.size = 0 := h
            rw [Array.size_eq_zero_iff] at hd; rw [hd]
end Go.Proofs.YtbimjdlkffbncaaDoor
