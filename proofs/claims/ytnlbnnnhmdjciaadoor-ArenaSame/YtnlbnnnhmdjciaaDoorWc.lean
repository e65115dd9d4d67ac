/-
  Walks of scalar.oneLine, Single, Unsingle.
-/
import Derived.Test.YtnlbnnnhmdjciaaDoorEn
namespace Go.Proofs.YtnlbnnnhmdjciaaDoor
open Go.RowKit

/-- may a character stand in a text of one line? -/
def lineR (r : Nat) : Bool := Sc.mayB r && !decide (r = 10) && !decide (r = 13)
def lineB (rs : List Nat) : Bool := rs.all lineR
def oneLineB (l : List UInt8) : Bool := Lib.validD l && lineB (Sc.rns l)

theorem rns_drop (s : ByteArray) (pos : Nat) (h : pos < s.size) : Sc.rns (s.data.toList.drop pos) = (Utf8.decode s pos).1 :: Sc.rns (s.data.toList.drop (pos + (Utf8.decode s pos).2)) := by
  have hne : s.data.toList.drop pos ≠ [] := by
    intro e
    have := congrArg List.length e
    rw [List.length_drop, ← Lib.size_eq] at this
    simp at this; omega
  rw [Sc.rns_step _ hne, Lib.decodeL_drop, List.drop_drop]
theorem dec_pos (s : ByteArray) (pos : Nat) : 1 ≤ (Utf8.decode s pos).2 := by
  rw [← Lib.decodeL_drop]; exact Lib.decodeL_width _

end Go.Proofs.YtnlbnnnhmdjciaaDoor
