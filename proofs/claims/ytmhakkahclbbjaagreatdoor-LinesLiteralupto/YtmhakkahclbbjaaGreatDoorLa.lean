/-
  Plain mathematics, no program in it: the words of a line (lex), piece by piece.
-/
import Derived.Test.YtmhakkahclbbjaaGreatDoorMb
import Derived.Lib.TrimByte
import Derived.Lib.Strings
import Derived.Lib.IndexBytes
namespace Go.Proofs.YtmhakkahclbbjaaGreatDoor
namespace Lx
/-- is a byte that number? -/
def isB (b : UInt8) (n : Int) : Bool := (b.toNat : Int) == n
/-- how many blanks are ahead -/
def blanks : List UInt8 → Nat
  | [] => 0
  | b :: t => if isB b 32 then blanks t + 1 else 0
/-- the place of the first byte from k on that is no blank -/
def past (l : List UInt8) (k : Nat) : Nat := k + blanks (l.drop k)
def remarkAt (l : List UInt8) (k : Nat) : Bool := isB (l.getD k 0) 35 && (k == 0 || isB (l.getD (k - 1) 0) 32)
def over (l : List UInt8) (k : Nat) : Bool := k == l.length || remarkAt l k
def flow (b : UInt8) : Bool := isB b 44 || isB b 91 || isB b 93 || isB b 123 || isB b 125
def colonAt (l : List UInt8) (k : Nat) : Bool := isB (l.getD k 0) 58 && (k + 1 == l.length || isB (l.getD (k + 1) 0) 32 || flow (l.getD (k + 1) 0))
def dash (l : List UInt8) : Bool := l == [45] || Lib.hasPrefix l [45, 32]
def bar (l : List UInt8) : Bool := isB (l.getD 0 0) 124 && over l (past l 1)
/-- the kind of the word that begins here -/
def kindOf (l : List UInt8) (d : Bool) : Nat :=
  let b := l.getD 0 0
  if isB b 34 then 2 else if isB b 39 then 1 else if isB b 91 then 6 else if isB b 93 then 7 else if isB b 123 then 8 else if isB b 125 then 9 else if isB b 44 then 10
  else if isB b 38 then 3 else if isB b 42 then 4 else if isB b 33 then 5 else if d && dash l then 12 else if colonAt l 0 then 11 else if bar l then 13 else 0
/-- the first place from k on, of so many, at which it ends -/
def upTo (f : Nat → Bool) (n : Nat) : Nat → Nat → Nat
  | 0, _ => n
  | m + 1, k => if k < n then (if f k then k else upTo f n m (k + 1)) else n
def endW (l : List UInt8) (k : Nat) : Bool := isB (l.getD k 0) 32 || flow (l.getD k 0) || colonAt l k
def endP (l : List UInt8) (k : Nat) : Bool := flow (l.getD k 0) || colonAt l k || remarkAt l k

theorem blanks_le (l : List UInt8) : blanks l ≤ l.length := by
  induction l with
  | nil => exact Nat.le_refl _
  | cons b t ih =>
    unfold blanks
    split
    · simp only [List.length_cons]; omega
    · simp
theorem blanks_drop (s : ByteArray) (k : Nat) (h : k < s.size) : blanks (s.data.toList.drop k) = if isB s[k] 32 then blanks (s.data.toList.drop (k + 1)) + 1 else 0 := by
  rw [Sc.drop_cons s k h]; rfl
theorem past_step (s : ByteArray) (k : Nat) (h : k < s.size) : past s.data.toList k = if isB s[k] 32 then past s.data.toList (k + 1) else k := by
  unfold past
  rw [blanks_drop s k h]
  split
  · omega
  · rfl
theorem past_end (s : ByteArray) (k : Nat) (h : s.size ≤ k) : past s.data.toList k = k := by
  unfold past
  rw [Sc.drop_nil s k h]; rfl
theorem past_ge (l : List UInt8) (k : Nat) : k ≤ past l k := by unfold past; omega
theorem past_le (l : List UInt8) (k : Nat) (h : k ≤ l.length) : past l k ≤ l.length := by
  unfold past
  have := blanks_le (l.drop k)
  rw [List.length_drop] at this; omega
theorem blanks_not (l : List UInt8) (h : blanks l < l.length) : isB (l.getD (blanks l) 0) 32 = false := by
  induction l with
  | nil => simp at h
  | cons b t ih =>
    unfold blanks at h ⊢
    by_cases hb : isB b 32 = true
    · rw [if_pos hb] at h ⊢
      simp only [List.length_cons] at h
      simpa using ih (by omega)
    · rw [if_neg hb]
      simpa using hb
theorem past_not (l : List UInt8) (k : Nat) (h : past l k < l.length) : isB (l.getD (past l k) 0) 32 = false := by
  unfold past at h ⊢
  have := blanks_not (l.drop k) (by rw [List.length_drop]; omega)
  rw [List.getD_eq_getElem?_getD, List.getElem?_drop] at this
  rw [List.getD_eq_getElem?_getD]; exact this
theorem getD_at (s : ByteArray) (k : Nat) (h : k < s.size) : s.data.toList.getD k 0 = s[k] := by
  have := Lib.data_getElem? s k h
  rw [List.getD_eq_getElem?_getD, this]; rfl
theorem upTo_step (f : Nat → Bool) (n m k : Nat) (h : k < n) : upTo f n (m + 1) k = if f k then k else upTo f n m (k + 1) := by
  rw [upTo, if_pos h]
theorem upTo_end (f : Nat → Bool) (n m k : Nat) (h : n ≤ k) : upTo f n m k = n := by
  cases m with
  | zero => rfl
  | succ m => rw [upTo, if_neg (by omega)]
theorem upTo_le (f : Nat → Bool) (n : Nat) : ∀ m k, upTo f n m k ≤ n
  | 0, _ => Nat.le_refl _
  | m + 1, k => by
    unfold upTo
    split
    · split
      · omega
      · exact upTo_le f n m (k + 1)
    · exact Nat.le_refl _
theorem upTo_ge (f : Nat → Bool) (n : Nat) : ∀ m k, k ≤ n → k ≤ upTo f n m k
  | 0, _, h => h
  | m + 1, k, h => by
    unfold upTo
    split
    · split
      · exact Nat.le_refl _
      · have := upTo_ge f n m (k + 1) (by omega); omega
    · exact h
end Lx
end Go.Proofs.YtmhakkahclbbjaaGreatDoor
