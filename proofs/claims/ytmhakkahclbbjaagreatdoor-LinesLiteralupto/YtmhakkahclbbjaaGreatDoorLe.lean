/-
  Plain mathematics, no program in it: the pieces of a text (lines), their indents, marks and texts.
-/
import Derived.Test.YtmhakkahclbbjaaGreatDoorLa
import Derived.Test.YtmhakkahclbbjaaGreatDoorMc
namespace Go.Proofs.YtmhakkahclbbjaaGreatDoor
namespace Lx
def blank (l : List UInt8) : Bool := blanks l == l.length
def isMark (p sign : List UInt8) : Bool := Lib.hasPrefix p sign && (blank (Lib.trimPrefix p sign) || (isB ((Lib.trimPrefix p sign).getD 0 0) 32 && isB ((Lib.trimPrefix p sign).getD (blanks (Lib.trimPrefix p sign)) 0) 35))
def markOf (p : List UInt8) : Nat := if isMark p [45, 45, 45] then 1 else if isMark p [46, 46, 46] then 2 else 0
/-- how many pieces stand below a line of that indent -/
def textSize (ind : Nat) : List (List UInt8) → Nat
  | [] => 0
  | p :: t => if !blank p && decide (blanks p ≤ ind) then 0 else textSize ind t + 1
/-- how many pieces there are up to the last one that is not blank -/
def tailGo (ps : List (List UInt8)) : Nat → Nat
  | 0 => 0
  | n + 1 => if blank (ps.getD n []) then tailGo ps n else n + 1
def withoutTail (ps : List (List UInt8)) : Nat := tailGo ps ps.length
/-- the first piece that is not blank -/
def firstFrom : List (List UInt8) → Nat → Option Nat
  | [], _ => none
  | p :: t, k => if !blank p then some k else firstFrom t (k + 1)
def firstIndent (ps : List (List UInt8)) : Nat := match firstFrom ps 0 with
  | some k => blanks (ps.getD k [])
  | none => 0
/-- is a piece of characters that may be? -/
def right (p : List UInt8) : Bool := Lib.validD p && (Sc.rns p).all fun r => Sc.mayB r
/-- the text of pieces -/
def textGo (off : Nat) : List (List UInt8) → Except Nat (List UInt8)
  | [] => .ok []
  | p :: t =>
    if !right p then .error 5
    else if blank p then (match textGo off t with
      | .ok x => .ok (10 :: x)
      | .error e => .error e)
    else if blanks p < off then .error 9
    else (match textGo off t with
      | .ok x => .ok (p.drop off ++ 10 :: x)
      | .error e => .error e)
def textOf (ps : List (List UInt8)) : Except Nat (List UInt8) := textGo (firstIndent (ps.take (withoutTail ps))) (ps.take (withoutTail ps))

theorem blanks_trim (l : List UInt8) : (Lib.trimLeftB l 32).length + blanks l = l.length := by
  unfold Lib.trimLeftB
  induction l with
  | nil => rfl
  | cons b t ih =>
    unfold blanks
    by_cases hb : b = 32
    · subst hb
      have e : isB 32 32 = true := rfl
      rw [e, if_pos rfl, List.dropWhile_cons_of_pos (by simp)]
      simp only [List.length_cons]; omega
    · have e : isB b 32 = false := by
        unfold isB
        exact beq_eq_false_iff_ne.2 fun h => hb (Sc.u8_eq 32 (by omega))
      rw [e, List.dropWhile_cons_of_neg (by simpa using hb)]
      simp
theorem textSize_le (ind : Nat) (ps : List (List UInt8)) : textSize ind ps ≤ ps.length := by
  induction ps with
  | nil => exact Nat.le_refl _
  | cons p t ih =>
    unfold textSize
    split
    · simp
    · simp only [List.length_cons]; omega
theorem tailGo_le (ps : List (List UInt8)) : ∀ n, tailGo ps n ≤ n
  | 0 => Nat.le_refl _
  | n + 1 => by
    unfold tailGo
    split
    · have := tailGo_le ps n; omega
    · exact Nat.le_refl _
theorem firstFrom_lt (ps : List (List UInt8)) : ∀ k n, firstFrom ps k = some n → k ≤ n ∧ n < k + ps.length := by
  induction ps with
  | nil => intro k n h; cases h
  | cons p t ih =>
    intro k n h
    unfold firstFrom at h
    split at h
    · cases h; simp
    · have := ih _ _ h; simp only [List.length_cons]; omega
end Lx
end Go.Proofs.YtmhakkahclbbjaaGreatDoor
