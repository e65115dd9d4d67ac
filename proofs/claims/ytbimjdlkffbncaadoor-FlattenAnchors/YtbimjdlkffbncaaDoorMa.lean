/-
  Plain mathematics, no program in it: where a quoted text ends; which characters may be; hexadecimal digits.
-/
namespace Go.Proofs.YtbimjdlkffbncaaDoor
namespace Sc

/-- which characters may be in a text -/
def mayB (r : Int) : Bool :=
  decide (r = 9) || decide (r = 10) || decide (r = 13) || decide (r = 133) || (decide (32 ≤ r) && decide (r ≤ 126)) ||
  (decide (160 ≤ r) && decide (r ≤ 65533) && (decide (r < 55296) || decide (57343 < r)) && !decide (r = 65279)) || (decide (65536 ≤ r) && decide (r ≤ 1114111))

/-- behind a double quote: where the text ends -/
def endD : List UInt8 → Nat → Option Nat
  | [], _ => none
  | [b], k => if b = 34 then some (k + 1) else none
  | b :: c :: t, k => if b = 92 then endD t (k + 2) else if b = 34 then some (k + 1) else endD (c :: t) (k + 1)
/-- behind a single quote: where the text ends -/
def endS : List UInt8 → Nat → Option Nat
  | [], _ => none
  | [b], k => if b = 39 then some (k + 1) else none
  | b :: c :: t, k => if b = 39 then (if c = 39 then endS t (k + 2) else some (k + 1)) else endS (c :: t) (k + 1)
def endOf : List UInt8 → Option Nat
  | [] => none
  | q :: t => if q = 34 then endD t 1 else if q = 39 then endS t 1 else none

/-- the value of a hexadecimal digit -/
def digB (b : UInt8) : Option Nat :=
  if 48 ≤ b.toNat ∧ b.toNat ≤ 57 then some (b.toNat - 48) else if 97 ≤ b.toNat ∧ b.toNat ≤ 102 then some (b.toNat - 87) else if 65 ≤ b.toNat ∧ b.toNat ≤ 70 then some (b.toNat - 55) else none
end Sc
end Go.Proofs.YtbimjdlkffbncaaDoor
