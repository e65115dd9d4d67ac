/-
  Walks of scalar.End: where a quoted text ends.
-/
import Derived.Test.YtbimjdlkffbncaaDoorWa
import Derived.Test.YtbimjdlkffbncaaDoorMb
import Derived.Test.YtbimjdlkffbncaaDoorSa
import Derived.Lib.Strings
namespace Go.Proofs.YtbimjdlkffbncaaDoor
open Go.RowKit

theorem ba_isEmpty (s : ByteArray) (h : 0 < s.size) : s.toList.isEmpty = false := by
  rw [Lib.toList_data]
  cases hl : s.data.toList with
  | nil => have := Lib.size_eq s; rw [hl] at this; rw [List.length_nil] at this; omega
  | cons _ _ => rfl
theorem ba_notnil (s : ByteArray) (h : 0 < s.size) : ¬ s.toList = [] := by
  intro e; have := ba_isEmpty s h; rw [e] at this; simp at this
theorem ba_list (s : ByteArray) (h : 0 < s.size) : s.data.toList = s[0] :: s.data.toList.drop 1 := Sc.drop_cons s 0 h

/-- End's answer as Go gives it -/
def endR (o : Option Nat) : Ending := .returned (.tuple #[.int .i64 (o.getD 0 : Nat), .int .i64 (if o.isSome then 0 else 10)])

/-- behind a single quote, at a place: as HasPrefix tells it -/
theorem endS_at (s : ByteArray) (k : Nat) (h : k < s.size) :
    Sc.endS (s.data.toList.drop k) k = if Lib.hasPrefix (s.data.toList.drop k) [39, 39] = true then Sc.endS (s.data.toList.drop (k + 2)) (k + 2) else if (s[k].toNat : Int) = 39 then some (k + 1) else Sc.endS (s.data.toList.drop (k + 1)) (k + 1) := by
  have e2 : s.data.toList.drop (k + 2) = (s.data.toList.drop (k + 1)).drop 1 := by rw [List.drop_drop]
  rw [e2, Sc.drop_cons s k h]
  generalize s.data.toList.drop (k + 1) = t
  by_cases h2 : (s[k].toNat : Int) = 39
  · have e : s[k] = 39 := Sc.u8_eq 39 (by omega)
    rw [if_pos h2, e]
    cases t with
    | nil => simp [Lib.hasPrefix, Sc.endS]
    | cons c t =>
      by_cases hc : c = 39
      · subst hc; simp [Lib.hasPrefix, Sc.endS]
      · have hc' : ¬ (39 : UInt8) = c := fun e => hc e.symm
        simp [Lib.hasPrefix, Sc.endS, hc, hc']
  · have e : s[k] ≠ 39 := fun e => h2 (by rw [e]; rfl)
    have e' : ¬ (39 : UInt8) = s[k] := fun x => e x.symm
    rw [if_neg h2, Sc.endS_other _ _ _ e]
    simp [Lib.hasPrefix, e']

end Go.Proofs.YtbimjdlkffbncaaDoor
