/-
  Walks of scalar.Single and Unsingle.
-/
import Derived.Test.YtbimjdlkffbncaaDoorWc
import Derived.Test.YtbimjdlkffbncaaDoorMd
namespace Go.Proofs.YtbimjdlkffbncaaDoor
open Go.RowKit

/-- a string of bytes -/
def str (l : List UInt8) : ByteArray := ⟨l.toArray⟩
theorem str_data (l : List UInt8) : (str l).data.toList = l := rfl
theorem str_size (l : List UInt8) : (str l).size = l.length := by show l.toArray.size = _; simp
theorem str_eq (s : ByteArray) : str s.data.toList = s := by cases s; simp [str]
theorem str_toList (l : List UInt8) : (str l).toList = l := by rw [Lib.toList_data, str_data]
theorem str_inj {a b : ByteArray} (h : a.data.toList = b.data.toList) : a = b := by rw [← str_eq a, ← str_eq b, h]
theorem app_data (a b : ByteArray) : (a ++ b).data.toList = a.data.toList ++ b.data.toList := by
  rw [ByteArray.data_append]; simp
theorem str_app (a b : List UInt8) : str a ++ str b = str (a ++ b) := str_inj (by rw [app_data]; simp [str_data])

/-- what a call that answers a text, or ErrQuote, returns -/
def txtR (o : Option (List UInt8)) : Ending := .returned (.tuple #[.string (str (o.getD [])), .int .i64 (if o.isSome then 0 else 10)])
theorem txtR_some (l : List UInt8) (s : ByteArray) (h : s.data.toList = l) : Ending.returned (.tuple #[.string s, .int .i64 0]) = txtR (some l) := by
  subst h; unfold txtR; simp only [Option.getD_some, str_eq, Option.isSome_some, if_true]

/-- Single, by its bytes -/
def singleOf (l : List UInt8) : Option (List UInt8) := if oneLineB l = true then some (Sc.sq l) else none

/-- Unsingle, by its bytes -/
def unsingleOf (l : List UInt8) : Option (List UInt8) :=
  if l.length < 2 then none else
    if singleOf (Sc.undbl ((l.drop 1).take (l.length - 2))) = some l then some (Sc.undbl ((l.drop 1).take (l.length - 2))) else none

end Go.Proofs.YtbimjdlkffbncaaDoor
