/-
  The plain functions of compose: the tag of an event's node.
-/
import Derived.Test.YtbimjdlkffbncaaDoorXe
namespace Go.Proofs.YtbimjdlkffbncaaDoor
namespace Co
def eForm : Int := 5
def eAnchor : Int := 11
def eTwice : Int := 12
def eTag : Int := 14
def eLimit : Int := 16
/-- of a list, or a map: the core's tag, or one's own -/
def groupTag (c t : List UInt8) : Except Int (List UInt8) := if t = [] ∨ t = c then .ok c else if Tg.right t = true ∧ Tg.core t = false then .ok t else .error eTag
def scalarTag (t s : List UInt8) (p : Bool) : Except Int (List UInt8) :=
  if t = [] then (if p = true then .ok (Tg.resolve s).w else .ok [115, 116, 114]) else if Tg.fits t s = true then .ok t else .error eTag
/-- the tag of an event's node (6 a Scalar, 2 a Seq, 4 a Map) -/
def tagOf (x : Ev.E) : Except Int (List UInt8) :=
  if x.kind = 6 then scalarTag x.tag x.text x.plain else if x.kind = 2 then groupTag Ar.seqW x.tag else if x.kind = 4 then groupTag Ar.mapW x.tag else .error eForm
end Co
end Go.Proofs.YtbimjdlkffbncaaDoor
