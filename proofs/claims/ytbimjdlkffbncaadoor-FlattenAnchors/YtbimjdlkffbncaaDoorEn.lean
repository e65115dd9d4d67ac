/-
  What the package-level variables hold: the word 'Env', carried from world to world.
-/
import Derived.Test.YtbimjdlkffbncaaDoorWb
import Derived.Test.YtbimjdlkffbncaaDoorMc
import Derived.Test.YtbimjdlkffbncaaDoorSv
import Derived.WalkKit
import Derived.Lib.OthersKept
import Derived.Lib.AppendIntMem
namespace Go.Proofs.YtbimjdlkffbncaaDoor
open Go.RowKit

/-- the table 'named', a character and a letter each -/
def namedTab : List (Nat × Nat) := [(34, 34), (92, 92), (0, 48), (7, 97), (8, 98), (9, 116), (10, 110), (11, 118), (12, 102), (13, 114), (27, 101), (133, 78), (160, 95), (8232, 76), (8233, 80)]
def namedCells : Array Value := #[.int .i32 34, .int .u8 34, .int .i32 92, .int .u8 92, .int .i32 0, .int .u8 48, .int .i32 7, .int .u8 97, .int .i32 8, .int .u8 98, .int .i32 9, .int .u8 116, .int .i32 10, .int .u8 110, .int .i32 11, .int .u8 118, .int .i32 12, .int .u8 102, .int .i32 13, .int .u8 114, .int .i32 27, .int .u8 101, .int .i32 133, .int .u8 78, .int .i32 160, .int .u8 95, .int .i32 8232, .int .u8 76, .int .i32 8233, .int .u8 80]

structure Env (w : World) : Prop where
  tabs : Lib.Utf8Tabs 0 1 w
  maxl : ∃ m : Int, w.cell? ⟨2, 0, none⟩ = some (.int .i64 m)
  pow : Lib.TabIs Tryd.prog w "internal/strconv.uint64pow10" .u64 Lib.pow10Tab

theorem lt_of_cell {w : World} {b o : Nat} {v : Value} (h : w.cell? ⟨b, o, none⟩ = some v) : b < w.heap.size := by
  rcases Nat.lt_or_ge b w.heap.size with hlt | hge
  · exact hlt
  · exfalso
    have : w.heap[b]? = none := Array.getElem?_eq_none hge
    simp [World.cell?, this] at h

theorem Env.below {w w' : World} (h : Env w) (hb : Below w.heap.size w w') : Env w' where
  tabs := Utf8Tabs_below h.tabs hb
  maxl := by
    obtain ⟨m, hm⟩ := h.maxl
    exact ⟨m, (hb.cell (p := ⟨2, 0, none⟩) (lt_of_cell hm)).trans hm⟩
  pow := Lib.tabBelow_of_tabIs h.pow w' hb
theorem powG : Tryd.prog.globalNamed "internal/strconv.uint64pow10" = some 3 := by kernel_rfl

/-- utf8.ValidString by its contract -/
theorem valid_any (s : ByteArray) (w : World) (hs : s.size ≤ 1000000) (hE : Env w) :
    Calls Tryd.prog 86 #[.string s] w fun e w' => e = .returned (.bool (Lib.validD s.data.toList)) ∧ Below w.heap.size w w' :=
  Tryd.utf8_ValidString s w (by omega) hE.tabs
end Go.Proofs.YtbimjdlkffbncaaDoor
