/-
  Walk of strconv's prescale.
-/
import Derived.Test.YtegkdlimkgfheaaDoorFb
namespace Go.Proofs.YtegkdlimkgfheaaDoor
open Go.RowKit

theorem lt_of_cell {w : World} {b o : Nat} {v : Value} (h : w.cell? ⟨b, o, none⟩ = some v) : b < w.heap.size := by
  rcases Nat.lt_or_ge b w.heap.size with hlt | hge
  · exact hlt
  · exfalso
    have : w.heap[b]? = none := Array.getElem?_eq_none hge
    simp [World.cell?, this] at h

/-- the table of powers holds numbers -/
def P10 (w : World) : Prop := ∀ i : Nat, i < 696 → ∃ hi lo : Int, U64 hi ∧ U64 lo ∧ w.cell? ⟨6, i * 2, none⟩ = some (.int .u64 hi) ∧ w.cell? ⟨6, i * 2 + 1, none⟩ = some (.int .u64 lo)

def scO (a b c : Int) : Obj := .cells #[.int .u64 a, .int .u64 b, .int .i64 c] 95

set_option maxHeartbeats 2000000 in
set_option maxRecDepth 100000 in
theorem prescale_any (w : World) (e P lp : Int) (i : Nat) (hP : P = (i : Int) - 348) (hi : i < 696) (he0 : -5000 ≤ e) (he1 : e ≤ 5000) (hl0 : -5000 ≤ lp) (hl1 : lp ≤ 5000) (hT : P10 w) :
    Calls Tryd.prog 77 #[.pointer (some ⟨w.heap.size, 0, none⟩), .int .i64 e, .int .i64 P, .int .i64 lp] (w.alloc (scO 0 0 0)) fun r w' => r = .returned (.tuple #[]) ∧ ∃ h l s : Int, U64 h ∧ U64 l ∧
      w'.cell? ⟨w.heap.size, 0, none⟩ = some (.int .u64 h) ∧ w'.cell? ⟨w.heap.size, 1, none⟩ = some (.int .u64 l) ∧ w'.cell? ⟨w.heap.size, 2, none⟩ = some (.int .i64 s) ∧ Below w.heap.size w w' := by
  subst hP
  obtain ⟨h, l, hh, hl, t0, t1⟩ := hT i hi
  have h6 := lt_of_cell t0
  clear hT
  unfold scO
  go_enter Tryd.func77, Tryd.ntmps77
  go_wp2
  go_end0
  refine ⟨rfl, h, l, -(e + lp + 3), hh, hl, ?_, ?_, ?_, ?_⟩
  · simp
  · simp
  · simp
  · exact (Below.refl _ w).alloc (Nat.le_refl _) _
end Go.Proofs.YtegkdlimkgfheaaDoor
