/-
  The walk of told, and of what it defers.
-/
import Derived.Test.YtjcfmghijfnehaaGreatDoorJv
import Derived.Defers
import Derived.Recover
import Derived.Laws.Pointers
namespace Go.Proofs.YtjcfmghijfnehaaGreatDoor
open Go.RowKit
theorem assert_same {P : Program} {t : TypeId} {d : TypeDesc} (hu : P.underlying t = some d) (hd : ∀ ms, d ≠ .interface ms) (v : Value) (xT : TypeId) (w : World) : (Instr.typeAssert (.iface t v) xT t true).run P w = .ok (.tuple #[v, .bool true]) w := by
  cases d <;> first | exact absurd rfl (hd _) | simp [Instr.typeAssert, run_underlying hu]
theorem told_idle (p q : Addr) (w : World) :
    CallsD Tryz.prog 66 #[.pointer (some p), .pointer (some q)] .returning w fun e u' w' => e = .returned (.tuple #[]) ∧ u' = .returning ∧ w' = w := by
  refine callsD_of_wpS Tryz.func66 rfl fun c₀ cs hu => ?_
  apply wpS_seq
  apply wpS_region
  simp [wpOpsS, go_sem, recoverD, hu, Tryz.ntmps66, Exit.thenS]
  refine wpS_of_wp ?_
  go_wp2
  cases c₀
  simp_all [bodyPostS, results, Tryz.results66]
set_option maxHeartbeats 3000000 in
set_option maxRecDepth 20000 in
theorem told_panicking (p q : Addr) (n : Nat) (lv ev : Value) (older : List PanicEntry) (w : World) (hl : w.cell? p = some lv) (hlz : w.frozen? p = false) (he : w.cell? q = some ev) (hez : w.frozen? q = false) (hpq : p.block ≠ q.block) :
    CallsD Tryz.prog 66 #[.pointer (some p), .pointer (some q)] (.panicking ({ v := .iface 113 (.int .i64 n), recovered := false } :: older)) w fun e u' w' =>
      e = .returned (.tuple #[]) ∧ u' = .panicking ({ v := .iface 113 (.int .i64 n), recovered := true } :: older) ∧ w' = (w.setCell p (.slice none 0 0)).setCell q (.int .i64 n) := by
  refine callsD_of_wpS Tryz.func66 rfl fun c₀ cs hu => ?_
  apply wpS_seq
  apply wpS_region
  simp [wpOpsS, go_sem, recoverD, hu, Tryz.ntmps66, Exit.thenS]
  refine wpS_of_wp ?_
  have hta : ∀ w : World, (Instr.typeAssert (.iface 113 (.int .i64 n)) 20 113 true).run Tryz.prog w = .ok (.tuple #[.int .i64 n, .bool true]) w := fun w => assert_same Tryz.underlying113 (by intro ms h; cases h) _ _ w
  have he2 : (w.setCell p (.slice none 0 0)).cell? q = some ev := by rw [World.cell?_setCell_other (h := fun h0 : p = q => hpq (congrArg Addr.block h0))]; exact he
  go_wp2
  cases c₀
  simp_all [bodyPostS, results, Tryz.results66]
end Go.Proofs.YtjcfmghijfnehaaGreatDoor
