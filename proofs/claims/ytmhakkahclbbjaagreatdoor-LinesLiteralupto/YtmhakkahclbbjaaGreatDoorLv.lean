/-
  The laws' 'alive': answers that the document fixes.
-/
import Derived.Test.YtmhakkahclbbjaaGreatDoorLu
import Derived.Deep.DeepFit
namespace Go.Proofs.YtmhakkahclbbjaaGreatDoor
open Go.RowKit

set_option maxHeartbeats 2000000 in
set_option maxRecDepth 100000 in
theorem alive_any (w : World) (hE : Env w) :
    Calls Tryz.prog 8 #[] w fun e w' => e = .returned (.bool true) ∧ Below w.heap.size w w' := by
  have c1 := Lib.hid (readA w hE)
  have c2 := Lib.hid (fun w hE => readB w hE)
  have c3 := Lib.hid (fun w => indent_any ⟨#[32, 32, 97]⟩ w (by decide))
  have e3 : Lx.blanks (⟨#[32, 32, 97]⟩ : ByteArray).data.toList = 2 := rfl
  rw [e3] at c3
  have HE := Lib.hid hE
  clear e3 hE
  go_enter Tryz.func8, Tryz.ntmps8
  go_wp2_with (first
    | (go_at_call 10; go_fit c1.out; rintro e w1 ⟨⟨g, c, a, k, rfl, hc, hg, d2, d3, d4⟩, hb1⟩; have c2' := Lib.hid (c2.out _ (HE.out.below hb1)))
    | (go_at_call 10; go_fit c2'.out; rintro e w2 ⟨rfl, hb2⟩; have f2 := (hb2.cell (p := ⟨g, 2, none⟩) hg).trans d2; have f3 := (hb2.cell (p := ⟨g, 3, none⟩) hg).trans d3; have f4 := (hb2.cell (p := ⟨g, 4, none⟩) hg).trans d4; clear d2 d3 d4)
    | (go_at_call 18; refine (c3.out _).mono ?_; rintro e w' ⟨rfl, rfl⟩))
  go_ret
  exact ⟨rfl, bthen hb1 hb2⟩
end Go.Proofs.YtmhakkahclbbjaaGreatDoor
