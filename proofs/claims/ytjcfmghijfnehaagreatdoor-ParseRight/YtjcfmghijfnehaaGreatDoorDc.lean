/-
  The walk of ParseRight.
-/
import Derived.Test.YtjcfmghijfnehaaGreatDoorDb
import Derived.Test.YtjcfmghijfnehaaGreatDoorEf
namespace Go.Proofs.YtjcfmghijfnehaaGreatDoor
open Go.RowKit
set_option maxHeartbeats 4000000 in
set_option maxRecDepth 100000 in
theorem right_walk (s : ByteArray) (w : World) (hs : s.size ≤ 9223372036854775807) (hE : Env w) :
    Calls Tryz.prog 4 #[.string s] w fun e w' => e = .returned (.bool true) ∧ Below w.heap.size w w' := by
  have cA := Lib.hid (palive_any w hE)
  by_cases hbig : 2000 < s.size
  · have b1 : decide ((2000 : Int) < (s.size : Int)) = true := decide_eq_true (by omega)
    clear hE
    go_enter Tryz.func4, Tryz.ntmps4
    go_wp2_with (go_at_call 10; refine cA.out.mono ?_; rintro e w1 ⟨rfl, hb1⟩)
    go_ret
    exact ⟨rfl, hb1⟩
  · have b1 : decide ((2000 : Int) < (s.size : Int)) = false := decide_eq_false (by omega)
    have r1 := fun w hE => textP_any s w (by omega) hE
    have HE := Lib.hid hE
    clear hE
    cases hx : Px.text s.data.toList with
    | error n =>
      rw [hx] at r1
      have hn := Px.text_er _ _ hx
      have bn : ((n : Int) != 0) = true := bne_iff_ne.2 (by omega)
      have R1 := Lib.hid r1
      clear r1 hx
      go_enter Tryz.func4, Tryz.ntmps4
      go_wp2_with (first
        | (go_at_call 10; refine cA.out.mono ?_; rintro e w1 ⟨rfl, hb1⟩)
        | (go_at_call 11; refine (R1.out w1 (HE.out.below hb1)).mono ?_; rintro e w2 ⟨hq, hb2⟩; obtain rfl := textR_err hq; clear hq))
      go_ret
      exact ⟨rfl, bthen hb1 hb2⟩
    | ok es =>
      rw [hx] at r1
      have lx := Px.text_len _ _ hx
      obtain ⟨g1, g2, g3, g4⟩ := Px.text_right _ _ (by rw [ba_len]; omega) hx
      rw [ba_len] at lx
      have hr : Ev.right es = true := by unfold Ev.right; rw [decide_eq_true g3, g1, g2]; rfl
      have cR := fun v W (h : RdE W W.heap.size v es) hE => evRight_any v es W h (by omega) g4 hE
      rw [hr] at cR
      have R1 := Lib.hid r1
      have CR := Lib.hid cR
      clear r1 hx g1 g2 g3 g4 hr cR
      go_enter Tryz.func4, Tryz.ntmps4
      go_wp2_with (first
        | (go_at_call 10; refine cA.out.mono ?_; rintro e w1 ⟨rfl, hb1⟩)
        | (go_at_call 11; refine (R1.out w1 (HE.out.below hb1)).mono ?_; rintro e w2 ⟨hq, hb2⟩; obtain ⟨va, vc, rfl, hv⟩ := textR_ok hq; have HV := Lib.hid hv; clear hv hq)
        | (go_at_call 18; refine (CR.out _ w2 (rowE_rd HV.out) (HE.out.below (bthen hb1 hb2))).mono ?_; rintro e w3 ⟨rfl, hb3⟩))
      go_ret
      exact ⟨rfl, bthen (bthen hb1 hb2) hb3⟩
end Go.Proofs.YtjcfmghijfnehaaGreatDoor
