/-
  The walk of event.Right.
-/
import Derived.Test.YtbimjdlkffbncaaDoorUe
namespace Go.Proofs.YtbimjdlkffbncaaDoor
open Go.Proofs.YtbimjdlkffbncaaDoor.Ev
namespace Evn
namespace Ev
/-- may there be such a row of events? -/
def right (es : List E) : Bool := decide (dmax (kinds es) ≤ 40) && (es.all filled && nested (kinds es))
theorem all_drop (es : List E) (j : Nat) (h : j < es.length) : (es.drop j).all filled = (filled es[j] && (es.drop (j + 1)).all filled) := by
  rw [List.drop_eq_getElem_cons h, List.all_cons]
end Ev
open Go.RowKit

set_option maxHeartbeats 4000000 in
set_option maxRecDepth 100000 in
theorem evRight_any (v : Value) (es : List Ev.E) (w : World) (h : RdE w w.heap.size v es) (hl : es.length ≤ 1000000) (hs : ∀ x ∈ es, Ev.Small x) (hE : Env w) :
    Calls Tryd.prog 26 #[v] w fun e w' => e = .returned (.bool (Ev.right es)) ∧ Below w.heap.size w w' := by
  have HR := Lib.hid h
  obtain ⟨a, c, rfl, hc, hcl⟩ := h
  have HC := Lib.hid hcl
  have HS := Lib.hid hs
  have HE := Lib.hid hE
  have cD := Lib.hid (depth_any _ es w HR.out hl)
  clear hs hE hcl
  have hd0 := Ev.dmax_nonneg (Ev.kinds es)
  have hd1 := Ev.dmax_le (Ev.kinds es)
  rw [Ev.kinds_len] at hd1
  by_cases hd : Ev.dmax (Ev.kinds es) ≤ 40
  · have hA : Ev.right es = (es.all Ev.filled && Ev.nested (Ev.kinds es)) := by unfold Ev.right; rw [decide_eq_true hd, Bool.true_and]
    rw [hA]
    clear hA
    have dd : decide ((40 : Int) < Ev.dmax (Ev.kinds es)) = false := decide_eq_false (by omega)
    generalize Ev.dmax (Ev.kinds es) = D at *
    obtain ⟨ANS, hANS⟩ : ∃ ANS, (es.all Ev.filled && Ev.nested (Ev.kinds es)) = ANS := ⟨_, rfl⟩
    rw [hANS]
    have HA : Hid (((es.drop 0).all Ev.filled && Ev.nested (Ev.kinds es)) = ANS) := by show _ = _; rw [List.drop_zero, hANS]
    clear hANS
    go_enter Tryd.func26, Tryd.ntmps26
    go_wp2_with (go_at_call 35; refine cD.out.mono ?_; rintro e w1 ⟨rfl, hb1⟩)
    go_loopw [10] (fun i wr => ∃ (j : Nat), j ≤ es.length ∧ i = .int .i64 j ∧ Hid (((es.drop j).all Ev.filled && Ev.nested (Ev.kinds es)) = ANS) ∧ Below w.heap.size w wr) (fun i _ => es.length - (intOf i).toNat)
    case atStart => exact ⟨0, by omega, rfl, HA, hb1⟩
    case round =>
      obtain ⟨j, hj, rfl, HK, hbw⟩ := hrel
      clear HA
      have hBr := hbw.size
      by_cases hlt : j < es.length
      · obtain ⟨g, o, rfl, hg, hcl⟩ := HC.out (by omega)
        obtain ⟨c0, c1, c2, c3, c4⟩ := (hcl j hlt).below hbw hg
        have hK := HK.out
        rw [Ev.all_drop es j hlt] at hK
        have cF := fun w hE => isFilled_any es[j] w (HS.out _ (List.getElem_mem hlt)) hE
        clear hcl HK
        cases hf : Ev.filled es[j]
        · rw [hf] at hK cF
          obtain rfl : ANS = false := by rw [← hK]; rfl
          have CF := Lib.hid cF
          clear hK hf cF
          generalize es[j] = x at *
          go_wp2_with (go_at_call 55; refine (CF.out _ ((HE.out.below hbw).below (bnew wr _))).mono ?_; rintro e w2 ⟨rfl, hb2⟩)
          go_ret
          exact ⟨rfl, bthen (hbw.alloc hBr _) hb2⟩
        · rw [hf] at hK cF
          rw [Bool.true_and] at hK
          have HK : Hid (((es.drop (j + 1)).all Ev.filled && Ev.nested (Ev.kinds es)) = ANS) := hK
          have CF := Lib.hid cF
          clear hK hf cF
          generalize es[j] = x at *
          go_wp2_with (go_at_call 55; refine (CF.out _ ((HE.out.below hbw).below (bnew wr _))).mono ?_; rintro e w2 ⟨rfl, hb2⟩)
          go_roundw
          case rel => exact ⟨j + 1, by omega, by go_num, HK, bthen (hbw.alloc hBr _) hb2⟩
          case measure => simp [intOf]; omega
      · have hje : j = es.length := by omega
        subst hje
        have hK := HK.out
        rw [List.drop_of_length_le (Nat.le_refl _)] at hK
        have HK2 : Hid (Ev.nested (Ev.kinds es) = ANS) := hK
        have cN := Lib.hid (isNested_any _ es wr ((HR.out.below hbw).mono hBr) hl)
        clear hK HK
        go_wp2_with (go_at_call 56; refine cN.out.mono ?_; rintro e w2 ⟨rfl, hb2⟩)
        go_ret
        exact ⟨ret_bool HK2.out, bthen hbw hb2⟩
  · have hA : Ev.right es = false := by unfold Ev.right; rw [decide_eq_false hd, Bool.false_and]
    rw [hA]
    clear hA
    have dd : (40 : Int) < Ev.dmax (Ev.kinds es) := by omega
    generalize Ev.dmax (Ev.kinds es) = D at *
    go_enter Tryd.func26, Tryd.ntmps26
    go_wp2_with (go_at_call 35; refine cD.out.mono ?_; rintro e w1 ⟨rfl, hb1⟩)
    go_ret
    exact ⟨rfl, hb1⟩
end Evn
end Go.Proofs.YtbimjdlkffbncaaDoor
