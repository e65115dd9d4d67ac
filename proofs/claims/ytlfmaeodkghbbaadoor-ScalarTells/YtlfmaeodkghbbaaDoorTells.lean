/-
  Walk of the law ScalarTells.
-/
import Derived.Test.YtlfmaeodkghbbaaDoorMj
import Derived.Test.YtlfmaeodkghbbaaDoorOnce
namespace Go.Proofs.YtlfmaeodkghbbaaDoor
open Go.RowKit

set_option maxHeartbeats 2000000 in
set_option maxRecDepth 100000 in
theorem tells_walk (s : ByteArray) (w : World) (hs : s.size ≤ 9223372036854775807) (hE : Env w) :
    Calls Tryd.prog 3 #[.string s] w fun e w' => e = .returned (.bool true) ∧ Below w.heap.size w w' := by
  have cA := alive_any w hE
  have HE := Lib.hid hE
  clear hE
  by_cases hbig : 1000 < s.size
  · go_enter Tryd.func3, Tryd.ntmps3
    go_wp2_with (go_at_call 10; refine cA.mono ?_; rintro e w1 ⟨rfl, hb⟩)
    go_ret
    exact ⟨rfl, hb⟩
  · have C1 := Lib.hid (fun w1 hE1 => single_any s w1 (by omega) hE1)
    have C2 := Lib.hid (fun w1 => singleR_any s w1 (by omega))
    have C3 := Lib.hid (fun w1 hE1 => quote_any s w1 (by omega) hE1)
    have C4 := Lib.hid (fun w1 => quoteR_any s w1 (by omega))
    have C5 := Lib.hid (fun w1 hE1 => plain_any s w1 (by omega) hE1)
    have C6 := Lib.hid (fun w1 => plainD_any s w1 (by omega))
    rw [plain_same] at C6
    unfold txtR at C1 C2
    generalize plainB s.data.toList = P at *
    generalize str (quoteOf s.data.toList) = Q at *
    generalize str ((singleOf s.data.toList).getD []) = T at *
    generalize (if (singleOf s.data.toList).isSome = true then (0 : Int) else 10) = E at *
    have hq := beq_self Q
    have ht := beq_self T
    have hee : (E == E) = true := by simp
    have hpp : (P == P) = true := by simp
    have b0 : decide ((1000 : Int) < (s.size : Int)) = false := decide_eq_false (by omega)
    go_enter Tryd.func3, Tryd.ntmps3
    go_wp2_with fail
    refine cA.mono ?_
    rintro e w1 ⟨rfl, hb⟩
    have H := Lib.hid (HE.out.below hb)
    clear cA
    go_wp2_with fail
    refine (C1.out _ H.out).mono ?_
    rintro e w2 ⟨rfl, hb2⟩
    replace H := Lib.hid (H.out.below hb2)
    replace hb := Below.then hb hb2
    clear hb2 C1
    go_wp2_with fail
    refine (C2.out _).mono ?_
    rintro e w3 ⟨rfl, hb2⟩
    replace H := Lib.hid (H.out.below hb2)
    replace hb := Below.then hb hb2
    clear hb2 C2
    go_wp2_with fail
    refine (C3.out _ H.out).mono ?_
    rintro e w4 ⟨rfl, hb2⟩
    replace H := Lib.hid (H.out.below hb2)
    replace hb := Below.then hb hb2
    clear hb2 C3
    go_wp2_with fail
    refine (C4.out _).mono ?_
    rintro e w5 ⟨rfl, hb2⟩
    replace H := Lib.hid (H.out.below hb2)
    replace hb := Below.then hb hb2
    clear hb2 C4
    go_wp2_with fail
    refine (C5.out _ H.out).mono ?_
    rintro e w6 ⟨rfl, hb2⟩
    replace hb := Below.then hb hb2
    clear hb2 C5
    go_wp2_with fail
    refine (C6.out _).mono ?_
    rintro e w7 ⟨rfl, hb2⟩
    replace hb := Below.then hb hb2
    clear hb2 C6
    go_wp2
    go_ret
    exact ⟨rfl, hb⟩
end Go.Proofs.YtlfmaeodkghbbaaDoor
