/-
  Walk of the law ScalarReads.
-/
import Derived.Test.YtlfmaeodkghbbaaDoorMk
import Derived.Test.YtlfmaeodkghbbaaDoorRk
import Derived.Test.YtlfmaeodkghbbaaDoorOnce
namespace Go.Proofs.YtlfmaeodkghbbaaDoor
open Go.RowKit

set_option maxHeartbeats 2000000 in
set_option maxRecDepth 100000 in
theorem reads_walk (s : ByteArray) (w : World) (hs : s.size ≤ 9223372036854775807) (hE : Env w) :
    Calls Tryd.prog 4 #[.string s] w fun e w' => e = .returned (.bool true) ∧ Below w.heap.size w w' := by
  have cA := alive_any w hE
  have HE := Lib.hid hE
  clear hE
  by_cases hbig : 1000 < s.size
  · go_enter Tryd.func4, Tryd.ntmps4
    go_wp2_with (go_at_call 10; refine cA.mono ?_; rintro e w1 ⟨rfl, hb⟩)
    go_ret
    exact ⟨rfl, hb⟩
  · have C1 := Lib.hid (fun w1 hE1 => unquote_any s w1 (by omega) hE1)
    have C2 := Lib.hid (fun w1 => unquoteR_any s w1 (by omega))
    have C3 := Lib.hid (fun w1 hE1 => unsingle_any s w1 (by omega) hE1)
    have C4 := Lib.hid (fun w1 => unsingleR_any s w1 (by omega))
    have C5 := Lib.hid (fun w1 => end_any s w1 (by omega))
    have C6 := Lib.hid (fun w1 => endR_any s w1 (by omega))
    rw [unquote_same] at C2
    rw [unsingle_same] at C4
    unfold txtR at C1 C2 C3 C4
    unfold endR at C5 C6
    generalize str ((unquoteOf s.data.toList).getD []) = A at *
    generalize (if (unquoteOf s.data.toList).isSome = true then (0 : Int) else 10) = E1 at *
    generalize str ((unsingleOf s.data.toList).getD []) = B at *
    generalize (if (unsingleOf s.data.toList).isSome = true then (0 : Int) else 10) = E2 at *
    generalize (((Sc.endOf s.data.toList).getD 0 : Nat) : Int) = N at *
    generalize (if (Sc.endOf s.data.toList).isSome = true then (0 : Int) else 10) = E3 at *
    have hA := beq_self A
    have hB := beq_self B
    have h1 : (E1 == E1) = true := by simp
    have h2 : (E2 == E2) = true := by simp
    have h3 : (E3 == E3) = true := by simp
    have h4 : (N == N) = true := by simp
    have b0 : decide ((1000 : Int) < (s.size : Int)) = false := decide_eq_false (by omega)
    go_enter Tryd.func4, Tryd.ntmps4
    go_wp2_with fail
    refine cA.mono ?_
    rintro e w1 ⟨rfl, hb⟩
    have H := Lib.hid (HE.out.below hb)
    clear cA
    go_wp2_with fail
    refine (C1.out _ H.out).mono ?_
    rintro e w2 ⟨rfl, hb2⟩
    replace H := Lib.hid (H.out.below hb2)
    replace hb := Below.then hb hb2
    clear hb2 C1
    go_wp2_with fail
    refine (C2.out _).mono ?_
    rintro e w3 ⟨rfl, hb2⟩
    replace H := Lib.hid (H.out.below hb2)
    replace hb := Below.then hb hb2
    clear hb2 C2
    go_wp2_with fail
    refine (C3.out _ H.out).mono ?_
    rintro e w4 ⟨rfl, hb2⟩
    replace hb := Below.then hb hb2
    clear hb2 C3
    go_wp2_with fail
    refine (C4.out _).mono ?_
    rintro e w5 ⟨rfl, hb2⟩
    replace hb := Below.then hb hb2
    clear hb2 C4
    go_wp2_with fail
    refine (C5.out _).mono ?_
    rintro e w6 ⟨rfl, rfl⟩
    clear C5
    go_wp2_with fail
    refine (C6.out _).mono ?_
    rintro e w7 ⟨rfl, hb2⟩
    replace hb := Below.then hb hb2
    clear hb2 C6
    go_wp2
    go_ret
    exact ⟨rfl, hb⟩
end Go.Proofs.YtlfmaeodkghbbaaDoor
