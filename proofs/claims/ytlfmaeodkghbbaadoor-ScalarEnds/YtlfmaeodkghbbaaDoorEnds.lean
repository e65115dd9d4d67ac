/-
  Walk of the law ScalarEnds.
-/
import Derived.Test.YtlfmaeodkghbbaaDoorWl
import Derived.Test.YtlfmaeodkghbbaaDoorMf
namespace Go.Proofs.YtlfmaeodkghbbaaDoor
open Go.RowKit

theorem take_ext (s : ByteArray) (n : Nat) : (s.extract 0 n).data.toList = s.data.toList.take n := by
  rw [Lib.extract_data]; simp

set_option maxHeartbeats 1000000 in
set_option maxRecDepth 100000 in
theorem ends_walk (s : ByteArray) (w : World) (hs : s.size ≤ 9223372036854775807) (hE : Env w) :
    Calls Tryd.prog 9 #[.string s] w fun e w' => e = .returned (.bool true) ∧ Below w.heap.size w w' := by
  have cA := alive_any w hE
  clear hE
  by_cases hbig : 1000 < s.size
  · go_enter Tryd.func9, Tryd.ntmps9
    go_wp2_with (go_at_call 10; refine cA.mono ?_; rintro e w1 ⟨rfl, hb⟩)
    go_ret
    exact ⟨rfl, hb⟩
  · have CE := Lib.hid (fun w1 => end_any s w1 (by omega))
    cases hn : Sc.endOf s.data.toList with
    | none =>
      rw [hn] at CE
      clear hn
      go_enter Tryd.func9, Tryd.ntmps9
      go_wp2_with (first | (go_at_call 10; refine cA.mono ?_; rintro e w1 ⟨rfl, hb⟩) | (go_at_call 21; refine (CE.out _).mono ?_; rintro e w2 ⟨rfl, rfl⟩; unfold endR))
      go_ret
      exact ⟨rfl, hb⟩
    | some n =>
      rw [hn] at CE
      obtain ⟨h2, hl, ⟨q, hq, hh, hlast⟩, htk⟩ := Sc.endOf_some _ _ hn
      rw [← Lib.size_eq] at hl
      clear hn
      have C2 := Lib.hid (fun w1 => end_any (s.extract 0 n) w1 (by rw [Lib.size_eq, take_ext, List.length_take]; omega))
      rw [take_ext, htk] at C2
      clear htk
      rw [ba_head s (by omega)] at hh
      have e0 : s[0]'(by omega) = q := Option.some.inj hh
      rw [Lib.data_getElem? s (n - 1) (by omega)] at hlast
      have e1 : s[n - 1]'(by omega) = q := Option.some.inj hlast
      clear hh hlast
      unfold endR at CE C2
      simp only [Option.getD_some, Option.isSome_some, if_true] at CE C2
      go_enter Tryd.func9, Tryd.ntmps9
      go_wp2_with fail
      refine cA.mono ?_
      rintro e w1 ⟨rfl, hb⟩
      go_wp2_with fail
      refine (CE.out _).mono ?_
      rintro e w2 ⟨rfl, rfl⟩
      go_wp2_with fail
      refine (C2.out _).mono ?_
      rintro e w2 ⟨rfl, rfl⟩
      clear CE C2 cA
      have z1 : decide ((2 : Int) ≤ (n : Int)) = true := decide_eq_true (by omega)
      have z2 : decide (n ≤ s.size) = true := decide_eq_true hl
      have z2' : decide ((n : Int) ≤ (s.size : Int)) = true := decide_eq_true (by omega)
      have z3 : IntKind.i64.wrap ((n : Int) - 1) = (n : Int) - 1 := IntWalk.i64_in _ (by omega)
      have z4 : (0 : Int) ≤ (n : Int) - 1 := by omega
      have z4' : (1 : Int) ≤ (n : Int) := by omega
      have z5 : ((n : Int) - 1).toNat = n - 1 := by omega
      have z6 : n - 1 < s.size := by omega
      have z7 : 0 < s.size := by omega
      rcases hq with rfl | rfl
      all_goals
        go_wp2
        go_quiet (fail)
        go_wp2
        go_ret
        exact ⟨rfl, below_drewN hb _⟩
end Go.Proofs.YtlfmaeodkghbbaaDoor
