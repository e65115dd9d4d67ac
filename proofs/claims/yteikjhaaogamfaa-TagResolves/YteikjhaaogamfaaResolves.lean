/-
  Walk of the law TagResolves.
-/
import Derived.Test.YteikjhaaogamfaaRd
namespace Go.Proofs.Yteikjhaaogamfaa
open Go.RowKit

set_option maxHeartbeats 2000000 in
set_option maxRecDepth 100000 in
theorem resolves_walk (s t : ByteArray) (w : World) (_hs : s.size ≤ 9223372036854775807) (_ht : t.size ≤ 9223372036854775807) :
    Calls Try.prog 3 #[.string s, .string t] w fun e w' => e = .returned (.bool true) ∧ Below w.heap.size w w' := by
  have cA := alive_any w
  by_cases g1 : 400 < s.size
  · have b1 : decide ((400 : Int) < (s.size : Int)) = true := decide_eq_true (by omega)
    go_enter Try.func3, Try.ntmps3
    go_wp2_with fail
    refine cA.mono ?_
    rintro e w1 ⟨rfl, hb⟩
    go_wp2
    go_ret
    exact ⟨rfl, hb⟩
  have b1 : decide ((400 : Int) < (s.size : Int)) = false := decide_eq_false (by omega)
  by_cases g2 : 400 < t.size
  · have b2 : decide ((400 : Int) < (t.size : Int)) = true := decide_eq_true (by omega)
    go_enter Try.func3, Try.ntmps3
    go_wp2_with fail
    refine cA.mono ?_
    rintro e w1 ⟨rfl, hb⟩
    go_wp2
    go_ret
    exact ⟨rfl, hb⟩
  have b2 : decide ((400 : Int) < (t.size : Int)) = false := decide_eq_false (by omega)
  have C1 := Lib.hid (fun w1 => resolve_any s w1 (by omega))
  have C2 := Lib.hid (fun w1 => resolveR_any s w1 (by omega))
  have C3 := Lib.hid (fun w1 => fits_any t s w1 (by omega) (by omega))
  have C4 := Lib.hid (fun w1 => fitsR_any t s w1 (by omega) (by omega))
  rw [← Tg.resolve_eq] at C2
  rw [← Tg.fits_eq] at C4
  clear g1 g2 _hs _ht
  generalize kS (Tg.resolve s.data.toList) = R at C1 C2
  generalize Tg.fits t.data.toList s.data.toList = F at C3 C4
  go_enter Try.func3, Try.ntmps3
  go_wp2_with fail
  refine cA.mono ?_
  rintro e w1 ⟨rfl, hb⟩
  go_wp2_with fail
  refine (C1.out _).mono ?_
  rintro e w2 ⟨rfl, rfl⟩
  go_wp2_with fail
  refine (C2.out _).mono ?_
  rintro e w2 ⟨rfl, hb2⟩
  replace hb := Below.then hb hb2
  clear hb2
  go_wp2_with fail
  refine (C3.out _).mono ?_
  rintro e w3 ⟨rfl, hb3⟩
  replace hb := Below.then hb hb3
  clear hb3
  go_wp2_with fail
  refine (C4.out _).mono ?_
  rintro e w4 ⟨rfl, hb4⟩
  replace hb := Below.then hb hb4
  clear hb4
  go_wp2
  go_ret
  exact ⟨rfl, hb⟩
end Go.Proofs.Yteikjhaaogamfaa
