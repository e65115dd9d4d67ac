/-
  Walk of the law TagWords.
-/
import Derived.Test.YteikjhaaogamfaaRd
namespace Go.Proofs.Yteikjhaaogamfaa
open Go.RowKit

set_option maxHeartbeats 2000000 in
set_option maxRecDepth 100000 in
theorem words_walk (t v : ByteArray) (w : World) (_ht : t.size ≤ 9223372036854775807) (_hv : v.size ≤ 9223372036854775807) :
    Calls Try.prog 4 #[.string t, .string v] w fun e w' => e = .returned (.bool true) ∧ Below w.heap.size w w' := by
  have cA := alive_any w
  by_cases g1 : 400 < t.size
  · have b1 : decide ((400 : Int) < (t.size : Int)) = true := decide_eq_true (by omega)
    go_enter Try.func4, Try.ntmps4
    go_wp2_with fail
    refine cA.mono ?_
    rintro e w1 ⟨rfl, hb⟩
    go_wp2
    go_ret
    exact ⟨rfl, hb⟩
  have b1 : decide ((400 : Int) < (t.size : Int)) = false := decide_eq_false (by omega)
  by_cases g2 : 400 < v.size
  · have b2 : decide ((400 : Int) < (v.size : Int)) = true := decide_eq_true (by omega)
    go_enter Try.func4, Try.ntmps4
    go_wp2_with fail
    refine cA.mono ?_
    rintro e w1 ⟨rfl, hb⟩
    go_wp2
    go_ret
    exact ⟨rfl, hb⟩
  have b2 : decide ((400 : Int) < (v.size : Int)) = false := decide_eq_false (by omega)
  have C1 := Lib.hid (fun w1 => read_any v w1 (by omega))
  have C2 := Lib.hid (fun w1 => readR_any v w1 (by omega))
  have C3 := Lib.hid (fun w1 => core_any t w1)
  have C4 := Lib.hid (fun w1 => coreR_any t w1)
  have C5 := Lib.hid (fun w1 => right_any t w1 (by omega))
  have C6 := Lib.hid (fun w1 => rightR_any t w1 (by omega))
  have C7 := Lib.hid (fun w1 => word_any t w1 (by omega))
  have C8 := Lib.hid (fun w1 => wordR_any t w1 (by omega))
  rw [← Tg.read_eq] at C2
  rw [← Tg.right_eq] at C6
  rw [← Tg.word_eq] at C8
  unfold readE at C1 C2
  clear g1 g2 _ht _hv
  generalize str ((Tg.read v.data.toList).getD []) = X at C1 C2
  generalize (if (Tg.read v.data.toList).isSome then (0 : Int) else 14) = E at C1 C2
  generalize Tg.core t.data.toList = c at C3 C4
  generalize Tg.right t.data.toList = r at C5 C6
  generalize str (Tg.word t.data.toList) = W at C7 C8
  go_enter Try.func4, Try.ntmps4
  go_wp2_with fail
  refine cA.mono ?_
  rintro e w1 ⟨rfl, hb⟩
  go_wp2_with fail
  refine (C1.out _).mono ?_
  rintro e w2 ⟨rfl, hb2⟩
  replace hb := Below.then hb hb2
  clear hb2
  go_wp2_with fail
  refine (C2.out _).mono ?_
  rintro e w3 ⟨rfl, hb3⟩
  replace hb := Below.then hb hb3
  clear hb3
  go_wp2_with fail
  refine (C3.out _).mono ?_
  rintro e w4 ⟨rfl, rfl⟩
  go_wp2_with fail
  refine (C4.out _).mono ?_
  rintro e w4 ⟨rfl, hb4⟩
  replace hb := Below.then hb hb4
  clear hb4
  go_wp2_with fail
  refine (C5.out _).mono ?_
  rintro e w5 ⟨rfl, hb5⟩
  replace hb := Below.then hb hb5
  clear hb5
  go_wp2_with fail
  refine (C6.out _).mono ?_
  rintro e w6 ⟨rfl, hb6⟩
  replace hb := Below.then hb hb6
  clear hb6
  go_wp2_with fail
  refine (C7.out _).mono ?_
  rintro e w7 ⟨rfl, hb7⟩
  replace hb := Below.then hb hb7
  clear hb7
  go_wp2_with fail
  refine (C8.out _).mono ?_
  rintro e w8 ⟨rfl, hb8⟩
  replace hb := Below.then hb hb8
  clear hb8
  go_wp2
  go_ret
  exact ⟨rfl, hb⟩
end Go.Proofs.Yteikjhaaogamfaa
