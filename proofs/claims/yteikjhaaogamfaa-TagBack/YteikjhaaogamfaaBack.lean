/-
  Walk of the law TagBack.
-/
import Derived.Test.YteikjhaaogamfaaWe
namespace Go.Proofs.Yteikjhaaogamfaa
open Go.RowKit

theorem word_le (l : List UInt8) : (Tg.word l).length ≤ l.length + 2 := by
  unfold Tg.word
  split
  · simp
  · split
    · omega
    · simp
theorem read_le (l x : List UInt8) (h : Tg.read l = some x) : x.length ≤ l.length := by
  unfold Tg.read at h
  split at h
  · cases h; exact trim_le _ _
  · cases h
/-- what the law says last, whatever a word was read as -/
theorem last_none (v : ByteArray) (w : World) (hv : v.size ≤ 400) (h : Tg.read v.data.toList = none) :
    Calls Try.prog 12 #[.string v] w fun e w' => e = .returned (.tuple #[.string ⟨#[]⟩, .int .i64 14]) ∧ Below w.heap.size w w' := by
  have c := read_any v w (by omega)
  rw [h] at c
  exact c
theorem last_some (v X : ByteArray) (w : World) (hv : v.size ≤ 400) (h : Tg.read v.data.toList = some X.data.toList) :
    Calls Try.prog 12 #[.string v] w fun e w' => e = .returned (.tuple #[.string X, .int .i64 0]) ∧ Below w.heap.size w w' := by
  have c := read_any v w (by omega)
  rw [h] at c
  unfold readE at c
  simp only [Option.getD_some, Option.isSome_some, if_true, str_eq] at c
  exact c
theorem word_at (s V : ByteArray) (w : World) (hs : s.size ≤ 1000000) (h : Tg.word s.data.toList = V.data.toList) :
    Calls Try.prog 18 #[.string s] w fun e w' => e = .returned (.string V) ∧ Below w.heap.size w w' := by
  have c := word_any s w hs
  rw [h, str_eq] at c
  exact c
theorem right_at (s : ByteArray) (b : Bool) (w : World) (hs : s.size ≤ 1000000) (h : Tg.right s.data.toList = b) :
    Calls Try.prog 16 #[.string s] w fun e w' => e = .returned (.bool b) ∧ Below w.heap.size w w' := by
  have c := right_any s w hs
  rw [h] at c
  exact c

set_option maxHeartbeats 4000000 in
set_option maxRecDepth 100000 in
theorem back_walk (t u v : ByteArray) (w : World) (ht : t.size ≤ 9223372036854775807) (hu : u.size ≤ 9223372036854775807) (hv : v.size ≤ 9223372036854775807) :
    Calls Try.prog 5 #[.string t, .string u, .string v] w fun e w' => e = .returned (.bool true) ∧ Below w.heap.size w w' := by
  have cA := alive_any w
  by_cases g1 : 400 < t.size
  · have b1 : decide ((400 : Int) < (t.size : Int)) = true := decide_eq_true (by omega)
    go_enter Try.func5, Try.ntmps5
    go_wp2_with fail
    refine cA.mono ?_
    rintro e w1 ⟨rfl, hb⟩
    go_wp2
    go_ret
    exact ⟨rfl, hb⟩
  have b1 : decide ((400 : Int) < (t.size : Int)) = false := decide_eq_false (by omega)
  by_cases g2 : 400 < u.size
  · have b2 : decide ((400 : Int) < (u.size : Int)) = true := decide_eq_true (by omega)
    go_enter Try.func5, Try.ntmps5
    go_wp2_with fail
    refine cA.mono ?_
    rintro e w1 ⟨rfl, hb⟩
    go_wp2
    go_ret
    exact ⟨rfl, hb⟩
  have b2 : decide ((400 : Int) < (u.size : Int)) = false := decide_eq_false (by omega)
  by_cases g3 : 400 < v.size
  · have b3 : decide ((400 : Int) < (v.size : Int)) = true := decide_eq_true (by omega)
    go_enter Try.func5, Try.ntmps5
    go_wp2_with fail
    refine cA.mono ?_
    rintro e w1 ⟨rfl, hb⟩
    go_wp2
    go_ret
    exact ⟨rfl, hb⟩
  have b3 : decide ((400 : Int) < (v.size : Int)) = false := decide_eq_false (by omega)
  have ht' : t.size ≤ 400 := by omega
  have hu' : u.size ≤ 400 := by omega
  have hv' : v.size ≤ 400 := by omega
  clear g1 g2 g3 ht hu hv
  cases hr : Tg.right t.data.toList
  · have C1 := Lib.hid (fun w1 => word_at t ⟨#[]⟩ w1 (by omega) (Tg.word_none hr))
    have C2 := Lib.hid (fun w1 => right_at t false w1 (by omega) hr)
    clear hr
    go_enter Try.func5, Try.ntmps5
    go_wp2_with fail
    refine cA.mono ?_
    rintro e w1 ⟨rfl, hb⟩
    go_wp2_with fail
    refine (C1.out _).mono ?_
    rintro e w2 ⟨rfl, hb2⟩
    replace hb := Below.then hb hb2
    clear hb2
    go_wp2_with fail
    refine (C2.out _).mono ?_
    rintro e w3 ⟨rfl, hb3⟩
    replace hb := Below.then hb hb3
    clear hb3
    go_wp2
    go_ret
    exact ⟨rfl, hb⟩
  · obtain ⟨S, hS⟩ : ∃ S : ByteArray, Tg.word t.data.toList = S.data.toList := ⟨str (Tg.word t.data.toList), rfl⟩
    have C1 := Lib.hid (fun w1 => word_at t S w1 (by omega) hS)
    have C2 := Lib.hid (fun w1 => right_at t true w1 (by omega) hr)
    have hSs : S.size ≤ 402 := by rw [Lib.size_eq, ← hS]; have := word_le t.data.toList; rw [← Lib.size_eq] at this; omega
    have C3 : Hid (∀ w1, Calls Try.prog 12 #[.string S] w1 fun e w' => e = .returned (.tuple #[.string t, .int .i64 0]) ∧ Below w1.heap.size w1 w') := by
      show ∀ w1, _
      intro w1
      have c := read_any S w1 (by omega)
      rw [← hS, Tg.read_word hr] at c
      unfold readE at c
      simp only [Option.getD_some, Option.isSome_some, if_true, str_eq] at c
      exact c
    -- what is asked of u
    have HU : Hid (Tg.right u.data.toList = false ∨ (Tg.right u.data.toList = true ∧ ∃ U : ByteArray, Tg.word u.data.toList = U.data.toList ∧ (((U.toList == S.toList) = true ∧ (t.toList == u.toList) = true) ∨ ((U.toList == S.toList) = false ∧ (t.toList == u.toList) = false)))) := by
      show _ ∨ _
      cases hru : Tg.right u.data.toList
      · exact Or.inl rfl
      · refine Or.inr ⟨rfl, str (Tg.word u.data.toList), rfl, ?_⟩
        have hi := Tg.word_inj hr hru
        by_cases htu : t.data.toList = u.data.toList
        · left
          rw [str_toList, Lib.toList_data, Lib.toList_data, Lib.toList_data, ← hS]
          exact ⟨beq_iff_eq.2 (hi.2 htu), beq_iff_eq.2 htu⟩
        · right
          rw [str_toList, Lib.toList_data, Lib.toList_data, Lib.toList_data, ← hS]
          exact ⟨beq_words _ _ (fun e => htu (hi.1 e)), beq_words _ _ htu⟩
    have HV : Hid (Tg.read v.data.toList = none ∨ ∃ X : ByteArray, Tg.read v.data.toList = some X.data.toList ∧ Tg.word X.data.toList = v.data.toList ∧ Tg.right X.data.toList = true ∧ X.size ≤ 400) := by
      show _ ∨ _
      cases hrv : Tg.read v.data.toList with
      | none => exact Or.inl rfl
      | some x =>
        refine Or.inr ⟨str x, rfl, (Tg.read_some hrv).1, (Tg.read_some hrv).2, ?_⟩
        rw [str_size]; have := read_le _ _ hrv; rw [← Lib.size_eq] at this; omega
    clear hS hr
    rcases HV.out with hV | ⟨X, hX, hXw, hXr, hXs⟩
    · have C4 := Lib.hid (fun w1 => last_none v w1 hv' hV)
      clear hV HV
      rcases HU.out with hU | ⟨hU, U, hUw, hUe⟩
      · have C5 := Lib.hid (fun w1 => right_at u false w1 (by omega) hU)
        clear hU HU
        go_enter Try.func5, Try.ntmps5
        go_wp2_with fail
        refine cA.mono ?_
        rintro e w1 ⟨rfl, hb⟩
        go_wp2_with fail
        refine (C1.out _).mono ?_
        rintro e w2 ⟨rfl, hb2⟩
        replace hb := Below.then hb hb2
        clear hb2
        go_wp2_with fail
        refine (C2.out _).mono ?_
        rintro e w3 ⟨rfl, hb3⟩
        replace hb := Below.then hb hb3
        clear hb3
        go_wp2_with fail
        refine (C3.out _).mono ?_
        rintro e w4 ⟨rfl, hb4⟩
        replace hb := Below.then hb hb4
        clear hb4
        go_wp2_with fail
        refine (C4.out _).mono ?_
        rintro e w5 ⟨rfl, hb5⟩
        replace hb := Below.then hb hb5
        clear hb5
        go_wp2_with fail
        refine (C5.out _).mono ?_
        rintro e w6 ⟨rfl, hb6⟩
        replace hb := Below.then hb hb6
        clear hb6
        go_wp2
        go_ret
        exact ⟨rfl, hb⟩
      · have C5 := Lib.hid (fun w1 => right_at u true w1 (by omega) hU)
        have C6 := Lib.hid (fun w1 => word_at u U w1 (by omega) hUw)
        clear hU HU hUw
        rcases hUe with ⟨e1, e2⟩ | ⟨e1, e2⟩
        all_goals
          go_enter Try.func5, Try.ntmps5
          go_wp2_with fail
          refine cA.mono ?_
          rintro e w1 ⟨rfl, hb⟩
          go_wp2_with fail
          refine (C1.out _).mono ?_
          rintro e w2 ⟨rfl, hb2⟩
          replace hb := Below.then hb hb2
          clear hb2
          go_wp2_with fail
          refine (C2.out _).mono ?_
          rintro e w3 ⟨rfl, hb3⟩
          replace hb := Below.then hb hb3
          clear hb3
          go_wp2_with fail
          refine (C3.out _).mono ?_
          rintro e w4 ⟨rfl, hb4⟩
          replace hb := Below.then hb hb4
          clear hb4
          go_wp2_with fail
          refine (C4.out _).mono ?_
          rintro e w5 ⟨rfl, hb5⟩
          replace hb := Below.then hb hb5
          clear hb5
          go_wp2_with fail
          refine (C5.out _).mono ?_
          rintro e w6 ⟨rfl, hb6⟩
          replace hb := Below.then hb hb6
          clear hb6
          go_wp2_with fail
          refine (C6.out _).mono ?_
          rintro e w7 ⟨rfl, hb7⟩
          replace hb := Below.then hb hb7
          clear hb7
          go_wp2
          go_ret
          exact ⟨rfl, hb⟩
    · have C4 := Lib.hid (fun w1 => last_some v X w1 hv' hX)
      have C7 := Lib.hid (fun w1 => word_at X v w1 (by omega) hXw)
      have C8 := Lib.hid (fun w1 => right_at X true w1 (by omega) hXr)
      clear hX hXw hXr HV
      rcases HU.out with hU | ⟨hU, U, hUw, hUe⟩
      · have C5 := Lib.hid (fun w1 => right_at u false w1 (by omega) hU)
        clear hU HU
        go_enter Try.func5, Try.ntmps5
        go_wp2_with fail
        refine cA.mono ?_
        rintro e w1 ⟨rfl, hb⟩
        go_wp2_with fail
        refine (C1.out _).mono ?_
        rintro e w2 ⟨rfl, hb2⟩
        replace hb := Below.then hb hb2
        clear hb2
        go_wp2_with fail
        refine (C2.out _).mono ?_
        rintro e w3 ⟨rfl, hb3⟩
        replace hb := Below.then hb hb3
        clear hb3
        go_wp2_with fail
        refine (C3.out _).mono ?_
        rintro e w4 ⟨rfl, hb4⟩
        replace hb := Below.then hb hb4
        clear hb4
        go_wp2_with fail
        refine (C4.out _).mono ?_
        rintro e w5 ⟨rfl, hb5⟩
        replace hb := Below.then hb hb5
        clear hb5
        go_wp2_with fail
        refine (C5.out _).mono ?_
        rintro e w6 ⟨rfl, hb6⟩
        replace hb := Below.then hb hb6
        clear hb6
        go_wp2_with fail
        refine (C7.out _).mono ?_
        rintro e w7 ⟨rfl, hb7⟩
        replace hb := Below.then hb hb7
        clear hb7
        go_wp2_with fail
        refine (C8.out _).mono ?_
        rintro e w8 ⟨rfl, hb8⟩
        replace hb := Below.then hb hb8
        clear hb8
        go_wp2
        go_ret
        exact ⟨rfl, hb⟩
      · have C5 := Lib.hid (fun w1 => right_at u true w1 (by omega) hU)
        have C6 := Lib.hid (fun w1 => word_at u U w1 (by omega) hUw)
        clear hU HU hUw
        rcases hUe with ⟨e1, e2⟩ | ⟨e1, e2⟩
        all_goals
          go_enter Try.func5, Try.ntmps5
          go_wp2_with fail
          refine cA.mono ?_
          rintro e w1 ⟨rfl, hb⟩
          go_wp2_with fail
          refine (C1.out _).mono ?_
          rintro e w2 ⟨rfl, hb2⟩
          replace hb := Below.then hb hb2
          clear hb2
          go_wp2_with fail
          refine (C2.out _).mono ?_
          rintro e w3 ⟨rfl, hb3⟩
          replace hb := Below.then hb hb3
          clear hb3
          go_wp2_with fail
          refine (C3.out _).mono ?_
          rintro e w4 ⟨rfl, hb4⟩
          replace hb := Below.then hb hb4
          clear hb4
          go_wp2_with fail
          refine (C4.out _).mono ?_
          rintro e w5 ⟨rfl, hb5⟩
          replace hb := Below.then hb hb5
          clear hb5
          go_wp2_with fail
          refine (C5.out _).mono ?_
          rintro e w6 ⟨rfl, hb6⟩
          replace hb := Below.then hb hb6
          clear hb6
          go_wp2_with fail
          refine (C6.out _).mono ?_
          rintro e w7 ⟨rfl, hb7⟩
          replace hb := Below.then hb hb7
          clear hb7
          go_wp2_with fail
          refine (C7.out _).mono ?_
          rintro e w8 ⟨rfl, hb8⟩
          replace hb := Below.then hb hb8
          clear hb8
          go_wp2_with fail
          refine (C8.out _).mono ?_
          rintro e w9 ⟨rfl, hb9⟩
          replace hb := Below.then hb hb9
          clear hb9
          go_wp2
          go_ret
          exact ⟨rfl, hb⟩
end Go.Proofs.Yteikjhaaogamfaa
