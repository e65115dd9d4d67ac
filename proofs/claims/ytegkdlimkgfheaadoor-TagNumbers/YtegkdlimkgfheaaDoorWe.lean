/-
  Walks of Read, Fits, and of the law's alive.
-/
import Derived.Test.YtegkdlimkgfheaaDoorWd
namespace Go.Proofs.YtegkdlimkgfheaaDoor
open Go.RowKit

theorem Below.then {a b c : World} (h : Below a.heap.size a b) (k : Below b.heap.size b c) : Below a.heap.size a c := h.trans (k.mono h.size)

/-- Read's answer as Go gives it -/
def readE (o : Option (List UInt8)) : Ending := .returned (.tuple #[.string (str (o.getD [])), .int .i64 (if o.isSome then 0 else 14)])
theorem trim_le (l p : List UInt8) : (Lib.trimPrefix l p).length ≤ l.length := by
  unfold Lib.trimPrefix; split
  · rw [List.length_drop]; omega
  · exact Nat.le_refl _

set_option maxHeartbeats 1000000 in
theorem read_any (s : ByteArray) (w : World) (hs : s.size ≤ 1000000) :
    Calls Tryd.prog 13 #[.string s] w fun e w' => e = readE (Tg.read s.data.toList) ∧ Below w.heap.size w w' := by
  unfold Tg.read
  have c1 := trim_any s ⟨#[33, 33]⟩ w
  obtain ⟨T, hT⟩ : ∃ T, T = str (Lib.trimPrefix s.data.toList [33, 33]) := ⟨_, rfl⟩
  have hTd : Lib.trimPrefix s.data.toList [33, 33] = T.data.toList := by rw [hT]; rfl
  have hTs : T.size ≤ 1000000 := by rw [hT, str_size]; have := trim_le s.data.toList [33, 33]; rw [← Lib.size_eq] at this; omega
  rw [show (⟨#[33, 33]⟩ : ByteArray).data.toList = [33, 33] from rfl, ← hT] at c1
  rw [hTd]
  clear hT hTd
  have c2 := right_any T w hTs
  cases h1 : Tg.right T.data.toList
  · rw [h1] at c2
    clear h1
    rw [if_neg (by simp)]
    unfold readE
    simp only [Option.getD_none, Option.isSome_none, if_false, Bool.false_eq_true]
    go_enter Tryd.func13, Tryd.ntmps13
    go_wp2_with fail
    refine c1.mono ?_
    rintro e w1 ⟨rfl, rfl⟩
    go_wp2_with fail
    refine c2.mono ?_
    rintro e w1 ⟨rfl, hb⟩
    go_wp2
    go_ret2
    exact ⟨rfl, hb⟩
  · rw [h1] at c2
    clear h1
    have c3 := Lib.hid (fun w1 => word_any T w1 hTs)
    obtain ⟨Wd, hWd⟩ : ∃ Wd, Wd = str (Tg.word T.data.toList) := ⟨_, rfl⟩
    have hWl : Tg.word T.data.toList = Wd.data.toList := by rw [hWd]; rfl
    rw [← hWd] at c3
    rw [hWl]
    clear hWd hWl
    by_cases he : Wd = s
    · subst he
      rw [if_pos ⟨rfl, rfl⟩]
      unfold readE
      simp only [Option.getD_some, Option.isSome_some, if_true, str_eq]
      go_enter Tryd.func13, Tryd.ntmps13
      go_wp2_with fail
      refine c1.mono ?_
      rintro e w1 ⟨rfl, rfl⟩
      go_wp2_with fail
      refine c2.mono ?_
      rintro e w1 ⟨rfl, hb⟩
      go_wp2_with fail
      refine (c3.out w1).mono ?_
      rintro e w2 ⟨rfl, hb2⟩
      go_wp2
      go_ret2
      exact ⟨rfl, Below.then hb hb2⟩
    · have he' : Wd.data.toList ≠ s.data.toList := fun x => he (str_inj x)
      have b1 : (Wd.toList == s.toList) = false := by rw [Lib.toList_data, Lib.toList_data]; simpa using he'
      have b2 : (Wd.toList != s.toList) = true := by rw [Lib.toList_data, Lib.toList_data]; simpa using he'
      rw [if_neg (by simp [he'])]
      unfold readE
      simp only [Option.getD_none, Option.isSome_none, if_false, Bool.false_eq_true]
      clear he he'
      go_enter Tryd.func13, Tryd.ntmps13
      go_wp2_with fail
      refine c1.mono ?_
      rintro e w1 ⟨rfl, rfl⟩
      go_wp2_with fail
      refine c2.mono ?_
      rintro e w1 ⟨rfl, hb⟩
      go_wp2_with fail
      refine (c3.out w1).mono ?_
      rintro e w2 ⟨rfl, hb2⟩
      go_wp2
      go_ret2
      exact ⟨rfl, Below.then hb hb2⟩

theorem beq_words (a b : List UInt8) (h : a ≠ b) : (a == b) = false := beq_eq_false_iff_ne.2 h

set_option maxHeartbeats 1000000 in
theorem fits_any (t s : ByteArray) (w : World) (ht : t.size ≤ 1000000) (hs : s.size ≤ 1000000) :
    Calls Tryd.prog 12 #[.string t, .string s] w fun e w' => e = .returned (.bool (Tg.fits t.data.toList s.data.toList)) ∧ Below w.heap.size w w' := by
  unfold Tg.fits
  have c1 := resolve_any s w hs
  generalize Tg.resolve s.data.toList = k at c1
  unfold Tg.fitsK
  by_cases h1 : t.data.toList = Tg.K.str.w
  · rw [if_pos h1]
    obtain rfl := to_str h1
    clear h1 ht
    have hz : ∀ l, (str l).toList = l := str_toList
    unfold Tg.K.w at *
    go_enter Tryd.func12, Tryd.ntmps12
    go_wp2
    go_ret
    exact ⟨rfl, Below.refl _ _⟩
  · rw [if_neg h1]
    have a1 : (t.toList == [115, 116, 114]) = false := by rw [Lib.toList_data]; exact beq_words _ _ h1
    by_cases h2 : t.data.toList = Tg.K.nul.w ∨ t.data.toList = Tg.K.boo.w ∨ t.data.toList = Tg.K.int.w
    · rw [if_pos h2]
      clear h1 a1
      rcases h2 with h2 | h2 | h2
      all_goals
        obtain rfl := to_str h2
        clear h2 ht
        have hz : ∀ l, (str l).toList = l := str_toList
        have b0 : ∀ l, ((kS k).toList == l) = (k.w == l) := fun l => by rw [Lib.toList_data, kS_w]
        cases k
        all_goals
          unfold kS at c1
          go_enter Tryd.func12, Tryd.ntmps12
          go_wp2_with fail
          refine c1.mono ?_
          rintro e w1 ⟨rfl, rfl⟩
          go_wp2
          go_ret
          exact ⟨rfl, Below.refl _ _⟩
    · rw [if_neg h2]
      have a2 : (t.toList == [110, 117, 108, 108]) = false := by rw [Lib.toList_data]; exact beq_words _ _ (fun e => h2 (Or.inl e))
      have a3 : (t.toList == [98, 111, 111, 108]) = false := by rw [Lib.toList_data]; exact beq_words _ _ (fun e => h2 (Or.inr (Or.inl e)))
      have a4 : (t.toList == [105, 110, 116]) = false := by rw [Lib.toList_data]; exact beq_words _ _ (fun e => h2 (Or.inr (Or.inr e)))
      by_cases h3 : t.data.toList = Tg.K.flt.w
      · rw [if_pos h3]
        obtain rfl := to_str h3
        clear h3 ht h1 h2 a1 a2 a3 a4
        have hz : ∀ l, (str l).toList = l := str_toList
        unfold Tg.K.w at *
        cases k
        all_goals
          unfold kS at c1
          go_enter Tryd.func12, Tryd.ntmps12
          go_wp2_with fail
          refine c1.mono ?_
          rintro e w1 ⟨rfl, rfl⟩
          go_wp2
          go_ret
          exact ⟨rfl, Below.refl _ _⟩
      · rw [if_neg h3]
        have a5 : (t.toList == [102, 108, 111, 97, 116]) = false := by rw [Lib.toList_data]; exact beq_words _ _ h3
        clear h1 h2 h3 c1
        have c2 := own_any t w ht
        go_enter Tryd.func12, Tryd.ntmps12
        go_wp2_with fail
        refine c2.mono ?_
        rintro e w1 ⟨rfl, hb⟩
        go_wp2
        go_ret
        exact ⟨rfl, hb⟩

theorem al1 : Tg.read [33, 33, 105, 110, 116] = some [105, 110, 116] := by decide +kernel
theorem al2 : Tg.read [105, 110, 116] = none := by decide +kernel
theorem al3 : Tg.resolve [48, 120, 49, 70] = .int := by decide +kernel
theorem al4 : Tg.resolve [49, 46] = .flt := by decide +kernel
theorem al5 : Tg.resolve [49, 46, 50, 46, 51] = .str := by decide +kernel
theorem al6 : Tg.word [33, 97] = [33, 97] := by decide +kernel
theorem al7 : Tg.core [115, 101, 113] = true := by decide +kernel
theorem al8 : Tg.right [33, 120, 45, 49] = true := by decide +kernel
theorem al9 : Tg.fits [102, 108, 111, 97, 116] [49] = true := by decide +kernel
theorem ac1 (w : World) : Calls Tryd.prog 13 #[.string ⟨#[33, 33, 105, 110, 116]⟩] w fun e w' => e = .returned (.tuple #[.string ⟨#[105, 110, 116]⟩, .int .i64 0]) ∧ Below w.heap.size w w' := by
  have := read_any ⟨#[33, 33, 105, 110, 116]⟩ w (by decide); rw [al1] at this; exact this
theorem ac2 (w : World) : Calls Tryd.prog 13 #[.string ⟨#[105, 110, 116]⟩] w fun e w' => e = .returned (.tuple #[.string ⟨#[]⟩, .int .i64 14]) ∧ Below w.heap.size w w' := by
  have := read_any ⟨#[105, 110, 116]⟩ w (by decide); rw [al2] at this; exact this
theorem ac3 (w : World) : Calls Tryd.prog 6 #[.string ⟨#[48, 120, 49, 70]⟩] w fun e w' => e = .returned (.string ⟨#[105, 110, 116]⟩) ∧ w = w' := by
  have := resolve_any ⟨#[48, 120, 49, 70]⟩ w (by decide); rw [al3] at this; exact this
theorem ac4 (w : World) : Calls Tryd.prog 6 #[.string ⟨#[49, 46]⟩] w fun e w' => e = .returned (.string ⟨#[102, 108, 111, 97, 116]⟩) ∧ w = w' := by
  have := resolve_any ⟨#[49, 46]⟩ w (by decide); rw [al4] at this; exact this
theorem ac5 (w : World) : Calls Tryd.prog 6 #[.string ⟨#[49, 46, 50, 46, 51]⟩] w fun e w' => e = .returned (.string ⟨#[115, 116, 114]⟩) ∧ w = w' := by
  have := resolve_any ⟨#[49, 46, 50, 46, 51]⟩ w (by decide); rw [al5] at this; exact this
theorem ac6 (w : World) : Calls Tryd.prog 14 #[.string ⟨#[33, 97]⟩] w fun e w' => e = .returned (.string ⟨#[33, 97]⟩) ∧ Below w.heap.size w w' := by
  have := word_any ⟨#[33, 97]⟩ w (by decide); rw [al6] at this; exact this
theorem ac7 (w : World) : Calls Tryd.prog 15 #[.string ⟨#[115, 101, 113]⟩] w fun e w' => e = .returned (.bool true) ∧ w = w' := by
  have := core_any ⟨#[115, 101, 113]⟩ w; rw [al7] at this; exact this
theorem ac8 (w : World) : Calls Tryd.prog 16 #[.string ⟨#[33, 120, 45, 49]⟩] w fun e w' => e = .returned (.bool true) ∧ Below w.heap.size w w' := by
  have := right_any ⟨#[33, 120, 45, 49]⟩ w (by decide); rw [al8] at this; exact this
theorem ac9 (w : World) : Calls Tryd.prog 12 #[.string ⟨#[102, 108, 111, 97, 116]⟩, .string ⟨#[49]⟩] w fun e w' => e = .returned (.bool true) ∧ Below w.heap.size w w' := by
  have := fits_any ⟨#[102, 108, 111, 97, 116]⟩ ⟨#[49]⟩ w (by decide) (by decide); rw [al9] at this; exact this

set_option maxHeartbeats 1000000 in
set_option maxRecDepth 100000 in
theorem alive_any (w : World) : Calls Tryd.prog 4 #[] w fun e w' => e = .returned (.bool true) ∧ Below w.heap.size w w' := by
  go_enter Tryd.func4, Tryd.ntmps4
  go_wp2_with fail
  refine (ac1 w).mono ?_
  rintro e w1 ⟨rfl, hb⟩
  go_wp2_with fail
  refine (ac2 w1).mono ?_
  rintro e w2 ⟨rfl, hb2⟩
  replace hb := Below.then hb hb2
  clear hb2
  go_wp2_with fail
  refine (ac3 w2).mono ?_
  rintro e w3 ⟨rfl, rfl⟩
  go_wp2_with fail
  refine (ac4 w2).mono ?_
  rintro e w3 ⟨rfl, rfl⟩
  go_wp2_with fail
  refine (ac5 w2).mono ?_
  rintro e w3 ⟨rfl, rfl⟩
  go_wp2_with fail
  refine (ac6 w2).mono ?_
  rintro e w3 ⟨rfl, hb3⟩
  replace hb := Below.then hb hb3
  clear hb3
  go_wp2_with fail
  refine (ac7 w3).mono ?_
  rintro e w4 ⟨rfl, rfl⟩
  go_wp2_with fail
  refine (ac8 w3).mono ?_
  rintro e w4 ⟨rfl, hb4⟩
  replace hb := Below.then hb hb4
  clear hb4
  go_wp2_with fail
  refine (ac9 w4).mono ?_
  rintro e w5 ⟨rfl, hb5⟩
  replace hb := Below.then hb hb5
  clear hb5
  go_wp2
  go_ret
  exact ⟨rfl, hb⟩
end Go.Proofs.YtegkdlimkgfheaaDoor
