/-
  Walks of isInt, isFloat, Resolve.
-/
import Derived.Test.YtbimjdlkffbncaaDoorGd
namespace Go.Proofs.YtbimjdlkffbncaaDoor
namespace Tag
open Go.RowKit

theorem ext_size_le (s : ByteArray) (k : Nat) : (s.extract k s.size).size ≤ s.size := by
  rw [Lib.size_eq, ext_drop, List.length_drop, ← Lib.size_eq]; omega

set_option maxHeartbeats 1000000 in
theorem int_any (s : ByteArray) (w : World) (hs : s.size ≤ 1000000) :
    Calls Tryd.prog 103 #[.string s] w fun e w' => e = .returned (.bool (Tg.isInt s.data.toList)) ∧ w = w' := by
  unfold Tg.isInt
  cases h1 : Lib.hasPrefix s.data.toList [48, 111]
  · rw [if_neg (by simp)]
    have c1 := cut_no s ⟨#[48, 111]⟩ w h1
    clear h1
    cases h2 : Lib.hasPrefix s.data.toList [48, 120]
    · rw [if_neg (by simp)]
      have c2 := cut_no s ⟨#[48, 120]⟩ w h2
      clear h2
      have c3 := bare_any s w
      have c4 := bareDigits s w (by omega)
      go_enter Tryd.func103, Tryd.ntmps103
      go_wp2_with fail
      refine c1.mono ?_
      rintro e w1 ⟨rfl, rfl⟩
      go_wp2_with fail
      refine c2.mono ?_
      rintro e w1 ⟨rfl, rfl⟩
      go_wp2_with fail
      refine c3.mono ?_
      rintro e w1 ⟨rfl, rfl⟩
      go_wp2_with fail
      refine c4.mono ?_
      rintro e w1 ⟨rfl, rfl⟩
      go_wp2
      go_ret
      exact ⟨rfl, rfl⟩
    · rw [if_pos rfl]
      have c2 := cut_yes s ⟨#[48, 120]⟩ w h2
      clear h2
      obtain ⟨T, hT⟩ : ∃ T, T = s.extract (⟨#[48, 120]⟩ : ByteArray).size s.size := ⟨_, rfl⟩
      have hTd : s.data.toList.drop 2 = T.data.toList := by rw [hT, ext_drop]; rfl
      have hTs : T.size ≤ 1000000 := by have := ext_size_le s (⟨#[48, 120]⟩ : ByteArray).size; rw [← hT] at this; omega
      rw [← hT] at c2
      rw [hTd]
      clear hT hTd
      have c3 := allDigits_any T 16 16 rfl w (by omega)
      go_enter Tryd.func103, Tryd.ntmps103
      go_wp2_with fail
      refine c1.mono ?_
      rintro e w1 ⟨rfl, rfl⟩
      go_wp2_with fail
      refine c2.mono ?_
      rintro e w1 ⟨rfl, rfl⟩
      go_wp2_with fail
      refine c3.mono ?_
      rintro e w1 ⟨rfl, rfl⟩
      go_wp2
      go_ret
      exact ⟨rfl, rfl⟩
  · rw [if_pos rfl]
    have c1 := cut_yes s ⟨#[48, 111]⟩ w h1
    clear h1
    obtain ⟨T, hT⟩ : ∃ T, T = s.extract (⟨#[48, 111]⟩ : ByteArray).size s.size := ⟨_, rfl⟩
    have hTd : s.data.toList.drop 2 = T.data.toList := by rw [hT, ext_drop]; rfl
    have hTs : T.size ≤ 1000000 := by have := ext_size_le s (⟨#[48, 111]⟩ : ByteArray).size; rw [← hT] at this; omega
    rw [← hT] at c1
    rw [hTd]
    clear hT hTd
    have c3 := allDigits_any T 8 8 rfl w (by omega)
    go_enter Tryd.func103, Tryd.ntmps103
    go_wp2_with fail
    refine c1.mono ?_
    rintro e w1 ⟨rfl, rfl⟩
    go_wp2_with fail
    refine c3.mono ?_
    rintro e w1 ⟨rfl, rfl⟩
    go_wp2
    go_ret
    exact ⟨rfl, rfl⟩

/-- a text that is one of some, or none of them -/
theorem in_words {s : ByteArray} {l : List (List UInt8)} (h : l.contains s.data.toList = true) : ∃ x ∈ l, s = str x := by
  rw [List.contains_iff_mem] at h
  exact ⟨_, h, (str_eq s).symm⟩
theorem not_words {s : ByteArray} {l : List (List UInt8)} (h : l.contains s.data.toList = false) : ∀ x ∈ l, (s.toList == x) = false := by
  intro x hx
  rw [Lib.toList_data]
  rw [beq_eq_false_iff_ne]
  rintro rfl
  rw [List.contains_iff_mem.2 hx] at h
  cases h

set_option maxHeartbeats 1000000 in
theorem float_any (s : ByteArray) (w : World) (hs : s.size ≤ 1000000) :
    Calls Tryd.prog 104 #[.string s] w fun e w' => e = .returned (.bool (Tg.isFloat s.data.toList)) ∧ w = w' := by
  unfold Tg.isFloat
  cases h1 : Tg.nans.contains s.data.toList
  · have n1 := not_words h1
    have a1 := n1 [46, 110, 97, 110] (by decide)
    have a2 := n1 [46, 78, 97, 78] (by decide)
    have a3 := n1 [46, 78, 65, 78] (by decide)
    clear n1 h1
    rw [Bool.false_or]
    have c1 := bare_any s w
    obtain ⟨B, hB⟩ : ∃ B, B = str (Tg.bare s.data.toList) := ⟨_, rfl⟩
    have hBd : Tg.bare s.data.toList = B.data.toList := by rw [hB]; rfl
    have hBs : B.size ≤ 1000000 := by rw [hB, str_size]; have := bare_le s.data.toList; rw [← Lib.size_eq] at this; omega
    rw [← hB] at c1
    rw [hBd]
    clear hB hBd
    cases h2 : Tg.infs.contains B.data.toList
    · have n2 := not_words h2
      have d1 := n2 [46, 105, 110, 102] (by decide)
      have d2 := n2 [46, 73, 110, 102] (by decide)
      have d3 := n2 [46, 73, 78, 70] (by decide)
      clear n2 h2
      rw [Bool.false_or]
      have c2 := decimal_any B w hBs
      go_enter Tryd.func104, Tryd.ntmps104
      go_wp2_with fail
      refine c1.mono ?_
      rintro e w1 ⟨rfl, rfl⟩
      go_wp2_with fail
      refine c2.mono ?_
      rintro e w1 ⟨rfl, rfl⟩
      go_wp2
      go_ret
      exact ⟨rfl, rfl⟩
    · obtain ⟨x, hx, rfl⟩ := in_words h2
      clear h2
      rw [Bool.true_or]
      simp only [Tg.infs, List.mem_cons, List.not_mem_nil, or_false] at hx
      rcases hx with rfl | rfl | rfl
      all_goals
        have hz : ∀ l, (str l).toList = l := str_toList
        go_enter Tryd.func104, Tryd.ntmps104
        go_wp2_with fail
        refine c1.mono ?_
        rintro e w1 ⟨rfl, rfl⟩
        go_wp2
        go_ret
        exact ⟨rfl, rfl⟩
  · obtain ⟨x, hx, rfl⟩ := in_words h1
    clear h1
    rw [Bool.true_or, Bool.true_or]
    simp only [Tg.nans, List.mem_cons, List.not_mem_nil, or_false] at hx
    rcases hx with rfl | rfl | rfl
    all_goals
      have hz : ∀ l, (str l).toList = l := str_toList
      go_enter Tryd.func104, Tryd.ntmps104
      go_wp2
      go_ret
      exact ⟨rfl, rfl⟩

/-- the words of the kinds, as the program has them -/
def kS : Tg.K → ByteArray
  | .nul => ⟨#[110, 117, 108, 108]⟩
  | .boo => ⟨#[98, 111, 111, 108]⟩
  | .int => ⟨#[105, 110, 116]⟩
  | .flt => ⟨#[102, 108, 111, 97, 116]⟩
  | .str => ⟨#[115, 116, 114]⟩
theorem kS_w (k : Tg.K) : (kS k).data.toList = k.w := by cases k <;> rfl

set_option maxHeartbeats 1000000 in
theorem resolve_any (s : ByteArray) (w : World) (hs : s.size ≤ 1000000) :
    Calls Tryd.prog 77 #[.string s] w fun e w' => e = .returned (.string (kS (Tg.resolve s.data.toList))) ∧ w = w' := by
  unfold Tg.resolve
  cases h1 : Tg.nulls.contains s.data.toList
  · have n1 := not_words h1
    have hnz : 0 < s.size := by
      rcases Nat.eq_zero_or_pos s.size with h | h
      · have := n1 [] (by decide); rw [ba_nil s h, Lib.toList_data] at this; exact absurd this (by decide)
      · exact h
    have hemp := ba_isEmpty s hnz
    have hnil := ba_notnil s hnz
    have a2 := n1 [126] (by decide)
    have a3 := n1 [110, 117, 108, 108] (by decide)
    have a4 := n1 [78, 117, 108, 108] (by decide)
    have a5 := n1 [78, 85, 76, 76] (by decide)
    clear n1 h1
    rw [if_neg (by simp)]
    cases h2 : Tg.bools.contains s.data.toList
    · have n2 := not_words h2
      have d1 := n2 [116, 114, 117, 101] (by decide)
      have d2 := n2 [84, 114, 117, 101] (by decide)
      have d3 := n2 [84, 82, 85, 69] (by decide)
      have d4 := n2 [102, 97, 108, 115, 101] (by decide)
      have d5 := n2 [70, 97, 108, 115, 101] (by decide)
      have d6 := n2 [70, 65, 76, 83, 69] (by decide)
      clear n2 h2
      rw [if_neg (by simp)]
      have c1 := int_any s w hs
      cases h3 : Tg.isInt s.data.toList
      · rw [h3] at c1
        clear h3
        rw [if_neg (by simp)]
        have c2 := float_any s w hs
        cases h4 : Tg.isFloat s.data.toList
        · rw [h4] at c2
          clear h4
          rw [if_neg (by simp)]
          go_enter Tryd.func77, Tryd.ntmps77
          go_wp2_with fail
          refine c1.mono ?_
          rintro e w1 ⟨rfl, rfl⟩
          go_wp2_with fail
          refine c2.mono ?_
          rintro e w1 ⟨rfl, rfl⟩
          go_wp2
          go_ret
          exact ⟨rfl, rfl⟩
        · rw [h4] at c2
          clear h4
          rw [if_pos rfl]
          go_enter Tryd.func77, Tryd.ntmps77
          go_wp2_with fail
          refine c1.mono ?_
          rintro e w1 ⟨rfl, rfl⟩
          go_wp2_with fail
          refine c2.mono ?_
          rintro e w1 ⟨rfl, rfl⟩
          go_wp2
          go_ret
          exact ⟨rfl, rfl⟩
      · rw [h3] at c1
        clear h3
        rw [if_pos rfl]
        go_enter Tryd.func77, Tryd.ntmps77
        go_wp2_with fail
        refine c1.mono ?_
        rintro e w1 ⟨rfl, rfl⟩
        go_wp2
        go_ret
        exact ⟨rfl, rfl⟩
    · obtain ⟨x, hx, rfl⟩ := in_words h2
      clear h2 a2 a3 a4 a5 hemp hnil hnz hs
      rw [if_pos rfl]
      simp only [Tg.bools, List.mem_cons, List.not_mem_nil, or_false] at hx
      rcases hx with rfl | rfl | rfl | rfl | rfl | rfl
      all_goals
        have hz : ∀ l, (str l).toList = l := str_toList
        go_enter Tryd.func77, Tryd.ntmps77
        go_wp2
        go_ret
        exact ⟨rfl, rfl⟩
  · obtain ⟨x, hx, rfl⟩ := in_words h1
    clear h1 hs
    rw [if_pos rfl]
    simp only [Tg.nulls, List.mem_cons, List.not_mem_nil, or_false] at hx
    rcases hx with rfl | rfl | rfl | rfl | rfl
    all_goals
      have hz : ∀ l, (str l).toList = l := str_toList
      go_enter Tryd.func77, Tryd.ntmps77
      go_wp2
      go_ret
      exact ⟨rfl, rfl⟩
end Tag
end Go.Proofs.YtbimjdlkffbncaaDoor
