/-
  Walks of the document's own, Core, Right, Word, Read, Fits.
-/
import Derived.Test.YteikjhaaogamfaaRx
namespace Go.Proofs.Yteikjhaaogamfaa
open Go.RowKit

def coresO : Obj := .cells #[.string ⟨#[110, 117, 108, 108]⟩, .string ⟨#[98, 111, 111, 108]⟩, .string ⟨#[105, 110, 116]⟩, .string ⟨#[102, 108, 111, 97, 116]⟩, .string ⟨#[115, 116, 114]⟩, .string ⟨#[115, 101, 113]⟩, .string ⟨#[109, 97, 112]⟩] 9
def foursO : Obj := .cells #[.string ⟨#[110, 117, 108, 108]⟩, .string ⟨#[98, 111, 111, 108]⟩, .string ⟨#[105, 110, 116]⟩, .string ⟨#[102, 108, 111, 97, 116]⟩] 9
theorem one_cores (s : ByteArray) (w : World) (b : Nat) (hb : b = w.heap.size) : Calls Try.prog 22 #[.string s, .slice (some ⟨b, 0, none⟩) 7 7] (w.alloc coresO) fun e w' => e = .returned (.bool (Tg.cores.contains s.data.toList)) ∧ w.alloc coresO = w' :=
  hb ▸ one_new s Tg.cores w (by decide)
theorem one_fours (s : ByteArray) (w : World) (b : Nat) (hb : b = w.heap.size) : Calls Try.prog 22 #[.string s, .slice (some ⟨b, 0, none⟩) 4 4] (w.alloc foursO) fun e w' => e = .returned (.bool ([Tg.K.nul.w, Tg.K.boo.w, Tg.K.int.w, Tg.K.flt.w].contains s.data.toList)) ∧ w.alloc foursO = w' :=
  hb ▸ one_new s [Tg.K.nul.w, Tg.K.boo.w, Tg.K.int.w, Tg.K.flt.w] w (by decide)
theorem onlyN (s : ByteArray) (w : World) (hs : s.size ≤ 1000000) :
    Calls Try.prog 33 #[.string s, .string ⟨#[48, 49, 50, 51, 52, 53, 54, 55, 56, 57, 97, 98, 99, 100, 101, 102, 103, 104, 105, 106, 107, 108, 109, 110, 111, 112, 113, 114, 115, 116, 117, 118, 119, 120, 121, 122, 65, 66, 67, 68, 69, 70, 71, 72, 73, 74, 75, 76, 77, 78, 79, 80, 81, 82, 83, 84, 85, 86, 87, 88, 89, 90, 45]⟩] w fun e w' => e = .returned (.bool (Tg.only s.data.toList Tg.names)) ∧ Below w.heap.size w w' :=
  onlyR_any s ⟨#[48, 49, 50, 51, 52, 53, 54, 55, 56, 57, 97, 98, 99, 100, 101, 102, 103, 104, 105, 106, 107, 108, 109, 110, 111, 112, 113, 114, 115, 116, 117, 118, 119, 120, 121, 122, 65, 66, 67, 68, 69, 70, 71, 72, 73, 74, 75, 76, 77, 78, 79, 80, 81, 82, 83, 84, 85, 86, 87, 88, 89, 90, 45]⟩ w hs (by decide)

set_option maxHeartbeats 2000000 in
set_option maxRecDepth 100000 in
theorem ownR_any (s : ByteArray) (w : World) (hs : s.size ≤ 1000000) :
    Calls Try.prog 26 #[.string s] w fun e w' => e = .returned (.bool (Tg.ownR s.data.toList)) ∧ Below w.heap.size w w' := by
  unfold Tg.ownR
  have c1 := begins_any s ⟨#[33]⟩ w
  rw [show (⟨#[33]⟩ : ByteArray).data.toList = [33] from rfl] at c1
  rw [← Lib.size_eq]
  cases h1 : Lib.hasPrefix s.data.toList [33]
  · rw [h1] at c1
    clear h1
    rw [Bool.false_and, Bool.false_and]
    go_enter Try.func26, Try.ntmps26
    go_wp2_with fail
    refine c1.mono ?_
    rintro e w1 ⟨rfl, rfl⟩
    go_wp2
    go_ret
    exact ⟨rfl, Below.refl _ _⟩
  · have hl : 1 ≤ s.size := pre_le s ⟨#[33]⟩ h1
    rw [h1] at c1
    clear h1
    rw [Bool.true_and]
    by_cases h2 : s.size ≤ 41
    · have b1 : decide ((s.size : Int) ≤ 41) = true := decide_eq_true (by omega)
      rw [decide_eq_true h2, Bool.true_and]
      obtain ⟨T, hT⟩ : ∃ T, T = s.extract 1 s.size := ⟨_, rfl⟩
      have hTd : s.data.toList.drop 1 = T.data.toList := by rw [hT, ext_drop]
      have hTs : T.size ≤ 1000000 := by have := ext_size_le s 1; rw [← hT] at this; omega
      rw [hTd]
      have HT := Lib.hid hT
      clear hT hTd
      have CT := Lib.hid (fun w1 => onlyN T w1 hTs)
      go_enter Try.func26, Try.ntmps26
      go_wp2_with fail
      refine c1.mono ?_
      rintro e w1 ⟨rfl, rfl⟩
      go_wp2_with fail
      rw [← HT.out]
      refine (CT.out _).mono ?_
      rintro e w1 ⟨rfl, hb⟩
      go_wp2
      go_ret
      exact ⟨rfl, hb⟩
    · have b1 : decide ((s.size : Int) ≤ 41) = false := decide_eq_false (by omega)
      rw [decide_eq_false h2, Bool.false_and]
      go_enter Try.func26, Try.ntmps26
      go_wp2_with fail
      refine c1.mono ?_
      rintro e w1 ⟨rfl, rfl⟩
      go_wp2
      go_ret
      exact ⟨rfl, Below.refl _ _⟩

set_option maxHeartbeats 1000000 in
theorem coreR_any (s : ByteArray) (w : World) :
    Calls Try.prog 15 #[.string s] w fun e w' => e = .returned (.bool (Tg.core s.data.toList)) ∧ Below w.heap.size w w' := by
  unfold Tg.core
  have C1 := Lib.hid (fun w1 b hb => one_cores s w1 b hb)
  unfold coresO at C1
  obtain ⟨c, hc⟩ : ∃ c, Tg.cores.contains s.data.toList = c := ⟨_, rfl⟩
  rw [hc] at C1 ⊢
  clear hc
  go_enter Try.func15, Try.ntmps15
  go_wp2_with fail
  refine (C1.out _ _ (by simp)).mono ?_
  rintro e w1 ⟨rfl, rfl⟩
  go_wp2
  go_ret
  exact ⟨rfl, alloc_below _ _⟩

set_option maxHeartbeats 1000000 in
theorem rightR_any (s : ByteArray) (w : World) (hs : s.size ≤ 1000000) :
    Calls Try.prog 17 #[.string s] w fun e w' => e = .returned (.bool (Tg.rightR s.data.toList)) ∧ Below w.heap.size w w' := by
  unfold Tg.rightR
  have c1 := coreR_any s w
  cases h1 : Tg.core s.data.toList
  · rw [h1] at c1
    clear h1
    have C2 := Lib.hid (fun w1 => ownR_any s w1 hs)
    rw [Bool.false_or]
    go_enter Try.func17, Try.ntmps17
    go_wp2_with fail
    refine c1.mono ?_
    rintro e w1 ⟨rfl, hb⟩
    go_wp2_with fail
    refine (C2.out _).mono ?_
    rintro e w2 ⟨rfl, hb2⟩
    go_wp2
    go_ret
    exact ⟨rfl, Below.then hb hb2⟩
  · rw [h1] at c1
    clear h1
    rw [Bool.true_or]
    go_enter Try.func17, Try.ntmps17
    go_wp2_with fail
    refine c1.mono ?_
    rintro e w1 ⟨rfl, hb⟩
    go_wp2
    go_ret
    exact ⟨rfl, hb⟩

set_option maxHeartbeats 1000000 in
theorem wordR_any (s : ByteArray) (w : World) (hs : s.size ≤ 1000000) :
    Calls Try.prog 19 #[.string s] w fun e w' => e = .returned (.string (str (Tg.wordR s.data.toList))) ∧ Below w.heap.size w w' := by
  unfold Tg.wordR
  have c1 := coreR_any s w
  cases h1 : Tg.core s.data.toList
  · rw [h1] at c1
    clear h1
    have C2 := Lib.hid (fun w1 => ownR_any s w1 hs)
    rw [if_neg (by simp)]
    cases h2 : Tg.ownR s.data.toList
    · rw [h2] at C2
      clear h2
      rw [if_neg (by simp)]
      go_enter Try.func19, Try.ntmps19
      go_wp2_with fail
      refine c1.mono ?_
      rintro e w1 ⟨rfl, hb⟩
      go_wp2_with fail
      refine (C2.out _).mono ?_
      rintro e w2 ⟨rfl, hb2⟩
      go_wp2
      go_ret
      exact ⟨rfl, Below.then hb hb2⟩
    · rw [h2] at C2
      clear h2
      rw [if_pos rfl, str_eq]
      go_enter Try.func19, Try.ntmps19
      go_wp2_with fail
      refine c1.mono ?_
      rintro e w1 ⟨rfl, hb⟩
      go_wp2_with fail
      refine (C2.out _).mono ?_
      rintro e w2 ⟨rfl, hb2⟩
      go_wp2
      go_ret
      exact ⟨rfl, Below.then hb hb2⟩
  · rw [h1] at c1
    clear h1
    rw [if_pos rfl]
    go_enter Try.func19, Try.ntmps19
    go_wp2_with fail
    refine c1.mono ?_
    rintro e w1 ⟨rfl, hb⟩
    go_wp2
    go_ret
    exact ⟨ret_str (to_str (by rw [app_data]; rfl)), hb⟩

set_option maxHeartbeats 2000000 in
theorem readR_any (s : ByteArray) (w : World) (hs : s.size ≤ 1000000) :
    Calls Try.prog 13 #[.string s] w fun e w' => e = readE (Tg.readR s.data.toList) ∧ Below w.heap.size w w' := by
  unfold Tg.readR
  have c1 := begins_any s ⟨#[33, 33]⟩ w
  rw [show (⟨#[33, 33]⟩ : ByteArray).data.toList = [33, 33] from rfl] at c1
  -- which text is held against its word
  obtain ⟨T, hTd, hTc⟩ : ∃ T : ByteArray, (if Lib.hasPrefix s.data.toList [33, 33] = true then s.data.toList.drop 2 else s.data.toList) = T.data.toList ∧ ((Lib.hasPrefix s.data.toList [33, 33] = true ∧ T = s.extract 2 s.size) ∨ (Lib.hasPrefix s.data.toList [33, 33] = false ∧ T = s)) := by
    cases h : Lib.hasPrefix s.data.toList [33, 33]
    · exact ⟨s, by simp, Or.inr ⟨rfl, rfl⟩⟩
    · exact ⟨s.extract 2 s.size, by rw [ext_drop]; simp, Or.inl ⟨rfl, rfl⟩⟩
  rw [hTd]
  have hTs : T.size ≤ 1000000 := by
    rcases hTc with ⟨_, rfl⟩ | ⟨_, rfl⟩
    · have := ext_size_le s 2; omega
    · exact hs
  have C2 := Lib.hid (fun w1 => wordR_any T w1 hTs)
  obtain ⟨Wd, hWd⟩ : ∃ Wd, Wd = str (Tg.wordR T.data.toList) := ⟨_, rfl⟩
  have hWl : Tg.wordR T.data.toList = Wd.data.toList := by rw [hWd]; rfl
  rw [← hWd] at C2
  rw [hWl]
  clear hWd hWl hTd
  -- how it ends
  by_cases h0 : T.size = 0
  · have e0 : T.data.toList = [] := by rw [ba_nil T h0]
    rw [if_pos (Or.inl e0)]
    unfold readE
    simp only [Option.getD_none, Option.isSome_none, if_false, Bool.false_eq_true]
    clear e0 C2
    rcases hTc with ⟨h1, hT⟩ | ⟨h1, rfl⟩
    · have hl : 2 ≤ s.size := pre_le s ⟨#[33, 33]⟩ h1
      rw [h1] at c1
      have hz : s.extract 2 s.size = ⟨#[]⟩ := by rw [← hT]; exact ba_nil T h0
      clear h1 hT h0
      go_enter Try.func13, Try.ntmps13
      go_wp2_with fail
      refine c1.mono ?_
      rintro e w1 ⟨rfl, rfl⟩
      go_wp2
      go_ret2
      exact ⟨rfl, Below.refl _ _⟩
    · obtain rfl := ba_nil T h0
      rw [h1] at c1
      clear h1 h0
      go_enter Try.func13, Try.ntmps13
      go_wp2_with fail
      refine c1.mono ?_
      rintro e w1 ⟨rfl, rfl⟩
      go_wp2
      go_ret2
      exact ⟨rfl, Below.refl _ _⟩
  · have hp0 : 0 < T.size := by omega
    have hemp := ba_isEmpty T hp0
    have hnil := ba_notnil T hp0
    have e0 : ¬ T.data.toList = [] := by rw [← Lib.toList_data]; exact hnil
    by_cases he : Wd = s
    · subst he
      rw [if_neg (by simp [e0])]
      unfold readE
      simp only [Option.getD_some, Option.isSome_some, if_true, str_eq]
      clear e0 h0
      rcases hTc with ⟨h1, hT⟩ | ⟨h1, rfl⟩
      · have hl : 2 ≤ Wd.size := pre_le Wd ⟨#[33, 33]⟩ h1
        rw [h1] at c1
        have HT := Lib.hid hT
        rw [hT] at hemp hnil
        clear h1 hT
        go_enter Try.func13, Try.ntmps13
        go_wp2_with fail
        refine c1.mono ?_
        rintro e w1 ⟨rfl, rfl⟩
        go_wp2_with fail
        rw [← HT.out]
        refine (C2.out _).mono ?_
        rintro e w1 ⟨rfl, hb⟩
        go_wp2
        go_ret2
        exact ⟨rfl, hb⟩
      · rw [h1] at c1
        clear h1
        go_enter Try.func13, Try.ntmps13
        go_wp2_with fail
        refine c1.mono ?_
        rintro e w1 ⟨rfl, rfl⟩
        go_wp2_with fail
        refine (C2.out _).mono ?_
        rintro e w1 ⟨rfl, hb⟩
        go_wp2
        go_ret2
        exact ⟨rfl, hb⟩
    · have he' : Wd.data.toList ≠ s.data.toList := fun x => he (str_inj x)
      have b1 : (Wd.toList == s.toList) = false := by rw [Lib.toList_data, Lib.toList_data]; simpa using he'
      have b2 : (Wd.toList != s.toList) = true := by rw [Lib.toList_data, Lib.toList_data]; simpa using he'
      rw [if_pos (Or.inr he')]
      unfold readE
      simp only [Option.getD_none, Option.isSome_none, if_false, Bool.false_eq_true]
      clear he he' e0 h0
      rcases hTc with ⟨h1, hT⟩ | ⟨h1, rfl⟩
      · have hl : 2 ≤ s.size := pre_le s ⟨#[33, 33]⟩ h1
        rw [h1] at c1
        have HT := Lib.hid hT
        rw [hT] at hemp hnil
        clear h1 hT
        go_enter Try.func13, Try.ntmps13
        go_wp2_with fail
        refine c1.mono ?_
        rintro e w1 ⟨rfl, rfl⟩
        go_wp2_with fail
        rw [← HT.out]
        refine (C2.out _).mono ?_
        rintro e w1 ⟨rfl, hb⟩
        go_wp2
        go_ret2
        exact ⟨rfl, hb⟩
      · rw [h1] at c1
        clear h1
        go_enter Try.func13, Try.ntmps13
        go_wp2_with fail
        refine c1.mono ?_
        rintro e w1 ⟨rfl, rfl⟩
        go_wp2_with fail
        refine (C2.out _).mono ?_
        rintro e w1 ⟨rfl, hb⟩
        go_wp2
        go_ret2
        exact ⟨rfl, hb⟩

set_option maxHeartbeats 4000000 in
set_option maxRecDepth 100000 in
theorem fitsR_any (t s : ByteArray) (w : World) (ht : t.size ≤ 1000000) (hs : s.size ≤ 1000000) :
    Calls Try.prog 11 #[.string t, .string s] w fun e w' => e = .returned (.bool (Tg.fitsR t.data.toList s.data.toList)) ∧ Below w.heap.size w w' := by
  unfold Tg.fitsR
  have C1 := Lib.hid (fun w1 => ownR_any t w1 ht)
  have C2 := Lib.hid (fun w1 => resolveR_any s w1 hs)
  have C3 := Lib.hid (fun w1 b hb => one_fours t w1 b hb)
  unfold foursO at C3
  generalize Tg.resolveR s.data.toList = k at C2
  by_cases h1 : t.data.toList = Tg.K.str.w
  · rw [if_pos (Or.inl h1)]
    obtain rfl := to_str h1
    clear h1 ht C1 C2 C3
    have hz : ∀ l, (str l).toList = l := str_toList
    unfold Tg.K.w at *
    go_enter Try.func11, Try.ntmps11
    go_wp2
    go_ret
    exact ⟨rfl, Below.refl _ _⟩
  · have a1 : (t.toList == [115, 116, 114]) = false := by rw [Lib.toList_data]; exact beq_words _ _ h1
    cases h2 : Tg.ownR t.data.toList
    · rw [h2] at C1
      rw [if_neg (by simp [h1])]
      clear h1 h2
      cases h3 : [Tg.K.nul.w, Tg.K.boo.w, Tg.K.int.w, Tg.K.flt.w].contains t.data.toList
      · rw [h3] at C3
        clear h3
        rw [Bool.false_and]
        go_enter Try.func11, Try.ntmps11
        go_wp2_with fail
        refine (C1.out _).mono ?_
        rintro e w1 ⟨rfl, hb⟩
        go_wp2_with fail
        refine (C2.out _).mono ?_
        rintro e w2 ⟨rfl, hb2⟩
        go_wp2_with fail
        refine (C3.out _ _ (by simp)).mono ?_
        rintro e w3 ⟨rfl, rfl⟩
        go_wp2
        go_ret
        exact ⟨rfl, Below.then (Below.then hb hb2) (alloc_below _ _)⟩
      · rw [h3] at C3
        rw [Bool.true_and]
        obtain ⟨x, hx, rfl⟩ := in_words h3
        clear h3 a1 ht
        have hz : ∀ l, (str l).toList = l := str_toList
        simp only [List.mem_cons, List.not_mem_nil, or_false] at hx
        rcases hx with rfl | rfl | rfl | rfl
        all_goals cases k
        all_goals
          unfold kS at C2
          unfold Tg.K.w at *
          go_enter Try.func11, Try.ntmps11
          go_wp2_with fail
          refine (C1.out _).mono ?_
          rintro e w1 ⟨rfl, hb⟩
          go_wp2_with fail
          refine (C2.out _).mono ?_
          rintro e w2 ⟨rfl, hb2⟩
          go_wp2_with fail
          refine (C3.out _ _ (by simp)).mono ?_
          rintro e w3 ⟨rfl, rfl⟩
          go_wp2
          go_ret
          exact ⟨rfl, Below.then (Below.then hb hb2) (alloc_below _ _)⟩
    · rw [h2] at C1
      rw [if_pos (Or.inr rfl)]
      clear h1 h2
      go_enter Try.func11, Try.ntmps11
      go_wp2_with fail
      refine (C1.out _).mono ?_
      rintro e w1 ⟨rfl, hb⟩
      go_wp2
      go_ret
      exact ⟨rfl, hb⟩
end Go.Proofs.Yteikjhaaogamfaa
