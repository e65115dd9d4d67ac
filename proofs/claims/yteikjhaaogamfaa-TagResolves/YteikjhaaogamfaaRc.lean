/-
  Walks of the document's fraction and whole.
-/
import Derived.Test.YteikjhaaogamfaaRb
namespace Go.Proofs.Yteikjhaaogamfaa
open Go.RowKit

theorem onlyD (s : ByteArray) (w : World) (hs : s.size ≤ 1000000) :
    Calls Try.prog 33 #[.string s, .string ⟨#[48, 49, 50, 51, 52, 53, 54, 55, 56, 57]⟩] w fun e w' => e = .returned (.bool (Tg.only s.data.toList Tg.digs)) ∧ Below w.heap.size w w' :=
  onlyR_any s ⟨#[48, 49, 50, 51, 52, 53, 54, 55, 56, 57]⟩ w hs (by decide)
theorem onlyO (s : ByteArray) (w : World) (hs : s.size ≤ 1000000) :
    Calls Try.prog 33 #[.string s, .string ⟨#[48, 49, 50, 51, 52, 53, 54, 55]⟩] w fun e w' => e = .returned (.bool (Tg.only s.data.toList Tg.octs)) ∧ Below w.heap.size w w' :=
  onlyR_any s ⟨#[48, 49, 50, 51, 52, 53, 54, 55]⟩ w hs (by decide)
theorem onlyX (s : ByteArray) (w : World) (hs : s.size ≤ 1000000) :
    Calls Try.prog 33 #[.string s, .string ⟨#[48, 49, 50, 51, 52, 53, 54, 55, 56, 57, 97, 98, 99, 100, 101, 102, 65, 66, 67, 68, 69, 70]⟩] w fun e w' => e = .returned (.bool (Tg.only s.data.toList Tg.hexs)) ∧ Below w.heap.size w w' :=
  onlyR_any s ⟨#[48, 49, 50, 51, 52, 53, 54, 55, 56, 57, 97, 98, 99, 100, 101, 102, 65, 66, 67, 68, 69, 70]⟩ w hs (by decide)

theorem take_size_le (s : ByteArray) (k : Nat) : (s.extract 0 k).size ≤ s.size := by
  rw [Lib.size_eq, ext_take, List.length_take, ← Lib.size_eq]; omega

set_option maxHeartbeats 2000000 in
set_option maxRecDepth 100000 in
theorem fraction_any (s : ByteArray) (w : World) (hs : s.size ≤ 1000000) :
    Calls Try.prog 36 #[.string s] w fun e w' => e = .returned (.bool (Tg.fractionR s.data.toList)) ∧ Below w.heap.size w w' := by
  unfold Tg.fractionR
  have c1 := find_any s 46 46 46 46 rfl rfl w hs
  have hpl : Tg.find 46 46 s.data.toList ≤ s.size := by rw [Lib.size_eq]; exact Tg.find_le _ _ _
  obtain ⟨p, hp⟩ : ∃ p, Tg.find 46 46 s.data.toList = p := ⟨_, rfl⟩
  rw [hp] at c1 hpl ⊢
  clear hp
  rw [← Lib.size_eq]
  by_cases h1 : p = s.size
  · rw [if_pos h1]
    have b1 : ((p : Int) == (s.size : Int)) = true := beq_iff_eq.2 (by omega)
    have c2 := onlyD s w hs
    clear h1
    go_enter Try.func36, Try.ntmps36
    go_wp2_with fail
    refine c1.mono ?_
    rintro e w1 ⟨rfl, rfl⟩
    go_wp2_with fail
    refine c2.mono ?_
    rintro e w1 ⟨rfl, hb⟩
    go_wp2
    go_ret
    exact ⟨rfl, hb⟩
  · rw [if_neg h1]
    have b1 : ((p : Int) == (s.size : Int)) = false := beq_eq_false_iff_ne.2 (by omega)
    have hps : p < s.size := by omega
    obtain ⟨T, hT⟩ : ∃ T, T = s.extract (p + 1) s.size := ⟨_, rfl⟩
    have hTd : s.data.toList.drop (p + 1) = T.data.toList := by rw [hT, ext_drop]
    have hTs : T.size ≤ 1000000 := by have := ext_size_le s (p + 1); rw [← hT] at this; omega
    rw [hTd]
    have HT := Lib.hid hT
    clear hT hTd h1
    have CT := Lib.hid (fun w1 => onlyD T w1 hTs)
    by_cases h2 : p = 0
    · rw [if_pos h2]
      have b2 : ((p : Int) == 0) = true := beq_iff_eq.2 (by omega)
      have b3 : (p == 0) = true := beq_iff_eq.2 h2
      clear h2
      go_enter Try.func36, Try.ntmps36
      go_wp2_with fail
      refine c1.mono ?_
      rintro e w1 ⟨rfl, rfl⟩
      go_wp2_with fail
      rw [← HT.out]
      refine (CT.out _).mono ?_
      rintro e w1 ⟨rfl, hb⟩
      go_wp2
      go_ret
      exact ⟨rfl, hb⟩
    · rw [if_neg h2]
      have b2 : ((p : Int) == 0) = false := beq_eq_false_iff_ne.2 (by omega)
      have b3 : (p == 0) = false := beq_eq_false_iff_ne.2 h2
      obtain ⟨H, hH⟩ : ∃ H, H = s.extract 0 p := ⟨_, rfl⟩
      have hHd : s.data.toList.take p = H.data.toList := by rw [hH, ext_take]
      have hHs : H.size ≤ 1000000 := by have := take_size_le s p; rw [← hH] at this; omega
      rw [hHd]
      have HH := Lib.hid hH
      clear hH hHd
      have CH := Lib.hid (fun w1 => onlyD H w1 hHs)
      cases ho : Tg.only H.data.toList Tg.digs
      · rw [ho] at CH
        clear ho
        rw [Bool.false_and]
        go_enter Try.func36, Try.ntmps36
        go_wp2_with fail
        refine c1.mono ?_
        rintro e w1 ⟨rfl, rfl⟩
        go_wp2_with fail
        rw [← HH.out]
        refine (CH.out _).mono ?_
        rintro e w1 ⟨rfl, hb⟩
        go_wp2
        go_ret
        exact ⟨rfl, hb⟩
      · rw [ho] at CH
        clear ho
        rw [Bool.true_and]
        by_cases h0 : T.size = 0
        · have HZ : Hid (s.extract (p + 1) s.size = ⟨#[]⟩) := by rw [HT.out] at h0; exact ba_nil _ h0
          obtain rfl := ba_nil T h0
          clear h0 CT
          have hz := HZ.out
          go_enter Try.func36, Try.ntmps36
          go_wp2_with fail
          refine c1.mono ?_
          rintro e w1 ⟨rfl, rfl⟩
          go_wp2_with fail
          rw [← HH.out]
          refine (CH.out _).mono ?_
          rintro e w1 ⟨rfl, hb⟩
          go_wp2
          go_ret
          exact ⟨rfl, hb⟩
        · have hp0 : 0 < T.size := by omega
          have hemp := ba_isEmpty T hp0
          have hnil := ba_notnil T hp0
          have g : T.data.toList.isEmpty = false := by rw [← Lib.toList_data]; exact hemp
          rw [g, Bool.false_or]
          clear g h0
          rw [HT.out] at hemp hnil
          go_enter Try.func36, Try.ntmps36
          go_wp2_with fail
          refine c1.mono ?_
          rintro e w1 ⟨rfl, rfl⟩
          go_wp2_with fail
          rw [← HH.out]
          refine (CH.out _).mono ?_
          rintro e w1 ⟨rfl, hb⟩
          go_wp2_with fail
          rw [← HT.out]
          refine (CT.out _).mono ?_
          rintro e w2 ⟨rfl, hb2⟩
          go_wp2
          go_ret
          exact ⟨rfl, Below.then hb hb2⟩

/-- the document's only behind its bare -/
theorem bareOnly (t : ByteArray) (w : World) (ht : t.size ≤ 1000000) :
    Calls Try.prog 33 #[.string (str (Tg.bare t.data.toList)), .string ⟨#[48, 49, 50, 51, 52, 53, 54, 55, 56, 57]⟩] w fun e w' => e = .returned (.bool (Tg.only (Tg.bare t.data.toList) Tg.digs)) ∧ Below w.heap.size w w' :=
  onlyD (str (Tg.bare t.data.toList)) w (by rw [str_size]; have := bare_le t.data.toList; rw [← Lib.size_eq] at this; omega)

set_option maxHeartbeats 2000000 in
set_option maxRecDepth 100000 in
theorem whole_any (s : ByteArray) (w : World) (hs : s.size ≤ 1000000) :
    Calls Try.prog 23 #[.string s] w fun e w' => e = .returned (.bool (Tg.wholeR s.data.toList)) ∧ Below w.heap.size w w' := by
  unfold Tg.wholeR
  have c1 := bareR_any s w
  have c2 := bareOnly s w hs
  cases h1 : Tg.only (Tg.bare s.data.toList) Tg.digs
  · rw [h1] at c2
    clear h1
    rw [if_neg (by simp)]
    have C3 := Lib.hid (fun w1 => begins_any s ⟨#[48, 111]⟩ w1)
    cases h2 : Lib.hasPrefix s.data.toList [48, 111]
    · rw [show (⟨#[48, 111]⟩ : ByteArray).data.toList = [48, 111] from rfl, h2] at C3
      clear h2
      rw [if_neg (by simp)]
      have C4 := Lib.hid (fun w1 => begins_any s ⟨#[48, 120]⟩ w1)
      cases h3 : Lib.hasPrefix s.data.toList [48, 120]
      · rw [show (⟨#[48, 120]⟩ : ByteArray).data.toList = [48, 120] from rfl, h3] at C4
        clear h3
        rw [Bool.false_and]
        go_enter Try.func23, Try.ntmps23
        go_wp2_with fail
        refine c1.mono ?_
        rintro e w1 ⟨rfl, rfl⟩
        go_wp2_with fail
        refine c2.mono ?_
        rintro e w1 ⟨rfl, hb⟩
        go_wp2_with fail
        refine (C3.out _).mono ?_
        rintro e w2 ⟨rfl, rfl⟩
        go_wp2_with fail
        refine (C4.out _).mono ?_
        rintro e w2 ⟨rfl, rfl⟩
        go_wp2
        go_ret
        exact ⟨rfl, hb⟩
      · have hl : 2 ≤ s.size := pre_le s ⟨#[48, 120]⟩ h3
        rw [show (⟨#[48, 120]⟩ : ByteArray).data.toList = [48, 120] from rfl, h3] at C4
        clear h3
        rw [Bool.true_and]
        obtain ⟨T, hT⟩ : ∃ T, T = s.extract 2 s.size := ⟨_, rfl⟩
        have hTd : s.data.toList.drop 2 = T.data.toList := by rw [hT, ext_drop]
        have hTs : T.size ≤ 1000000 := by have := ext_size_le s 2; rw [← hT] at this; omega
        rw [hTd]
        have HT := Lib.hid hT
        clear hT hTd
        have CT := Lib.hid (fun w1 => onlyX T w1 hTs)
        go_enter Try.func23, Try.ntmps23
        go_wp2_with fail
        refine c1.mono ?_
        rintro e w1 ⟨rfl, rfl⟩
        go_wp2_with fail
        refine c2.mono ?_
        rintro e w1 ⟨rfl, hb⟩
        go_wp2_with fail
        refine (C3.out _).mono ?_
        rintro e w2 ⟨rfl, rfl⟩
        go_wp2_with fail
        refine (C4.out _).mono ?_
        rintro e w2 ⟨rfl, rfl⟩
        go_wp2_with fail
        rw [← HT.out]
        refine (CT.out _).mono ?_
        rintro e w2 ⟨rfl, hb2⟩
        go_wp2
        go_ret
        exact ⟨rfl, Below.then hb hb2⟩
    · have hl : 2 ≤ s.size := pre_le s ⟨#[48, 111]⟩ h2
      rw [show (⟨#[48, 111]⟩ : ByteArray).data.toList = [48, 111] from rfl, h2] at C3
      clear h2
      rw [if_pos rfl]
      obtain ⟨T, hT⟩ : ∃ T, T = s.extract 2 s.size := ⟨_, rfl⟩
      have hTd : s.data.toList.drop 2 = T.data.toList := by rw [hT, ext_drop]
      have hTs : T.size ≤ 1000000 := by have := ext_size_le s 2; rw [← hT] at this; omega
      rw [hTd]
      have HT := Lib.hid hT
      clear hT hTd
      have CT := Lib.hid (fun w1 => onlyO T w1 hTs)
      go_enter Try.func23, Try.ntmps23
      go_wp2_with fail
      refine c1.mono ?_
      rintro e w1 ⟨rfl, rfl⟩
      go_wp2_with fail
      refine c2.mono ?_
      rintro e w1 ⟨rfl, hb⟩
      go_wp2_with fail
      refine (C3.out _).mono ?_
      rintro e w2 ⟨rfl, rfl⟩
      go_wp2_with fail
      rw [← HT.out]
      refine (CT.out _).mono ?_
      rintro e w2 ⟨rfl, hb2⟩
      go_wp2
      go_ret
      exact ⟨rfl, Below.then hb hb2⟩
  · rw [h1] at c2
    clear h1
    rw [if_pos rfl]
    go_enter Try.func23, Try.ntmps23
    go_wp2_with fail
    refine c1.mono ?_
    rintro e w1 ⟨rfl, rfl⟩
    go_wp2_with fail
    refine c2.mono ?_
    rintro e w1 ⟨rfl, hb⟩
    go_wp2
    go_ret
    exact ⟨rfl, hb⟩

end Go.Proofs.Yteikjhaaogamfaa
