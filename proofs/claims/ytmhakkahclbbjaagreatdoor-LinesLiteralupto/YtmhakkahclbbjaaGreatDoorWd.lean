/-
  Walks of scalar.Single and Unsingle.
-/
import Derived.Test.YtmhakkahclbbjaaGreatDoorWc
import Derived.Test.YtmhakkahclbbjaaGreatDoorMd
namespace Go.Proofs.YtmhakkahclbbjaaGreatDoor
open Go.RowKit

/-- a string of bytes -/
def str (l : List UInt8) : ByteArray := ⟨l.toArray⟩
theorem str_data (l : List UInt8) : (str l).data.toList = l := rfl
theorem str_size (l : List UInt8) : (str l).size = l.length := by show l.toArray.size = _; simp
theorem str_eq (s : ByteArray) : str s.data.toList = s := by cases s; simp [str]
theorem str_toList (l : List UInt8) : (str l).toList = l := by rw [Lib.toList_data, str_data]
theorem str_inj {a b : ByteArray} (h : a.data.toList = b.data.toList) : a = b := by rw [← str_eq a, ← str_eq b, h]
theorem app_data (a b : ByteArray) : (a ++ b).data.toList = a.data.toList ++ b.data.toList := by
  rw [ByteArray.data_append]; simp
theorem str_app (a b : List UInt8) : str a ++ str b = str (a ++ b) := str_inj (by rw [app_data]; simp [str_data])

/-- what a call that answers a text, or ErrQuote, returns -/
def txtR (o : Option (List UInt8)) : Ending := .returned (.tuple #[.string (str (o.getD [])), .int .i64 (if o.isSome then 0 else 10)])
theorem txtR_some (l : List UInt8) (s : ByteArray) (h : s.data.toList = l) : Ending.returned (.tuple #[.string s, .int .i64 0]) = txtR (some l) := by
  subst h; unfold txtR; simp only [Option.getD_some, str_eq, Option.isSome_some, if_true]

theorem repl_any (s old new : ByteArray) (w : World) (hs : s.size ≤ 1000000) (hE : Env w) (h1 : 1 ≤ old.size) (hn : new.size ≤ 4) :
    Calls Tryz.prog 126 #[.string s, .string old, .string new] w fun e w' =>
      e = .returned (.string (str (Lib.replaceAll s.data.toList old.data.toList new.data.toList))) ∧ Below w.heap.size w w' := by
  obtain ⟨m, hm⟩ := hE.maxl
  refine Tryz.strings_ReplaceAll s old new m w (by omega) hm h1 ?_
  have hc : Lib.countB s old ≤ s.size + 1 := by
    have := Lib.count_le s.data.toList old.data.toList
    rw [← Lib.size_eq] at this
    exact this
  have : Lib.countB s old * new.size ≤ (s.size + 1) * 4 := Nat.mul_le_mul hc hn
  omega

/-- Single, by its bytes -/
def singleOf (l : List UInt8) : Option (List UInt8) := if oneLineB l = true then some (Sc.sq l) else none

set_option maxHeartbeats 1000000 in
theorem single_any (s : ByteArray) (w : World) (hs : s.size ≤ 100000) (hE : Env w) :
    Calls Tryz.prog 127 #[.string s] w fun e w' => e = txtR (singleOf s.data.toList) ∧ Below w.heap.size w w' := by
  have c1 := oneLine_any s w (by omega) hE
  unfold singleOf
  by_cases h : oneLineB s.data.toList = true
  · rw [if_pos h]
    rw [h] at c1
    obtain ⟨D, hD⟩ : ∃ D, D = str (Sc.dbl s.data.toList) := ⟨_, rfl⟩
    have hDs : D.size ≤ 200000 := by
      rw [hD, str_size, Sc.dbl_len, ← Lib.size_eq]
      have := List.count_le_length (a := (39 : UInt8)) (l := s.data.toList)
      rw [← Lib.size_eq] at this
      omega
    have HD := Lib.hid hD
    clear hD h
    go_enter Tryz.func127, Tryz.ntmps127
    go_wp2_with fail
    refine c1.mono ?_
    rintro e w1 ⟨rfl, hb1⟩
    go_wp2_with fail
    refine (repl_any s ⟨#[39]⟩ ⟨#[39, 39]⟩ w1 (by omega) (hE.below hb1) (by decide) (by decide)).mono ?_
    rintro e w2 ⟨rfl, hb2⟩
    have e2 : str (Lib.replaceAll s.data.toList (⟨#[39]⟩ : ByteArray).data.toList (⟨#[39, 39]⟩ : ByteArray).data.toList) = D := by
      rw [HD.out, ← Sc.rep_dbl]
    rw [e2]
    clear e2 c1
    go_wp2
    go_ret2
    refine ⟨txtR_some _ _ ?_, hb1.trans (hb2.mono hb1.size)⟩
    rw [HD.out, app_data, app_data, str_data]
    simp [Sc.sq]
  · rw [if_neg h]
    rw [Bool.eq_false_iff.2 h] at c1
    clear h
    go_enter Tryz.func127, Tryz.ntmps127
    go_wp2_with (go_at_call 132; refine c1.mono ?_; rintro e w' ⟨rfl, hb⟩)
    go_ret2
    exact ⟨rfl, hb⟩

/-- Unsingle, by its bytes -/
def unsingleOf (l : List UInt8) : Option (List UInt8) :=
  if l.length < 2 then none else
    if singleOf (Sc.undbl ((l.drop 1).take (l.length - 2))) = some l then some (Sc.undbl ((l.drop 1).take (l.length - 2))) else none

set_option maxHeartbeats 1000000 in
theorem unsingle_any (s : ByteArray) (w : World) (hs : s.size ≤ 100000) (hE : Env w) :
    Calls Tryz.prog 113 #[.string s] w fun e w' => e = txtR (unsingleOf s.data.toList) ∧ Below w.heap.size w w' := by
  unfold unsingleOf
  by_cases h2 : s.size < 2
  · rw [if_pos (by rw [← Lib.size_eq]; exact h2)]
    go_enter Tryz.func113, Tryz.ntmps113
    go_wp2
    go_ret2
    exact ⟨rfl, Below.refl _ _⟩
  · rw [if_neg (by rw [← Lib.size_eq]; exact h2)]
    obtain ⟨I, hI⟩ : ∃ I, I = s.extract 1 (s.size - 1) := ⟨_, rfl⟩
    have hId : I.data.toList = (s.data.toList.drop 1).take (s.data.toList.length - 2) := by
      rw [hI, Lib.extract_data, ← Lib.size_eq]; congr 1
    rw [← hId]
    have hIs : I.size ≤ 100000 := by
      rw [Lib.size_eq, hId, List.length_take, List.length_drop, ← Lib.size_eq]; omega
    have HI := Lib.hid hI
    clear hId hI
    obtain ⟨U, hU⟩ : ∃ U, U = str (Sc.undbl I.data.toList) := ⟨_, rfl⟩
    have hUd : U.data.toList = Sc.undbl I.data.toList := by rw [hU]; rfl
    have hUs : U.size ≤ 100000 := by
      have := Sc.undbl_len I.data.toList
      rw [Lib.size_eq, hUd]; rw [← Lib.size_eq] at this; omega
    rw [← hUd]
    have HU := Lib.hid hU
    clear hU hUd
    have e2 : str (Lib.replaceAll I.data.toList (⟨#[39, 39]⟩ : ByteArray).data.toList (⟨#[39]⟩ : ByteArray).data.toList) = U := by
      rw [HU.out, ← Sc.rep_undbl]
    have cR := repl_any I ⟨#[39, 39]⟩ ⟨#[39]⟩ w (by omega) hE (by decide) (by decide)
    rw [e2] at cR
    have cS := fun w1 (hb : Below w.heap.size w w1) => single_any U w1 hUs (hE.below hb)
    clear e2 HU hE
    cases hq : singleOf U.data.toList with
    | none =>
      rw [hq] at cS
      rw [if_neg (by simp)]
      unfold txtR at *
      simp only [Option.getD_none, Option.isSome_none, if_false, Bool.false_eq_true] at *
      clear hq
      have CS := Lib.hid cS
      clear cS
      go_enter Tryz.func113, Tryz.ntmps113
      go_wp2_with fail
      rw [← HI.out]
      refine cR.mono ?_
      rintro e w1 ⟨rfl, hb1⟩
      clear cR HI
      go_wp2_with fail
      refine (CS.out w1 hb1).mono ?_
      rintro e w2 ⟨rfl, hb2⟩
      clear CS
      go_wp2
      go_ret2
      exact ⟨rfl, hb1.trans (hb2.mono hb1.size)⟩
    | some q =>
      rw [hq] at cS
      clear hq
      obtain ⟨Q, rfl⟩ : ∃ Q : ByteArray, q = Q.data.toList := ⟨str q, rfl⟩
      by_cases he : Q = s
      · subst he
        rw [if_pos rfl]
        unfold txtR at *
        simp only [Option.getD_some, Option.isSome_some, if_true, str_eq] at *
        have CS := Lib.hid cS
        clear cS
        go_enter Tryz.func113, Tryz.ntmps113
        go_wp2_with fail
        rw [← HI.out]
        refine cR.mono ?_
        rintro e w1 ⟨rfl, hb1⟩
        clear cR HI
        go_wp2_with fail
        refine (CS.out w1 hb1).mono ?_
        rintro e w2 ⟨rfl, hb2⟩
        clear CS
        go_wp2
        go_ret2
        exact ⟨rfl, hb1.trans (hb2.mono hb1.size)⟩
      · have he' : Q.data.toList ≠ s.data.toList := fun x => he (str_inj x)
        have hb : (Q.toList == s.toList) = false := by rw [Lib.toList_data, Lib.toList_data]; simpa using he'
        have hb2 : (Q.toList != s.toList) = true := by rw [Lib.toList_data, Lib.toList_data]; simpa using he'
        rw [if_neg (by simpa using he')]
        unfold txtR at *
        simp only [Option.getD_some, Option.getD_none, Option.isSome_none, Option.isSome_some, if_true, if_false, Bool.false_eq_true, str_eq] at *
        clear he he'
        have CS := Lib.hid cS
        clear cS
        go_enter Tryz.func113, Tryz.ntmps113
        go_wp2_with fail
        rw [← HI.out]
        refine cR.mono ?_
        rintro e w1 ⟨rfl, hb1⟩
        clear cR HI
        go_wp2_with fail
        refine (CS.out w1 hb1).mono ?_
        rintro e w2 ⟨rfl, hb2⟩
        clear CS
        go_wp2
        go_ret2
        exact ⟨rfl, hb1.trans (hb2.mono hb1.size)⟩
end Go.Proofs.YtmhakkahclbbjaaGreatDoor
