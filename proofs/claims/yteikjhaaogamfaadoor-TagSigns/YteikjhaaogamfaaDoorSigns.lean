/-
  Walk of the law TagSigns.
-/
import Derived.Test.YteikjhaaogamfaaDoorWe
import Derived.Test.YteikjhaaogamfaaDoorSa
namespace Go.Proofs.YteikjhaaogamfaaDoor
open Go.RowKit

theorem trim_all (l cs : List UInt8) (h : Lib.trimS l cs = []) : ∀ x ∈ l, cs.contains x = true := by
  unfold Lib.trimS Lib.trimLeftS Lib.trimRightS at h
  intro x hx
  have hall : ∀ (p : UInt8 → Bool) (m : List UInt8), m.dropWhile p = [] → ∀ y ∈ m, p y = true := by
    intro p m
    induction m with
    | nil => intro _ y hy; cases hy
    | cons a t ih =>
      intro hd y hy
      rw [List.dropWhile_cons] at hd
      split at hd
      · rename_i ha
        rw [List.mem_cons] at hy
        rcases hy with rfl | hy
        · exact ha
        · exact ih hd y hy
      · cases hd
  have h1 := hall _ _ h
  have hx' : x ∈ l.reverse.takeWhile (cs.contains ·) ++ l.reverse.dropWhile (cs.contains ·) := by
    rw [List.takeWhile_append_dropWhile]; simpa using hx
  rw [List.mem_append] at hx'
  rcases hx' with hx' | hx'
  · have := List.all_takeWhile (p := fun y => cs.contains y) (l := l.reverse)
    rw [List.all_eq_true] at this
    exact this x hx'
  · exact h1 x (by simpa using hx')
theorem res_at (s : ByteArray) (k : Tg.K) (w : World) (hs : s.size ≤ 1000000) (h : Tg.resolve s.data.toList = k) :
    Calls Tryd.prog 6 #[.string s] w fun e w' => e = .returned (.string (kS k)) ∧ w = w' := by
  have c := resolve_any s w hs
  rw [h] at c
  exact c
theorem add_size (a s : ByteArray) : (a ++ s).size = a.size + s.size := by
  rw [Lib.size_eq, app_data, List.length_append, ← Lib.size_eq, ← Lib.size_eq]
theorem trim_cut (s : ByteArray) (w : World) (hs : s.size ≤ 400) :
    Calls Tryd.prog 5 #[.string s, .string ⟨#[48, 49, 50, 51, 52, 53, 54, 55, 56, 57, 46]⟩] w fun e w' => e = .returned (.string (str (Lib.trimS s.data.toList Tg.dp))) ∧ Below w.heap.size w w' :=
  Tryd.strings_Trim s ⟨#[48, 49, 50, 51, 52, 53, 54, 55, 56, 57, 46]⟩ w (by omega) (by decide) (ascii_of_all (by decide))

set_option maxHeartbeats 4000000 in
set_option maxRecDepth 100000 in
theorem signs_walk (s : ByteArray) (w : World) (_hs : s.size ≤ 9223372036854775807) :
    Calls Tryd.prog 3 #[.string s] w fun e w' => e = .returned (.bool true) ∧ Below w.heap.size w w' := by
  have cA := alive_any w
  by_cases hbig : 400 < s.size
  · have b0 : decide ((400 : Int) < (s.size : Int)) = true := decide_eq_true (by omega)
    go_enter Tryd.func3, Tryd.ntmps3
    go_wp2_with fail
    refine cA.mono ?_
    rintro e w1 ⟨rfl, hb⟩
    go_wp2
    go_ret
    exact ⟨rfl, hb⟩
  have b0 : decide ((400 : Int) < (s.size : Int)) = false := decide_eq_false (by omega)
  have hs : s.size ≤ 400 := by omega
  clear hbig _hs
  by_cases h0 : s.size = 0
  · obtain rfl := ba_nil s h0
    clear h0
    go_enter Tryd.func3, Tryd.ntmps3
    go_wp2_with fail
    refine cA.mono ?_
    rintro e w1 ⟨rfl, hb⟩
    go_wp2
    go_ret
    exact ⟨rfl, hb⟩
  have hp : 0 < s.size := by omega
  have hemp := ba_isEmpty s hp
  have hnil := ba_notnil s hp
  have CT := Lib.hid (fun w1 => trim_cut s w1 hs)
  obtain ⟨T, hT⟩ : ∃ T : ByteArray, T = str (Lib.trimS s.data.toList Tg.dp) := ⟨_, rfl⟩
  rw [← hT] at CT
  by_cases hz : T.size = 0
  · have hall := trim_all s.data.toList Tg.dp (by rw [ba_nil T hz] at hT; exact (congrArg (fun x : ByteArray => x.data.toList) hT).symm)
    have hne : s.data.toList ≠ [] := by rw [← Lib.toList_data]; exact hnil
    obtain ⟨k, hk⟩ : ∃ k, Tg.resolve s.data.toList = k := ⟨_, rfl⟩
    obtain rfl := ba_nil T hz
    have C1 := Lib.hid (fun w1 => res_at s k w1 (by omega) hk)
    have C2 := Lib.hid (fun w1 => res_at (⟨#[45]⟩ ++ s) k w1 (by rw [add_size]; show 1 + s.size ≤ 1000000; omega) (by rw [app_data, ← hk]; exact Tg.sign_same _ 45 (Or.inr rfl) hne hall))
    have C3 := Lib.hid (fun w1 => res_at (⟨#[43]⟩ ++ s) k w1 (by rw [add_size]; show 1 + s.size ≤ 1000000; omega) (by rw [app_data, ← hk]; exact Tg.sign_same _ 43 (Or.inl rfl) hne hall))
    have C4 := Lib.hid (fun w1 => res_at (⟨#[43, 45]⟩ ++ s) .str w1 (by rw [add_size]; show 2 + s.size ≤ 1000000; omega) (by rw [app_data]; exact Tg.sign_two _))
    have C5 := Lib.hid (fun w1 => res_at (⟨#[32]⟩ ++ s) .str w1 (by rw [add_size]; show 1 + s.size ≤ 1000000; omega) (by rw [app_data]; exact Tg.blank_one _))
    clear hk hne hall hT hz h0
    generalize kS k = R at C1 C2 C3
    unfold kS at C4 C5
    go_enter Tryd.func3, Tryd.ntmps3
    go_wp2_with fail
    refine cA.mono ?_
    rintro e w1 ⟨rfl, hb⟩
    go_wp2_with fail
    refine (CT.out w1).mono ?_
    rintro e w2 ⟨rfl, hb2⟩
    replace hb := Below.then hb hb2
    clear hb2
    go_wp2_with fail
    refine (C1.out w2).mono ?_
    rintro e w3 ⟨rfl, rfl⟩
    go_wp2_with fail
    refine (C2.out w2).mono ?_
    rintro e w3 ⟨rfl, rfl⟩
    go_wp2_with fail
    refine (C3.out w2).mono ?_
    rintro e w3 ⟨rfl, rfl⟩
    go_wp2_with fail
    refine (C4.out w2).mono ?_
    rintro e w3 ⟨rfl, rfl⟩
    go_wp2_with fail
    refine (C5.out w2).mono ?_
    rintro e w3 ⟨rfl, rfl⟩
    go_wp2
    go_ret
    exact ⟨rfl, hb⟩
  · have t1 := ba_isEmpty T (by omega)
    have t2 := ba_notnil T (by omega)
    clear hT hz h0
    go_enter Tryd.func3, Tryd.ntmps3
    go_wp2_with fail
    refine cA.mono ?_
    rintro e w1 ⟨rfl, hb⟩
    go_wp2_with fail
    refine (CT.out w1).mono ?_
    rintro e w2 ⟨rfl, hb2⟩
    replace hb := Below.then hb hb2
    clear hb2
    go_wp2
    go_ret
    exact ⟨rfl, hb⟩
end Go.Proofs.YteikjhaaogamfaaDoor
