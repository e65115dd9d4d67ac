/-
  Walk of the law ScalarPlain.
-/
import Derived.Test.YtlfmaeodkghbbaaDoorWl
import Derived.Test.YtlfmaeodkghbbaaDoorWm
namespace Go.Proofs.YtlfmaeodkghbbaaDoor
open Go.RowKit

/-- Plain at a text with something behind it -/
theorem plain_at (s p : ByteArray) (w : World) (hs : s.size ≤ 1000) (hp : p.size ≤ 1000) (hE : Env w) (b : Bool) (h : plainB (s.data.toList ++ p.data.toList) = b) :
    Calls Tryd.prog 15 #[.string (s ++ p)] w fun e w' => e = .returned (.bool b) ∧ Below w.heap.size w w' := by
  have hsz : (s ++ p).size ≤ 100000 := by rw [Lib.size_eq, app_data, List.length_append, ← Lib.size_eq, ← Lib.size_eq]; omega
  have := plain_any (s ++ p) w hsz hE
  rw [app_data, h] at this
  exact this

set_option maxHeartbeats 2000000 in
set_option maxRecDepth 100000 in
theorem plain_good (s : ByteArray) (w : World) (hs : s.size ≤ 1000) (hE : Env w) (hpl : plainB s.data.toList = true) :
    Calls Tryd.prog 7 #[.string s] w fun e w' => e = .returned (.bool true) ∧ Below w.heap.size w w' := by
  have hI := (plain_iff _).1 hpl
  have h0 : 0 < s.size := by
    rcases Nat.eq_zero_or_pos s.size with h | h
    · exact absurd (List.eq_nil_of_length_eq_zero (by rw [← Lib.size_eq]; exact h)) hI.ne
    · exact h
  have hl := ba_list s h0
  have hf := hI.first _ _ hl
  have f32 : ((s[0].toNat : Int) == 32) = false := by
    refine beq_eq_false_iff_ne.2 fun e => ?_
    have : s[0] = 32 := Sc.u8_eq 32 (by omega)
    rw [this] at hf; revert hf; decide
  have g32 : ((s[s.size - 1].toNat : Int) == 32) = false := by
    refine beq_eq_false_iff_ne.2 fun e => ?_
    have : s[s.size - 1] = 32 := Sc.u8_eq 32 (by omega)
    have h1 := hI.last1; rw [ba_last s h0, this] at h1; simp at h1
  have g58 : ((s[s.size - 1].toNat : Int) == 58) = false := by
    refine beq_eq_false_iff_ne.2 fun e => ?_
    have : s[s.size - 1] = 58 := Sc.u8_eq 58 (by omega)
    have h1 := hI.last2; rw [ba_last s h0, this] at h1; simp at h1
  have cA := alive_any w hE
  have C1 := Lib.hid (fun w1 hE1 => plain_any s w1 (by omega) hE1)
  rw [hpl] at C1
  have C2 := Lib.hid (fun w1 => containsAny_anyN s w1 (by omega))
  rw [plain_anyN _ hI] at C2
  have C3 := Lib.hid (fun w1 hE1 => con_any s ⟨#[58, 32]⟩ w1 (by omega) hE1)
  rw [show Lib.contains s.data.toList (⟨#[58, 32]⟩ : ByteArray).data.toList = false from (contains_pair 58 32 _).trans hI.pair1] at C3
  have C4 := Lib.hid (fun w1 hE1 => con_any s ⟨#[32, 35]⟩ w1 (by omega) hE1)
  rw [show Lib.contains s.data.toList (⟨#[32, 35]⟩ : ByteArray).data.toList = false from (contains_pair 32 35 _).trans hI.pair2] at C4
  have D1 := Lib.hid (fun w1 hE1 => plain_at s ⟨#[58]⟩ w1 hs (by decide) hE1 false (plain_colon _))
  have D2 := Lib.hid (fun w1 hE1 => plain_at s ⟨#[32]⟩ w1 hs (by decide) hE1 false (plain_blank _))
  have D3 := Lib.hid (fun w1 hE1 => plain_at ⟨#[32]⟩ s w1 (by decide) hs hE1 false (plain_ahead _))
  have D4 := Lib.hid (fun w1 hE1 => plain_at s ⟨#[32, 35]⟩ w1 hs (by decide) hE1 false (plain_remark _))
  have D5 := Lib.hid (fun w1 hE1 => plain_at s ⟨#[44]⟩ w1 hs (by decide) hE1 false (plain_comma _))
  have D6 := Lib.hid (fun w1 hE1 => plain_at s ⟨#[120]⟩ w1 hs (by decide) hE1 true ((plain_iff _).2 (plain_x _ hI)))
  have D7 := Lib.hid (fun w1 hE1 => plain_at s ⟨#[32, 120]⟩ w1 hs (by decide) hE1 true ((plain_iff _).2 (plain_bx _ hI)))
  have HE := Lib.hid hE
  clear hE hI hpl hl hf
  go_enter Tryd.func7, Tryd.ntmps7
  go_wp2_with fail
  refine cA.mono ?_
  rintro e w1 ⟨rfl, hb⟩
  have H := Lib.hid (HE.out.below hb)
  clear cA
  go_wp2_with fail
  refine (C1.out _ H.out).mono ?_
  rintro e w2 ⟨rfl, hb2⟩
  replace H := Lib.hid (H.out.below hb2)
  replace hb := Below.then hb hb2
  clear hb2 C1
  go_wp2_with fail
  refine (C2.out _).mono ?_
  rintro e w3 ⟨rfl, hb2⟩
  replace H := Lib.hid (H.out.below hb2)
  replace hb := Below.then hb hb2
  clear hb2 C2
  go_wp2_with fail
  refine (C3.out _ H.out).mono ?_
  rintro e w4 ⟨rfl, rfl⟩
  clear C3
  go_wp2_with fail
  refine (C4.out _ H.out).mono ?_
  rintro e w4 ⟨rfl, rfl⟩
  clear C4
  go_wp2_with fail
  refine (D1.out _ H.out).mono ?_
  rintro e w4 ⟨rfl, hb2⟩
  replace H := Lib.hid (H.out.below hb2)
  replace hb := Below.then hb hb2
  clear hb2 D1
  go_wp2_with fail
  refine (D2.out _ H.out).mono ?_
  rintro e w5 ⟨rfl, hb2⟩
  replace H := Lib.hid (H.out.below hb2)
  replace hb := Below.then hb hb2
  clear hb2 D2
  go_wp2_with fail
  refine (D3.out _ H.out).mono ?_
  rintro e w6 ⟨rfl, hb2⟩
  replace H := Lib.hid (H.out.below hb2)
  replace hb := Below.then hb hb2
  clear hb2 D3
  go_wp2_with fail
  refine (D4.out _ H.out).mono ?_
  rintro e w7 ⟨rfl, hb2⟩
  replace H := Lib.hid (H.out.below hb2)
  replace hb := Below.then hb hb2
  clear hb2 D4
  go_wp2_with fail
  refine (D5.out _ H.out).mono ?_
  rintro e w8 ⟨rfl, hb2⟩
  replace H := Lib.hid (H.out.below hb2)
  replace hb := Below.then hb hb2
  clear hb2 D5
  go_wp2_with fail
  refine (D6.out _ H.out).mono ?_
  rintro e w9 ⟨rfl, hb2⟩
  replace H := Lib.hid (H.out.below hb2)
  replace hb := Below.then hb hb2
  clear hb2 D6
  go_wp2_with fail
  refine (D7.out _ H.out).mono ?_
  rintro e w10 ⟨rfl, hb2⟩
  replace hb := Below.then hb hb2
  clear hb2 D7 H
  go_wp2
  go_ret
  exact ⟨rfl, hb⟩

set_option maxHeartbeats 1000000 in
theorem plain_walk (s : ByteArray) (w : World) (hs : s.size ≤ 9223372036854775807) (hE : Env w) :
    Calls Tryd.prog 7 #[.string s] w fun e w' => e = .returned (.bool true) ∧ Below w.heap.size w w' := by
  by_cases hbig : 1000 < s.size
  · have cA := alive_any w hE
    clear hE
    go_enter Tryd.func7, Tryd.ntmps7
    go_wp2_with (go_at_call 10; refine cA.mono ?_; rintro e w1 ⟨rfl, hb⟩)
    go_ret
    exact ⟨rfl, hb⟩
  · cases hp : plainB s.data.toList
    · have cA := alive_any w hE
      have C1 := Lib.hid (fun w1 hE1 => plain_any s w1 (by omega) hE1)
      rw [hp] at C1
      have HE := Lib.hid hE
      clear hE hp
      go_enter Tryd.func7, Tryd.ntmps7
      go_wp2_with (first | (go_at_call 10; refine cA.mono ?_; rintro e w1 ⟨rfl, hb⟩) | (go_at_call 15; refine (C1.out _ (HE.out.below hb)).mono ?_; rintro e w2 ⟨rfl, hb2⟩))
      go_ret
      exact ⟨rfl, Below.then hb hb2⟩
    · exact plain_good s w (by omega) hE hp
end Go.Proofs.YtlfmaeodkghbbaaDoor
