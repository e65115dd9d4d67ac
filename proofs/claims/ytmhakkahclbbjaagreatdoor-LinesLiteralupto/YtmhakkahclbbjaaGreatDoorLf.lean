/-
  Walks of lines: Indent, isBlank, isMark, markOf.
-/
import Derived.Test.YtmhakkahclbbjaaGreatDoorLb
import Derived.Test.YtmhakkahclbbjaaGreatDoorLe
import Derived.Test.YtmhakkahclbbjaaGreatDoorSa
namespace Go.Proofs.YtmhakkahclbbjaaGreatDoor
open Go.RowKit

set_option maxHeartbeats 1000000 in
theorem indent_any (s : ByteArray) (w : World) (hs : s.size ≤ 1000000000) :
    Calls Tryz.prog 18 #[.string s] w fun e w' => e = .returned (.int .i64 (Lx.blanks s.data.toList : Nat)) ∧ w = w' := by
  have cT := fun w => Tryz.strings_TrimLeft_one s 32 (by decide) w
  have hl := Lx.blanks_trim s.data.toList
  rw [ba_len] at hl
  generalize Lib.trimLeftB s.data.toList 32 = Y at *
  have hY : (⟨Y.toArray⟩ : ByteArray).size = Y.length := by show Y.toArray.size = _; simp
  have HT := Lib.hid cT
  generalize Lx.blanks s.data.toList = B at *
  clear cT
  go_enter Tryz.func18, Tryz.ntmps18
  go_wp2_with (go_at_call 17; refine (HT.out _).mono ?_; rintro e w' ⟨rfl, rfl⟩)
  go_ret
  exact ⟨ret_int (by first | omega | (rw [hY]; omega) | (simp [hY]; omega)), rfl⟩

set_option maxHeartbeats 1000000 in
theorem blank_any (s : ByteArray) (w : World) (hs : s.size ≤ 1000000000) :
    Calls Tryz.prog 44 #[.string s] w fun e w' => e = .returned (.bool (Lx.blank s.data.toList)) ∧ w = w' := by
  have cI := fun w => indent_any s w hs
  unfold Lx.blank
  rw [ba_len]
  generalize Lx.blanks s.data.toList = B at *
  have HI := Lib.hid cI
  clear cI
  go_enter Tryz.func44, Tryz.ntmps44
  go_wp2_with (go_at_call 18; refine (HI.out _).mono ?_; rintro e w' ⟨rfl, rfl⟩)
  go_ret
  exact ⟨ret_bool (by rw [Bool.eq_iff_iff]; simp; omega), rfl⟩

theorem trim_len (l p : List UInt8) : (Lib.trimPrefix l p).length ≤ l.length := by
  unfold Lib.trimPrefix
  split
  · rw [List.length_drop]; omega
  · exact Nat.le_refl _

set_option maxHeartbeats 1000000 in
theorem mark1_any (s p : ByteArray) (w : World) (hs : s.size ≤ 1000000000) :
    Calls Tryz.prog 62 #[.string s, .string p] w fun e w' => e = .returned (.bool (Lx.isMark s.data.toList p.data.toList)) ∧ w = w' := by
  have cC := fun w => Tryz.strings_CutPrefix s p w
  unfold Lx.isMark
  have hle := trim_len s.data.toList p.data.toList
  rw [ba_len] at hle
  generalize Lib.trimPrefix s.data.toList p.data.toList = R at *
  generalize Lib.hasPrefix s.data.toList p.data.toList = F at *
  obtain ⟨r, hr⟩ : ∃ r : ByteArray, r = ⟨R.toArray⟩ := ⟨_, rfl⟩
  have hR : R = r.data.toList := by rw [hr]
  rw [← hr] at cC
  subst hR
  clear hr
  rw [ba_len] at hle
  have cB := fun w => blank_any r w (by omega)
  have cI := fun w => indent_any r w (by omega)
  have HC := Lib.hid cC
  have HB := Lib.hid cB
  have HI := Lib.hid cI
  clear cC cB cI
  cases F
  · go_enter Tryz.func62, Tryz.ntmps62
    go_wp2_with (go_at_call 87; refine (HC.out _).mono ?_; rintro e w' ⟨rfl, rfl⟩)
    go_ret
    exact ⟨rfl, rfl⟩
  · rw [Bool.true_and]
    by_cases hb : Lx.blank r.data.toList = true
    · have HB' := HB
      rw [hb] at HB'
      rw [hb, Bool.true_or]
      clear HB
      go_enter Tryz.func62, Tryz.ntmps62
      go_wp2_with (first
        | (go_at_call 87; refine (HC.out _).mono ?_; rintro e w' ⟨rfl, rfl⟩)
        | (go_at_call 44; refine (HB'.out _).mono ?_; rintro e w' ⟨rfl, rfl⟩))
      go_ret
      exact ⟨rfl, rfl⟩
    · have hb' : Lx.blank r.data.toList = false := by simpa using hb
      have hlt : Lx.blanks r.data.toList < r.size := by
        have h1 := Lx.blanks_le r.data.toList
        rw [ba_len] at h1
        unfold Lx.blank at hb'
        rw [ba_len] at hb'
        have := beq_eq_false_iff_ne.1 hb'
        omega
      generalize Lx.blanks r.data.toList = K at *
      rw [hb', Bool.false_or, Lx.getD_at r 0 (by omega), Lx.getD_at r K hlt]
      have HB' := HB
      rw [hb'] at HB'
      clear HB hb hb'
      unfold Lx.isB
      have h0 : 0 < r.size := by omega
      go_enter Tryz.func62, Tryz.ntmps62
      go_wp2_with (first
        | (go_at_call 87; refine (HC.out _).mono ?_; rintro e w' ⟨rfl, rfl⟩)
        | (go_at_call 44; refine (HB'.out _).mono ?_; rintro e w' ⟨rfl, rfl⟩)
        | (go_at_call 18; refine (HI.out _).mono ?_; rintro e w' ⟨rfl, rfl⟩))
      all_goals go_ret
      all_goals exact ⟨ret_bool (by clear HC HB' HI; simp_all), rfl⟩

set_option maxHeartbeats 1000000 in
theorem mark_any (s : ByteArray) (w : World) (hs : s.size ≤ 1000000000) :
    Calls Tryz.prog 42 #[.string s] w fun e w' => e = .returned (.int .i64 (Lx.markOf s.data.toList : Nat)) ∧ w = w' := by
  unfold Lx.markOf
  go_enter Tryz.func42, Tryz.ntmps42
  go_wp2_with (go_at_call 62; refine (mark1_any _ _ _ hs).mono ?_; rintro e w' ⟨rfl, rfl⟩)
  all_goals go_ret
  all_goals exact ⟨ret_int (by simp_all), rfl⟩
end Go.Proofs.YtmhakkahclbbjaaGreatDoor
