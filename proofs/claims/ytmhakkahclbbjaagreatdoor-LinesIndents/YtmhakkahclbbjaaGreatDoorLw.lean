/-
  The law LinesIndents, walked.
-/
import Derived.Test.YtmhakkahclbbjaaGreatDoorLv
import Derived.Lib.Repeat
namespace Go.Proofs.YtmhakkahclbbjaaGreatDoor
namespace Lx
theorem blanks_rep (n : Nat) (l : List UInt8) : blanks (Lib.repeatL [32] n ++ l) = n + blanks l := by
  induction n with
  | zero => simp [Lib.repeatL]
  | succ n ih =>
    have e : Lib.repeatL [32] (n + 1) ++ l = 32 :: (Lib.repeatL [32] n ++ l) := rfl
    rw [e]
    have : blanks (32 :: (Lib.repeatL [32] n ++ l)) = blanks (Lib.repeatL [32] n ++ l) + 1 := rfl
    rw [this, ih]; omega
end Lx
open Go.RowKit

set_option maxHeartbeats 4000000 in
set_option maxRecDepth 100000 in
theorem indents_walk (s : ByteArray) (n : Nat) (hn : n < 256) (w : World) (hs : s.size ≤ 9223372036854775807) (hE : Env w) :
    Calls Tryz.prog 7 #[.string s, .int .u8 n] w fun e w' => e = .returned (.bool true) ∧ Below w.heap.size w w' := by
  have cA := Lib.hid (alive_any w hE)
  clear hE
  by_cases hbig : 2000 < s.size
  · have b1 : decide ((2000 : Int) < (s.size : Int)) = true := decide_eq_true (by omega)
    go_enter Tryz.func7, Tryz.ntmps7
    go_wp2_with (go_at_call 8; refine cA.out.mono ?_; rintro e w1 ⟨rfl, hb1⟩)
    go_ret
    exact ⟨rfl, hb1⟩
  · have b1 : decide ((2000 : Int) < (s.size : Int)) = false := decide_eq_false (by omega)
    have cI := Lib.hid (fun w => indent_any s w (by omega))
    have cR := Lib.hid (fun w => Tryz.strings_Repeat ⟨#[32]⟩ (n % 40) w (by omega) (by show 1 * (n % 40) ≤ _; omega))
    have hrem : (n : Int).tmod 40 = ((n % 40 : Nat) : Int) := by rw [Int.tmod_eq_emod_of_nonneg (by omega)]; omega
    obtain ⟨R, hR⟩ : ∃ R : ByteArray, R = ⟨(Lib.repeatL (⟨#[32]⟩ : ByteArray).data.toList (n % 40)).toArray⟩ := ⟨_, rfl⟩
    rw [← hR] at cR
    have hRd : R.data.toList = Lib.repeatL [32] (n % 40) := by rw [hR]
    have hRs : R.size = n % 40 := by rw [Lib.size_eq, hRd, Lib.repeatL_length]; simp
    have eR : (R ++ s).data.toList = Lib.repeatL [32] (n % 40) ++ s.data.toList := by rw [Tag.app_data, hRd]
    have eX : ((⟨#[120]⟩ : ByteArray) ++ s).data.toList = 120 :: s.data.toList := Tag.app_data _ _
    have eT : ((⟨#[9]⟩ : ByteArray) ++ s).data.toList = 9 :: s.data.toList := Tag.app_data _ _
    have zR : (R ++ s).size ≤ 1000000000 := by rw [Lib.size_eq, eR, List.length_append, Lib.repeatL_length, ba_len]; simp; omega
    have zX : ((⟨#[120]⟩ : ByteArray) ++ s).size ≤ 1000000000 := by rw [Lib.size_eq, eX, List.length_cons, ba_len]; omega
    have zT : ((⟨#[9]⟩ : ByteArray) ++ s).size ≤ 1000000000 := by rw [Lib.size_eq, eT, List.length_cons, ba_len]; omega
    have c1 := fun w => indent_any (R ++ s) w zR
    have c2 := fun w => indent_any ((⟨#[120]⟩ : ByteArray) ++ s) w zX
    have c3 := fun w => indent_any ((⟨#[9]⟩ : ByteArray) ++ s) w zT
    rw [eR, Lx.blanks_rep] at c1
    rw [eX] at c2
    rw [eT] at c3
    have C1 := Lib.hid c1
    have C2 : Hid (∀ w, Calls Tryz.prog 18 #[.string ((⟨#[120]⟩ : ByteArray) ++ s)] w fun e w' => e = .returned (.int .i64 0) ∧ w = w') := c2
    have C3 : Hid (∀ w, Calls Tryz.prog 18 #[.string ((⟨#[9]⟩ : ByteArray) ++ s)] w fun e w' => e = .returned (.int .i64 0) ∧ w = w') := c3
    have hle := Lx.blanks_le s.data.toList
    have hnot := Lx.blanks_not s.data.toList
    rw [ba_len] at hle hnot
    generalize Lx.blanks s.data.toList = K at *
    generalize hM : n % 40 = M at *
    have hM40 : M < 40 := by omega
    clear c1 c2 c3 eR eX eT zR zX zT hR hRd
    by_cases hK : K = s.size
    · subst hK
      clear hnot
      go_enter Tryz.func7, Tryz.ntmps7
      go_wp2_with (first
        | (go_at_call 8; refine cA.out.mono ?_; rintro e w1 ⟨rfl, hb1⟩)
        | (go_at_call 15; go_fit (cR.out _); rintro e w2 ⟨rfl, hb2⟩)
        | (go_at_call 18; go_fit (cI.out _); rintro e w' ⟨rfl, rfl⟩)
        | (go_at_call 18; go_fit (C1.out _); rintro e w' ⟨rfl, rfl⟩)
        | (go_at_call 18; go_fit (C2.out _); rintro e w' ⟨rfl, rfl⟩)
        | (go_at_call 18; go_fit (C3.out _); rintro e w' ⟨rfl, rfl⟩))
      all_goals go_ret
      all_goals exact ⟨ret_bool (by simp), bthen hb1 hb2⟩
    · have hlt : K < s.size := by omega
      have hnb := hnot hlt
      rw [Lx.getD_at s K hlt] at hnb
      have b2 : ((s[K].toNat : Int) != 32) = true := by
        unfold Lx.isB at hnb
        simpa using hnb
      have b3 : ((K : Int) == (s.size : Int)) = false := beq_eq_false_iff_ne.2 (by omega)
      clear hnot hnb
      go_enter Tryz.func7, Tryz.ntmps7
      go_wp2_with (first
        | (go_at_call 8; refine cA.out.mono ?_; rintro e w1 ⟨rfl, hb1⟩)
        | (go_at_call 15; go_fit (cR.out _); rintro e w2 ⟨rfl, hb2⟩)
        | (go_at_call 18; go_fit (cI.out _); rintro e w' ⟨rfl, rfl⟩)
        | (go_at_call 18; go_fit (C1.out _); rintro e w' ⟨rfl, rfl⟩)
        | (go_at_call 18; go_fit (C2.out _); rintro e w' ⟨rfl, rfl⟩)
        | (go_at_call 18; go_fit (C3.out _); rintro e w' ⟨rfl, rfl⟩))
      all_goals go_ret
      all_goals exact ⟨ret_bool (by simp), bthen hb1 hb2⟩
end Go.Proofs.YtmhakkahclbbjaaGreatDoor
