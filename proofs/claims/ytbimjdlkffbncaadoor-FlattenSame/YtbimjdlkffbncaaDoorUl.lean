/-
  Walks of lex: inName, Name.
-/
import Derived.Test.YtbimjdlkffbncaaDoorGg
import Derived.Test.YtbimjdlkffbncaaDoorWi
namespace Go.Proofs.YtbimjdlkffbncaaDoor
namespace Evn
namespace Lx
def inName (b : UInt8) : Bool := (decide (65 ≤ b.toNat) && decide (b.toNat ≤ 90)) || (decide (97 ≤ b.toNat) && decide (b.toNat ≤ 122)) || (decide (48 ≤ b.toNat) && decide (b.toNat ≤ 57)) || decide (b.toNat = 45) || decide (b.toNat = 95)
def name (l : List UInt8) : Bool := !l.isEmpty && decide (l.length ≤ 40) && l.all inName
theorem getD_at (s : ByteArray) (k : Nat) (h : k < s.size) : s.data.toList.getD k 0 = s[k] := Tag.getD_at s k h
end Lx
open Go.RowKit

set_option maxHeartbeats 1000000 in
theorem linName_any (b : UInt8) (w : World) :
    Calls Tryd.prog 112 #[.int .u8 b.toNat] w fun e w' => e = .returned (.bool (Lx.inName b)) ∧ w = w' := by
  have hb := b.toNat_lt
  go_enter Tryd.func112, Tryd.ntmps112
  go_wp2
  all_goals go_ret
  all_goals exact ⟨ret_bool (by unfold Lx.inName; rw [Bool.eq_iff_iff]; simp at *; omega), rfl⟩
theorem lall_at (s : ByteArray) (k : Nat) (h : k < s.size) : (s.data.toList.drop k).all Lx.inName = (Lx.inName s[k] && (s.data.toList.drop (k + 1)).all Lx.inName) := by
  rw [Sc.drop_cons s k h, List.all_cons]

set_option maxHeartbeats 1000000 in
set_option maxRecDepth 100000 in
theorem lname_any (s : ByteArray) (w : World) (hs : s.size ≤ 1000000) :
    Calls Tryd.prog 92 #[.string s] w fun e w' => e = .returned (.bool (Lx.name s.data.toList)) ∧ Below w.heap.size w w' := by
  by_cases h0 : s.size = 0
  · obtain rfl := Tag.ba_nil s h0
    clear h0
    go_enter Tryd.func92, Tryd.ntmps92
    go_wp2
    go_ret
    exact ⟨rfl, Below.refl _ _⟩
  · have hp : 0 < s.size := by omega
    have hemp := ba_isEmpty s hp
    have hnil := ba_notnil s hp
    have hne : s.data.toList.isEmpty = false := by rw [← Lib.toList_data]; exact hemp
    unfold Lx.name
    rw [hne, ← Lib.size_eq]
    clear hne
    by_cases h4 : s.size ≤ 40
    · have b1 : decide ((40 : Int) < (s.size : Int)) = false := decide_eq_false (by omega)
      rw [decide_eq_true h4]
      obtain ⟨ANS, hANS⟩ : ∃ ANS, s.data.toList.all Lx.inName = ANS := ⟨_, rfl⟩
      rw [hANS]
      have HA : Hid ((s.data.toList.drop 0).all Lx.inName = ANS) := hANS
      clear hANS
      have hcv := Lib.run_convert_string_bytes (P := Tryd.prog) w 9 133 5 s (u := .string) Tryd.underlying9 Tryd.underlying133 Tryd.underlying5
      have hbw := Lib.bytesWorld_below w 5 s
      have HC := Lib.hid (fun j hj => Lib.bytesWorld_cell w 5 s j hj)
      generalize Lib.bytesWorld w 5 s = W1 at hcv hbw HC
      go_enter Tryd.func92, Tryd.ntmps92
      go_wp2
      go_loop [15] (fun i => ∃ k : Nat, k ≤ s.size ∧ i = .int .i64 k ∧ Hid ((s.data.toList.drop k).all Lx.inName = ANS)) (fun i => s.size - (intOf i).toNat)
      case atStart => exact ⟨0, by omega, rfl, HA⟩
      case round =>
        obtain ⟨k, hk, rfl, HK⟩ := hrel
        clear HA hcv
        by_cases hlt : k < s.size
        · have HS : Hid (_ = _) := lall_at s k hlt
          have hc := HC.out k hlt
          rw [Lx.getD_at s k hlt] at hc
          have cI := linName_any s[k] W1
          cases hi : Lx.inName s[k]
          · rw [hi] at cI
            have HF : Hid (ANS = false) := by have h := HK.out; rw [HS.out, hi, Bool.false_and] at h; exact h.symm
            clear HS HK hi
            go_wp2_with (go_at_call 112; refine cI.mono ?_; rintro e w' ⟨rfl, rfl⟩)
            go_ret
            exact ⟨ret_bool (by rw [HF.out] <;> rfl), hbw⟩
          · rw [hi] at cI
            have HN : Hid ((s.data.toList.drop (k + 1)).all Lx.inName = ANS) := by have h := HK.out; rw [HS.out, hi, Bool.true_and] at h; exact h
            clear HS HK hi
            go_wp2_with (go_at_call 112; refine cI.mono ?_; rintro e w' ⟨rfl, rfl⟩)
            go_round
            case rel => exact ⟨k + 1, by omega, by go_num, HN⟩
            case measure => simp [intOf]; omega
        · have HF : Hid (ANS = true) := by have h := HK.out; rw [Sc.drop_nil s k (by omega)] at h; exact h.symm
          clear HK
          go_wp2
          go_ret
          exact ⟨ret_bool (by rw [HF.out] <;> rfl), hbw⟩
    · have b1 : decide ((40 : Int) < (s.size : Int)) = true := decide_eq_true (by omega)
      rw [decide_eq_false h4]
      go_enter Tryd.func92, Tryd.ntmps92
      go_wp2
      go_ret
      exact ⟨rfl, Below.refl _ _⟩
end Evn
end Go.Proofs.YtbimjdlkffbncaaDoor
