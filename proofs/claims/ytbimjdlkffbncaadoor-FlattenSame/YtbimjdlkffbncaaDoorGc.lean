/-
  Walks of the small functions: HasPrefix, CutPrefix, TrimPrefix; worth, digitsAhead, allDigits, withoutSign.
-/
import Derived.Test.YtbimjdlkffbncaaDoorProg
import Derived.Test.YtbimjdlkffbncaaDoorGb
import Derived.WalkKit
import Derived.WalkSpells
import Derived.WalkLawsBesides
import Derived.Lib.Hide
namespace Go.Proofs.YtbimjdlkffbncaaDoor
namespace Tag
open Go.RowKit

theorem ret_bool {a b : Bool} (h : a = b) : Ending.returned (.bool a) = .returned (.bool b) := by rw [h]
theorem ret_int {k : IntKind} {a b : Int} (h : a = b) : Ending.returned (.int k a) = .returned (.int k b) := by rw [h]
theorem ret_str {a b : ByteArray} (h : a = b) : Ending.returned (.string a) = .returned (.string b) := by rw [h]
theorem ret_sb {a b : ByteArray} {x y : Bool} (h : a = b) (h' : x = y) : Ending.returned (.tuple #[.string a, .bool x]) = .returned (.tuple #[.string b, .bool y]) := by rw [h, h']
theorem u8_eq {a : UInt8} (n : Nat) (h : a.toNat = n) : a = UInt8.ofNat n := by
  rw [← h]; simp
/-- a string of bytes -/
def str (l : List UInt8) : ByteArray := ⟨l.toArray⟩
theorem str_data (l : List UInt8) : (str l).data.toList = l := rfl
theorem str_size (l : List UInt8) : (str l).size = l.length := by show l.toArray.size = _; simp
theorem str_eq (s : ByteArray) : str s.data.toList = s := by cases s; simp [str]
theorem str_toList (l : List UInt8) : (str l).toList = l := by rw [Lib.toList_data, str_data]
theorem str_inj {a b : ByteArray} (h : a.data.toList = b.data.toList) : a = b := by rw [← str_eq a, ← str_eq b, h]
theorem to_str {a : ByteArray} {l : List UInt8} (h : a.data.toList = l) : a = str l := str_inj h
theorem ba_isEmpty (s : ByteArray) (h : 0 < s.size) : s.toList.isEmpty = false := by
  rw [Lib.toList_data]
  cases hl : s.data.toList with
  | nil => have := Lib.size_eq s; rw [hl] at this; rw [List.length_nil] at this; omega
  | cons _ _ => rfl
theorem ba_notnil (s : ByteArray) (h : 0 < s.size) : ¬ s.toList = [] := by
  intro e; have := ba_isEmpty s h; rw [e] at this; simp at this
theorem drop_cons (s : ByteArray) (k : Nat) (h : k < s.size) : s.data.toList.drop k = s[k] :: s.data.toList.drop (k + 1) := by
  rw [List.drop_eq_getElem_cons (by simpa using h)]; rfl
theorem drop_nil (s : ByteArray) (k : Nat) (h : s.size ≤ k) : s.data.toList.drop k = [] := by
  rw [List.drop_eq_nil_iff]; simpa using h
theorem ba_list (s : ByteArray) (h : 0 < s.size) : s.data.toList = s[0] :: s.data.toList.drop 1 := drop_cons s 0 h
theorem ba_nil (s : ByteArray) (h : s.size = 0) : s = ⟨#[]⟩ := by
  cases s with
  | mk d => have hd : d.size = 0 := h
            rw [Array.size_eq_zero_iff] at hd; rw [hd]
theorem ext_drop (s : ByteArray) (k : Nat) : (s.extract k s.size).data.toList = s.data.toList.drop k := by
  rw [Lib.extract_data, List.take_of_length_le (by rw [List.length_drop, ← Lib.size_eq]; exact Nat.le_refl _)]
theorem ext_take (s : ByteArray) (n : Nat) : (s.extract 0 n).data.toList = s.data.toList.take n := by
  rw [Lib.extract_data]; simp

/-! The library's. -/
theorem pre_len (s p : ByteArray) (h : s.size < p.size) : Lib.hasPrefix s.data.toList p.data.toList = false := by
  rw [Bool.eq_false_iff]; intro hp
  unfold Lib.hasPrefix at hp
  rw [List.isPrefixOf_iff_prefix] at hp
  have := hp.length_le
  rw [← Lib.size_eq, ← Lib.size_eq] at this
  omega
theorem pre_take (s p : ByteArray) : Lib.hasPrefix s.data.toList p.data.toList = ((s.extract 0 p.size).toList == p.toList) := by
  rw [Lib.toList_data, Lib.toList_data, ext_take, Bool.eq_iff_iff]
  unfold Lib.hasPrefix
  rw [List.isPrefixOf_iff_prefix, List.prefix_iff_eq_take, Lib.size_eq, beq_iff_eq]
  exact ⟨fun h => h.symm, fun h => h.symm⟩
set_option maxHeartbeats 400000 in
theorem pre_any (s p : ByteArray) (w : World) :
    Calls Tryd.prog 153 #[.string s, .string p] w fun e w' => e = .returned (.bool (Lib.hasPrefix s.data.toList p.data.toList)) ∧ w = w' := by
  by_cases h : p.size ≤ s.size
  · have HP := Lib.hid (pre_take s p)
    have b0 : decide ((p.size : Int) ≤ (s.size : Int)) = true := decide_eq_true (by omega)
    go_enter Tryd.func153, Tryd.ntmps153
    go_wp2
    go_ret
    exact ⟨ret_bool HP.out.symm, rfl⟩
  · have b0 : decide ((p.size : Int) ≤ (s.size : Int)) = false := decide_eq_false (by omega)
    go_enter Tryd.func153, Tryd.ntmps153
    go_wp2
    go_ret
    exact ⟨ret_bool (pre_len s p (by omega)).symm, rfl⟩
theorem pre_le (s p : ByteArray) (h : Lib.hasPrefix s.data.toList p.data.toList = true) : p.size ≤ s.size := by
  rcases Nat.lt_or_ge s.size p.size with hlt | hge
  · rw [pre_len s p hlt] at h; cases h
  · exact hge
set_option maxHeartbeats 400000 in
theorem cut_yes (s p : ByteArray) (w : World) (h : Lib.hasPrefix s.data.toList p.data.toList = true) :
    Calls Tryd.prog 124 #[.string s, .string p] w fun e w' => e = .returned (.tuple #[.string (s.extract p.size s.size), .bool true]) ∧ w = w' := by
  have hl := pre_le s p h
  have c := pre_any s p w
  rw [h] at c
  clear h
  have c2 : Calls Tryd.prog 136 #[.string s, .string p] w fun e w' => e = .returned (.tuple #[.string (s.extract p.size s.size), .bool true]) ∧ w = w' := by
    go_enter Tryd.func136, Tryd.ntmps136
    go_wp2_with (go_at_call 153; refine c.mono ?_; rintro e w' ⟨rfl, rfl⟩)
    go_ret2
    exact ⟨rfl, rfl⟩
  clear c
  go_enter Tryd.func124, Tryd.ntmps124
  go_wp2_with (go_at_call 136; refine c2.mono ?_; rintro e w' ⟨rfl, rfl⟩)
  go_ret2
  exact ⟨rfl, rfl⟩
set_option maxHeartbeats 400000 in
theorem cut_no (s p : ByteArray) (w : World) (h : Lib.hasPrefix s.data.toList p.data.toList = false) :
    Calls Tryd.prog 124 #[.string s, .string p] w fun e w' => e = .returned (.tuple #[.string s, .bool false]) ∧ w = w' := by
  have c := pre_any s p w
  rw [h] at c
  clear h
  have c2 : Calls Tryd.prog 136 #[.string s, .string p] w fun e w' => e = .returned (.tuple #[.string s, .bool false]) ∧ w = w' := by
    go_enter Tryd.func136, Tryd.ntmps136
    go_wp2_with (go_at_call 153; refine c.mono ?_; rintro e w' ⟨rfl, rfl⟩)
    go_ret2
    exact ⟨rfl, rfl⟩
  clear c
  go_enter Tryd.func124, Tryd.ntmps124
  go_wp2_with (go_at_call 136; refine c2.mono ?_; rintro e w' ⟨rfl, rfl⟩)
  go_ret2
  exact ⟨rfl, rfl⟩
theorem trim_yes' (s p : ByteArray) (h : Lib.hasPrefix s.data.toList p.data.toList = true) : s.extract p.size s.size = str (Lib.trimPrefix s.data.toList p.data.toList) := by
  apply to_str; rw [ext_drop, Lib.size_eq p]; unfold Lib.trimPrefix; rw [if_pos h]
theorem trim_no' (s p : ByteArray) (h : Lib.hasPrefix s.data.toList p.data.toList = false) : s = str (Lib.trimPrefix s.data.toList p.data.toList) := by
  apply to_str; unfold Lib.trimPrefix; rw [if_neg (by simp [h])]
/-! The program's. -/
set_option maxHeartbeats 400000 in
theorem worth_any (b : UInt8) (w : World) :
    Calls Tryd.prog 154 #[.int .u8 b.toNat] w fun e w' => e = .returned (.int .i64 (Tg.worth b)) ∧ w = w' := by
  have hb := b.toNat_lt
  by_cases h1 : 97 ≤ b.toNat ∧ b.toNat ≤ 102
  · have e1 : Tg.worth b = b.toNat - 87 := by unfold Tg.worth; rw [if_pos h1]
    rw [e1]
    clear e1
    obtain ⟨g1, g2⟩ := h1
    go_enter Tryd.func154, Tryd.ntmps154
    go_wp2
    go_ret
    exact ⟨ret_int (by omega), rfl⟩
  · by_cases h2 : 65 ≤ b.toNat ∧ b.toNat ≤ 70
    · have e1 : Tg.worth b = b.toNat - 55 := by unfold Tg.worth; rw [if_neg h1, if_pos h2]
      rw [e1]
      clear e1
      obtain ⟨g1, g2⟩ := h2
      have b1 : decide ((97 : Int) ≤ (b.toNat : Int)) = false := decide_eq_false (by omega)
      go_enter Tryd.func154, Tryd.ntmps154
      go_wp2
      go_ret
      exact ⟨ret_int (by omega), rfl⟩
    · by_cases h3 : 48 ≤ b.toNat ∧ b.toNat ≤ 57
      · have e1 : Tg.worth b = b.toNat - 48 := by unfold Tg.worth; rw [if_neg h1, if_neg h2, if_pos h3]
        rw [e1]
        clear e1
        obtain ⟨g1, g2⟩ := h3
        have b1 : decide ((97 : Int) ≤ (b.toNat : Int)) = false := decide_eq_false (by omega)
        have b2 : decide ((65 : Int) ≤ (b.toNat : Int)) = false := decide_eq_false (by omega)
        go_enter Tryd.func154, Tryd.ntmps154
        go_wp2
        go_ret
        exact ⟨ret_int (by omega), rfl⟩
      · have e1 : Tg.worth b = 16 := by unfold Tg.worth; rw [if_neg h1, if_neg h2, if_neg h3]
        rw [e1]
        clear e1
        go_enter Tryd.func154, Tryd.ntmps154
        go_wp2
        all_goals first | (exfalso; omega) | skip
        all_goals go_ret
        all_goals exact ⟨rfl, rfl⟩
theorem ahead_at (n : Nat) (s : ByteArray) (k : Nat) (h : k < s.size) : Tg.ahead n (s.data.toList.drop k) = if Tg.worth s[k] < n then Tg.ahead n (s.data.toList.drop (k + 1)) + 1 else 0 := by
  rw [drop_cons s k h]
  unfold Tg.ahead
  by_cases c : Tg.worth s[k] < n
  · rw [if_pos c, List.takeWhile_cons_of_pos (by simpa [Tg.dg] using c)]; rfl
  · rw [if_neg c, List.takeWhile_cons_of_neg (by simpa [Tg.dg] using c)]; rfl
set_option maxHeartbeats 400000 in
theorem digitsAhead_any (s : ByteArray) (base : Int) (n : Nat) (hn : base = n) (w : World) (hs : s.size ≤ 9223372036854775807) :
    Calls Tryd.prog 137 #[.string s, .int .i64 base] w fun e w' => e = .returned (.int .i64 (Tg.ahead n s.data.toList : Nat)) ∧ w = w' := by
  subst hn
  obtain ⟨ANS, hANS⟩ : ∃ ANS, Tg.ahead n s.data.toList = ANS := ⟨_, rfl⟩
  rw [hANS]
  have HA : Hid (0 + Tg.ahead n (s.data.toList.drop 0) = ANS) := by show _ = _; rw [← hANS]; simp
  clear hANS
  go_enter Tryd.func137, Tryd.ntmps137
  go_wp2
  go_loop [8] (fun i => ∃ k : Nat, k ≤ s.size ∧ i = .int .i64 k ∧ Hid (k + Tg.ahead n (s.data.toList.drop k) = ANS)) (fun i => s.size - (intOf i).toNat)
  case atStart => exact ⟨0, by omega, rfl, HA⟩
  case round =>
    obtain ⟨k, hk, rfl, HK⟩ := hrel
    clear HA
    by_cases hlt : k < s.size
    · have HS : Hid (_ = _) := ahead_at n s k hlt
      by_cases c : Tg.worth s[k] < n
      · have HN : Hid ((k + 1) + Tg.ahead n (s.data.toList.drop (k + 1)) = ANS) := by
          have h := HK.out; rw [HS.out, if_pos c] at h; show _ = _; omega
        have b1 : decide ((n : Int) ≤ (Tg.worth s[k] : Int)) = false := decide_eq_false (by omega)
        clear HS HK
        go_wp2_with (go_at_call 154; refine (worth_any s[k] _).mono ?_; rintro e w' ⟨rfl, rfl⟩)
        go_round
        case rel => exact ⟨k + 1, by omega, by go_num, HN⟩
        case measure => simp [intOf]; omega
      · have HN : Hid (k = ANS) := by
          have h := HK.out; rw [HS.out, if_neg c] at h; exact h
        have b1 : decide ((n : Int) ≤ (Tg.worth s[k] : Int)) = true := decide_eq_true (by omega)
        clear HS HK
        go_wp2_with (go_at_call 154; refine (worth_any s[k] _).mono ?_; rintro e w' ⟨rfl, rfl⟩)
        go_ret
        exact ⟨ret_int (by rw [HN.out]), rfl⟩
    · have HN : Hid (s.size = ANS) := by
        have h := HK.out; rw [drop_nil s k (by omega)] at h; have : Tg.ahead n [] = 0 := rfl; show _ = _; omega
      clear HK
      go_wp2
      go_ret
      exact ⟨ret_int (by rw [HN.out]), rfl⟩
theorem ahead_all (n : Nat) (l : List UInt8) : (Tg.ahead n l = l.length) ↔ l.all (Tg.dg n) = true := by
  unfold Tg.ahead
  induction l with
  | nil => simp
  | cons x t ih =>
    by_cases h : Tg.dg n x = true
    · rw [List.takeWhile_cons_of_pos h]; simp [h]; simpa using ih
    · rw [List.takeWhile_cons_of_neg h]; simp [h]
set_option maxHeartbeats 400000 in
theorem allDigits_any (s : ByteArray) (base : Int) (n : Nat) (hn : base = n) (w : World) (hs : s.size ≤ 9223372036854775807) :
    Calls Tryd.prog 125 #[.string s, .int .i64 base] w fun e w' => e = .returned (.bool (Tg.allDg n s.data.toList)) ∧ w = w' := by
  subst hn
  by_cases h0 : s.size = 0
  · obtain rfl := ba_nil s h0
    clear h0
    go_enter Tryd.func125, Tryd.ntmps125
    go_wp2
    go_ret
    exact ⟨rfl, rfl⟩
  · have hp : 0 < s.size := by omega
    have hemp := ba_isEmpty s hp
    have hnil := ba_notnil s hp
    have c := digitsAhead_any s n n rfl w hs
    have hall := ahead_all n s.data.toList
    rw [← Lib.size_eq] at hall
    have hne : s.data.toList.isEmpty = false := by rw [← Lib.toList_data]; exact hemp
    have e0 : Tg.allDg n s.data.toList = s.data.toList.all (Tg.dg n) := by unfold Tg.allDg; rw [hne]; rfl
    have H : Hid ((Tg.ahead n s.data.toList == s.size) = Tg.allDg n s.data.toList) := by
      show _ = _
      rw [e0, Bool.eq_iff_iff, ← hall, beq_iff_eq]
    clear hall hne e0
    generalize Tg.ahead n s.data.toList = a at c H
    by_cases he : a = s.size
    · have b1 : ((a : Int) == (s.size : Int)) = true := beq_iff_eq.2 (by omega)
      have HF : Hid (true = Tg.allDg n s.data.toList) := by have h := H.out; rw [he] at h; show _ = _; rw [← h]; simp
      clear H he
      go_enter Tryd.func125, Tryd.ntmps125
      go_wp2_with (go_at_call 137; refine c.mono ?_; rintro e w' ⟨rfl, rfl⟩)
      go_ret
      exact ⟨ret_bool HF.out, rfl⟩
    · have b1 : ((a : Int) == (s.size : Int)) = false := beq_eq_false_iff_ne.2 (by omega)
      have HF : Hid (false = Tg.allDg n s.data.toList) := by have h := H.out; show _ = _; rw [← h]; exact (beq_eq_false_iff_ne.2 he).symm
      clear H he
      go_enter Tryd.func125, Tryd.ntmps125
      go_wp2_with (go_at_call 137; refine c.mono ?_; rintro e w' ⟨rfl, rfl⟩)
      go_ret
      exact ⟨ret_bool HF.out, rfl⟩
end Tag
end Go.Proofs.YtbimjdlkffbncaaDoor
