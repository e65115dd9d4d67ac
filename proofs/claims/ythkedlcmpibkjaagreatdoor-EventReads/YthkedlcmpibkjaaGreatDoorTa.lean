/-
  tag.Read by its contract: the plain functions of tags and their words, and the walks.
-/
import Derived.Test.YthkedlcmpibkjaaGreatDoorProg
import Derived.WalkKit
import Derived.WalkSpells
import Derived.WalkLawsBesides
import Derived.Lib.Hide
import Derived.Lib.Strings
import Derived.Lib.ConvBytes
import Derived.Lib.AtoiErrMem
namespace Go.Proofs.YthkedlcmpibkjaaGreatDoor
namespace Tg
def cores : List (List UInt8) := [[110, 117, 108, 108], [98, 111, 111, 108], [105, 110, 116], [102, 108, 111, 97, 116], [115, 116, 114], [115, 101, 113], [109, 97, 112]]
def core (l : List UInt8) : Bool := cores.contains l
def inName (b : UInt8) : Bool := (decide (65 ≤ b.toNat) && decide (b.toNat ≤ 90)) || (decide (97 ≤ b.toNat) && decide (b.toNat ≤ 122)) || (decide (48 ≤ b.toNat) && decide (b.toNat ≤ 57)) || decide (b.toNat = 45)
def isName (l : List UInt8) : Bool := !l.isEmpty && decide (l.length ≤ 40) && l.all inName
def isOwn (l : List UInt8) : Bool := Lib.hasPrefix l [33] && isName (l.drop 1)
def right (l : List UInt8) : Bool := core l || isOwn l
def word (l : List UInt8) : List UInt8 := if core l = true then [33, 33] ++ l else if right l = true then l else []
def read (w : List UInt8) : Option (List UInt8) :=
  if right (Lib.trimPrefix w [33, 33]) = true ∧ word (Lib.trimPrefix w [33, 33]) = w then some (Lib.trimPrefix w [33, 33]) else none
end Tg
namespace Tag
open Go.RowKit

theorem ret_bool {a b : Bool} (h : a = b) : Ending.returned (.bool a) = .returned (.bool b) := by rw [h]
theorem ret_int {k : IntKind} {a b : Int} (h : a = b) : Ending.returned (.int k a) = .returned (.int k b) := by rw [h]
theorem ret_str {a b : ByteArray} (h : a = b) : Ending.returned (.string a) = .returned (.string b) := by rw [h]
theorem ret_sb {a b : ByteArray} {x y : Bool} (h : a = b) (h' : x = y) : Ending.returned (.tuple #[.string a, .bool x]) = .returned (.tuple #[.string b, .bool y]) := by rw [h, h']
theorem u8_eq {a : UInt8} (n : Nat) (h : a.toNat = n) : a = UInt8.ofNat n := by
  rw [← h]; simp
/-- a string of bytes -/
def str (l : List UInt8) : ByteArray := ⟨l.toArray⟩
theorem str_data (l : List UInt8) : (str l).data.toList = l := rfl
theorem str_size (l : List UInt8) : (str l).size = l.length := by show l.toArray.size = _; simp
theorem str_eq (s : ByteArray) : str s.data.toList = s := by cases s; simp [str]
theorem str_toList (l : List UInt8) : (str l).toList = l := by rw [Lib.toList_data, str_data]
theorem str_inj {a b : ByteArray} (h : a.data.toList = b.data.toList) : a = b := by rw [← str_eq a, ← str_eq b, h]
theorem to_str {a : ByteArray} {l : List UInt8} (h : a.data.toList = l) : a = str l := str_inj h
theorem ba_isEmpty (s : ByteArray) (h : 0 < s.size) : s.toList.isEmpty = false := by
  rw [Lib.toList_data]
  cases hl : s.data.toList with
  | nil => have := Lib.size_eq s; rw [hl] at this; rw [List.length_nil] at this; omega
  | cons _ _ => rfl
theorem ba_notnil (s : ByteArray) (h : 0 < s.size) : ¬ s.toList = [] := by
  intro e; have := ba_isEmpty s h; rw [e] at this; simp at this
theorem drop_cons (s : ByteArray) (k : Nat) (h : k < s.size) : s.data.toList.drop k = s[k] :: s.data.toList.drop (k + 1) := by
  rw [List.drop_eq_getElem_cons (by simpa using h)]; rfl
theorem drop_nil (s : ByteArray) (k : Nat) (h : s.size ≤ k) : s.data.toList.drop k = [] := by
  rw [List.drop_eq_nil_iff]; simpa using h
theorem ba_list (s : ByteArray) (h : 0 < s.size) : s.data.toList = s[0] :: s.data.toList.drop 1 := drop_cons s 0 h
theorem ba_nil (s : ByteArray) (h : s.size = 0) : s = ⟨#[]⟩ := by
  cases s with
  | mk d => have hd : d.size = 0 := h
            rw [Array.size_eq_zero_iff] at hd; rw [hd]
theorem ext_drop (s : ByteArray) (k : Nat) : (s.extract k s.size).data.toList = s.data.toList.drop k := by
  rw [Lib.extract_data, List.take_of_length_le (by rw [List.length_drop, ← Lib.size_eq]; exact Nat.le_refl _)]
theorem ext_take (s : ByteArray) (n : Nat) : (s.extract 0 n).data.toList = s.data.toList.take n := by
  rw [Lib.extract_data]; simp

/-! The library's. -/
theorem pre_len (s p : ByteArray) (h : s.size < p.size) : Lib.hasPrefix s.data.toList p.data.toList = false := by
  rw [Bool.eq_false_iff]; intro hp
  unfold Lib.hasPrefix at hp
  rw [List.isPrefixOf_iff_prefix] at hp
  have := hp.length_le
  rw [← Lib.size_eq, ← Lib.size_eq] at this
  omega
theorem pre_take (s p : ByteArray) : Lib.hasPrefix s.data.toList p.data.toList = ((s.extract 0 p.size).toList == p.toList) := by
  rw [Lib.toList_data, Lib.toList_data, ext_take, Bool.eq_iff_iff]
  unfold Lib.hasPrefix
  rw [List.isPrefixOf_iff_prefix, List.prefix_iff_eq_take, Lib.size_eq, beq_iff_eq]
  exact ⟨fun h => h.symm, fun h => h.symm⟩
set_option maxHeartbeats 400000 in
theorem pre_any (s p : ByteArray) (w : World) :
    Calls Tryz.prog 64 #[.string s, .string p] w fun e w' => e = .returned (.bool (Lib.hasPrefix s.data.toList p.data.toList)) ∧ w = w' := by
  by_cases h : p.size ≤ s.size
  · have HP := Lib.hid (pre_take s p)
    have b0 : decide ((p.size : Int) ≤ (s.size : Int)) = true := decide_eq_true (by omega)
    go_enter Tryz.func64, Tryz.ntmps64
    go_wp2
    go_ret
    exact ⟨ret_bool HP.out.symm, rfl⟩
  · have b0 : decide ((p.size : Int) ≤ (s.size : Int)) = false := decide_eq_false (by omega)
    go_enter Tryz.func64, Tryz.ntmps64
    go_wp2
    go_ret
    exact ⟨ret_bool (pre_len s p (by omega)).symm, rfl⟩
theorem pre_le (s p : ByteArray) (h : Lib.hasPrefix s.data.toList p.data.toList = true) : p.size ≤ s.size := by
  rcases Nat.lt_or_ge s.size p.size with hlt | hge
  · rw [pre_len s p hlt] at h; cases h
  · exact hge
set_option maxHeartbeats 400000 in
theorem cut_yes (s p : ByteArray) (w : World) (h : Lib.hasPrefix s.data.toList p.data.toList = true) :
    Calls Tryz.prog 22 #[.string s, .string p] w fun e w' => e = .returned (.tuple #[.string (s.extract p.size s.size), .bool true]) ∧ w = w' := by
  have hl := pre_le s p h
  have c := pre_any s p w
  rw [h] at c
  clear h
  have c2 : Calls Tryz.prog 38 #[.string s, .string p] w fun e w' => e = .returned (.tuple #[.string (s.extract p.size s.size), .bool true]) ∧ w = w' := by
    go_enter Tryz.func38, Tryz.ntmps38
    go_wp2_with (go_at_call 64; refine c.mono ?_; rintro e w' ⟨rfl, rfl⟩)
    go_ret2
    exact ⟨rfl, rfl⟩
  clear c
  go_enter Tryz.func22, Tryz.ntmps22
  go_wp2_with (go_at_call 38; refine c2.mono ?_; rintro e w' ⟨rfl, rfl⟩)
  go_ret2
  exact ⟨rfl, rfl⟩
set_option maxHeartbeats 400000 in
theorem cut_no (s p : ByteArray) (w : World) (h : Lib.hasPrefix s.data.toList p.data.toList = false) :
    Calls Tryz.prog 22 #[.string s, .string p] w fun e w' => e = .returned (.tuple #[.string s, .bool false]) ∧ w = w' := by
  have c := pre_any s p w
  rw [h] at c
  clear h
  have c2 : Calls Tryz.prog 38 #[.string s, .string p] w fun e w' => e = .returned (.tuple #[.string s, .bool false]) ∧ w = w' := by
    go_enter Tryz.func38, Tryz.ntmps38
    go_wp2_with (go_at_call 64; refine c.mono ?_; rintro e w' ⟨rfl, rfl⟩)
    go_ret2
    exact ⟨rfl, rfl⟩
  clear c
  go_enter Tryz.func22, Tryz.ntmps22
  go_wp2_with (go_at_call 38; refine c2.mono ?_; rintro e w' ⟨rfl, rfl⟩)
  go_ret2
  exact ⟨rfl, rfl⟩
theorem trim_yes' (s p : ByteArray) (h : Lib.hasPrefix s.data.toList p.data.toList = true) : s.extract p.size s.size = str (Lib.trimPrefix s.data.toList p.data.toList) := by
  apply to_str; rw [ext_drop, Lib.size_eq p]; unfold Lib.trimPrefix; rw [if_pos h]
theorem trim_no' (s p : ByteArray) (h : Lib.hasPrefix s.data.toList p.data.toList = false) : s = str (Lib.trimPrefix s.data.toList p.data.toList) := by
  apply to_str; unfold Lib.trimPrefix; rw [if_neg (by simp [h])]
set_option maxHeartbeats 400000 in
theorem trim_any (s p : ByteArray) (w : World) :
    Calls Tryz.prog 39 #[.string s, .string p] w fun e w' => e = .returned (.string (str (Lib.trimPrefix s.data.toList p.data.toList))) ∧ w = w' := by
  have c2 : Calls Tryz.prog 65 #[.string s, .string p] w fun e w' => e = .returned (.string (str (Lib.trimPrefix s.data.toList p.data.toList))) ∧ w = w' := by
    have c := pre_any s p w
    cases h : Lib.hasPrefix s.data.toList p.data.toList
    · rw [h] at c
      have H := Lib.hid (trim_no' s p h)
      clear h
      go_enter Tryz.func65, Tryz.ntmps65
      go_wp2_with (go_at_call 64; refine c.mono ?_; rintro e w' ⟨rfl, rfl⟩)
      go_ret
      exact ⟨ret_str H.out, rfl⟩
    · rw [h] at c
      have H := Lib.hid (trim_yes' s p h)
      have hl := pre_le s p h
      clear h
      go_enter Tryz.func65, Tryz.ntmps65
      go_wp2_with (go_at_call 64; refine c.mono ?_; rintro e w' ⟨rfl, rfl⟩)
      go_ret
      exact ⟨ret_str H.out, rfl⟩
  go_enter Tryz.func39, Tryz.ntmps39
  go_wp2_with (go_at_call 65; refine c2.mono ?_; rintro e w' ⟨rfl, rfl⟩)
  go_ret
  exact ⟨rfl, rfl⟩

/-! The program's. -/
theorem ext_size_le (s : ByteArray) (k : Nat) : (s.extract k s.size).size ≤ s.size := by
  rw [Lib.size_eq, ext_drop, List.length_drop, ← Lib.size_eq]; omega



set_option maxHeartbeats 400000 in
theorem inName_any (b : UInt8) (w : World) :
    Calls Tryz.prog 105 #[.int .u8 b.toNat] w fun e w' => e = .returned (.bool (Tg.inName b)) ∧ w = w' := by
  have hb := b.toNat_lt
  go_enter Tryz.func105, Tryz.ntmps105
  go_wp2
  all_goals go_ret
  all_goals exact ⟨ret_bool (by unfold Tg.inName; rw [Bool.eq_iff_iff]; simp at *; omega), rfl⟩

theorem all_at (s : ByteArray) (k : Nat) (h : k < s.size) : (s.data.toList.drop k).all Tg.inName = (Tg.inName s[k] && (s.data.toList.drop (k + 1)).all Tg.inName) := by
  rw [drop_cons s k h, List.all_cons]
theorem getD_at (s : ByteArray) (k : Nat) (h : k < s.size) : s.data.toList.getD k 0 = s[k] := by
  rw [List.getD_eq_getElem?_getD, List.getElem?_eq_getElem (by rw [← Lib.size_eq]; exact h)]; rfl

set_option maxHeartbeats 1000000 in
set_option maxRecDepth 100000 in
theorem name_any (s : ByteArray) (w : World) (hs : s.size ≤ 1000000) :
    Calls Tryz.prog 99 #[.string s] w fun e w' => e = .returned (.bool (Tg.isName s.data.toList)) ∧ Below w.heap.size w w' := by
  by_cases h0 : s.size = 0
  · obtain rfl := ba_nil s h0
    clear h0
    go_enter Tryz.func99, Tryz.ntmps99
    go_wp2
    go_ret
    exact ⟨rfl, Below.refl _ _⟩
  · have hp : 0 < s.size := by omega
    have hemp := ba_isEmpty s hp
    have hnil := ba_notnil s hp
    have hne : s.data.toList.isEmpty = false := by rw [← Lib.toList_data]; exact hemp
    unfold Tg.isName
    rw [hne, ← Lib.size_eq]
    clear hne
    by_cases h4 : s.size ≤ 40
    · have b1 : decide ((40 : Int) < (s.size : Int)) = false := decide_eq_false (by omega)
      rw [decide_eq_true h4]
      obtain ⟨ANS, hANS⟩ : ∃ ANS, s.data.toList.all Tg.inName = ANS := ⟨_, rfl⟩
      rw [hANS]
      have HA : Hid ((s.data.toList.drop 0).all Tg.inName = ANS) := hANS
      clear hANS
      have hcv := Lib.run_convert_string_bytes (P := Tryz.prog) w 9 46 5 s (u := .string) Tryz.underlying9 Tryz.underlying46 Tryz.underlying5
      have hbw := Lib.bytesWorld_below w 5 s
      have HC := Lib.hid (fun j hj => Lib.bytesWorld_cell w 5 s j hj)
      generalize Lib.bytesWorld w 5 s = W1 at hcv hbw HC
      go_enter Tryz.func99, Tryz.ntmps99
      go_wp2
      go_loop [15] (fun i => ∃ k : Nat, k ≤ s.size ∧ i = .int .i64 k ∧ Hid ((s.data.toList.drop k).all Tg.inName = ANS)) (fun i => s.size - (intOf i).toNat)
      case atStart => exact ⟨0, by omega, rfl, HA⟩
      case round =>
        obtain ⟨k, hk, rfl, HK⟩ := hrel
        clear HA hcv
        by_cases hlt : k < s.size
        · have HS : Hid (_ = _) := all_at s k hlt
          have hc := HC.out k hlt
          rw [getD_at s k hlt] at hc
          have cI := inName_any s[k] W1
          cases hi : Tg.inName s[k]
          · rw [hi] at cI
            have HF : Hid (ANS = false) := by have h := HK.out; rw [HS.out, hi, Bool.false_and] at h; exact h.symm
            clear HS HK hi
            go_wp2_with (go_at_call 105; refine cI.mono ?_; rintro e w' ⟨rfl, rfl⟩)
            go_ret
            exact ⟨ret_bool (by rw [HF.out] <;> rfl), hbw⟩
          · rw [hi] at cI
            have HN : Hid ((s.data.toList.drop (k + 1)).all Tg.inName = ANS) := by have h := HK.out; rw [HS.out, hi, Bool.true_and] at h; exact h
            clear HS HK hi
            go_wp2_with (go_at_call 105; refine cI.mono ?_; rintro e w' ⟨rfl, rfl⟩)
            go_round
            case rel => exact ⟨k + 1, by omega, by go_num, HN⟩
            case measure => simp [intOf]; omega
        · have HF : Hid (ANS = true) := by have h := HK.out; rw [drop_nil s k (by omega)] at h; exact h.symm
          clear HK
          go_wp2
          go_ret
          exact ⟨ret_bool (by rw [HF.out] <;> rfl), hbw⟩
    · have b1 : decide ((40 : Int) < (s.size : Int)) = true := decide_eq_true (by omega)
      rw [decide_eq_false h4]
      go_enter Tryz.func99, Tryz.ntmps99
      go_wp2
      go_ret
      exact ⟨rfl, Below.refl _ _⟩

set_option maxHeartbeats 400000 in
theorem own_any (s : ByteArray) (w : World) (hs : s.size ≤ 1000000) :
    Calls Tryz.prog 82 #[.string s] w fun e w' => e = .returned (.bool (Tg.isOwn s.data.toList)) ∧ Below w.heap.size w w' := by
  unfold Tg.isOwn
  cases h1 : Lib.hasPrefix s.data.toList [33]
  · have c1 := cut_no s ⟨#[33]⟩ w h1
    clear h1
    rw [Bool.false_and]
    go_enter Tryz.func82, Tryz.ntmps82
    go_wp2_with fail
    refine c1.mono ?_
    rintro e w1 ⟨rfl, rfl⟩
    go_wp2
    go_ret
    exact ⟨rfl, Below.refl _ _⟩
  · have c1 := cut_yes s ⟨#[33]⟩ w h1
    clear h1
    rw [Bool.true_and]
    obtain ⟨T, hT⟩ : ∃ T, T = s.extract (⟨#[33]⟩ : ByteArray).size s.size := ⟨_, rfl⟩
    have hTd : s.data.toList.drop 1 = T.data.toList := by rw [hT, ext_drop]; rfl
    have hTs : T.size ≤ 1000000 := by have := ext_size_le s (⟨#[33]⟩ : ByteArray).size; rw [← hT] at this; omega
    rw [← hT] at c1
    rw [hTd]
    clear hT hTd
    have c2 := name_any T w hTs
    go_enter Tryz.func82, Tryz.ntmps82
    go_wp2_with fail
    refine c1.mono ?_
    rintro e w1 ⟨rfl, rfl⟩
    go_wp2_with fail
    refine c2.mono ?_
    rintro e w1 ⟨rfl, hb⟩
    go_wp2
    go_ret
    exact ⟨rfl, hb⟩

theorem in_words {s : ByteArray} {l : List (List UInt8)} (h : l.contains s.data.toList = true) : ∃ x ∈ l, s = str x := by
  rw [List.contains_iff_mem] at h
  exact ⟨_, h, (str_eq s).symm⟩
theorem not_words {s : ByteArray} {l : List (List UInt8)} (h : l.contains s.data.toList = false) : ∀ x ∈ l, (s.toList == x) = false := by
  intro x hx
  rw [Lib.toList_data]
  rw [beq_eq_false_iff_ne]
  rintro rfl
  rw [List.contains_iff_mem.2 hx] at h
  cases h

set_option maxHeartbeats 1000000 in
theorem core_any (s : ByteArray) (w : World) :
    Calls Tryz.prog 58 #[.string s] w fun e w' => e = .returned (.bool (Tg.core s.data.toList)) ∧ w = w' := by
  unfold Tg.core
  cases h2 : Tg.cores.contains s.data.toList
  · have n2 := not_words h2
    have d1 := n2 [110, 117, 108, 108] (by decide)
    have d2 := n2 [98, 111, 111, 108] (by decide)
    have d3 := n2 [105, 110, 116] (by decide)
    have d4 := n2 [102, 108, 111, 97, 116] (by decide)
    have d5 := n2 [115, 116, 114] (by decide)
    have d6 := n2 [115, 101, 113] (by decide)
    have d7 := n2 [109, 97, 112] (by decide)
    clear n2 h2
    go_enter Tryz.func58, Tryz.ntmps58
    go_wp2
    go_ret
    exact ⟨rfl, rfl⟩
  · obtain ⟨x, hx, rfl⟩ := in_words h2
    clear h2
    simp only [Tg.cores, List.mem_cons, List.not_mem_nil, or_false] at hx
    rcases hx with rfl | rfl | rfl | rfl | rfl | rfl | rfl
    all_goals
      have hz : ∀ l, (str l).toList = l := str_toList
      go_enter Tryz.func58, Tryz.ntmps58
      go_wp2
      go_ret
      exact ⟨rfl, rfl⟩

set_option maxHeartbeats 400000 in
theorem right_any (s : ByteArray) (w : World) (hs : s.size ≤ 1000000) :
    Calls Tryz.prog 52 #[.string s] w fun e w' => e = .returned (.bool (Tg.right s.data.toList)) ∧ Below w.heap.size w w' := by
  unfold Tg.right
  have c1 := core_any s w
  cases h1 : Tg.core s.data.toList
  · rw [h1] at c1
    clear h1
    have c2 := own_any s w hs
    rw [Bool.false_or]
    go_enter Tryz.func52, Tryz.ntmps52
    go_wp2_with fail
    refine c1.mono ?_
    rintro e w1 ⟨rfl, rfl⟩
    go_wp2_with fail
    refine c2.mono ?_
    rintro e w1 ⟨rfl, hb⟩
    go_wp2
    go_ret
    exact ⟨rfl, hb⟩
  · rw [h1] at c1
    clear h1
    rw [Bool.true_or]
    go_enter Tryz.func52, Tryz.ntmps52
    go_wp2_with fail
    refine c1.mono ?_
    rintro e w1 ⟨rfl, rfl⟩
    go_wp2
    go_ret
    exact ⟨rfl, Below.refl _ _⟩

theorem app_data (a b : ByteArray) : (a ++ b).data.toList = a.data.toList ++ b.data.toList := by
  rw [ByteArray.data_append]; simp

set_option maxHeartbeats 400000 in
theorem word_any (s : ByteArray) (w : World) (hs : s.size ≤ 1000000) :
    Calls Tryz.prog 35 #[.string s] w fun e w' => e = .returned (.string (str (Tg.word s.data.toList))) ∧ Below w.heap.size w w' := by
  unfold Tg.word
  have c1 := core_any s w
  cases h1 : Tg.core s.data.toList
  · rw [h1] at c1
    clear h1
    have c2 := right_any s w hs
    rw [if_neg (by simp)]
    cases h2 : Tg.right s.data.toList
    · rw [h2] at c2
      clear h2
      rw [if_neg (by simp)]
      go_enter Tryz.func35, Tryz.ntmps35
      go_wp2_with fail
      refine c1.mono ?_
      rintro e w1 ⟨rfl, rfl⟩
      go_wp2_with fail
      refine c2.mono ?_
      rintro e w1 ⟨rfl, hb⟩
      go_wp2
      go_ret
      exact ⟨rfl, hb⟩
    · rw [h2] at c2
      clear h2
      rw [if_pos rfl, str_eq]
      go_enter Tryz.func35, Tryz.ntmps35
      go_wp2_with fail
      refine c1.mono ?_
      rintro e w1 ⟨rfl, rfl⟩
      go_wp2_with fail
      refine c2.mono ?_
      rintro e w1 ⟨rfl, hb⟩
      go_wp2
      go_ret
      exact ⟨rfl, hb⟩
  · rw [h1] at c1
    clear h1
    rw [if_pos rfl]
    go_enter Tryz.func35, Tryz.ntmps35
    go_wp2_with fail
    refine c1.mono ?_
    rintro e w1 ⟨rfl, rfl⟩
    go_wp2
    go_ret
    exact ⟨ret_str (to_str (by rw [app_data]; rfl)), Below.refl _ _⟩



theorem Below.then {a b c : World} (h : Below a.heap.size a b) (k : Below b.heap.size b c) : Below a.heap.size a c := h.trans (k.mono h.size)

/-- Read's answer as Go gives it -/
def readE (o : Option (List UInt8)) : Ending := .returned (.tuple #[.string (str (o.getD [])), .int .i64 (if o.isSome then 0 else 14)])
theorem trim_le (l p : List UInt8) : (Lib.trimPrefix l p).length ≤ l.length := by
  unfold Lib.trimPrefix; split
  · rw [List.length_drop]; omega
  · exact Nat.le_refl _

set_option maxHeartbeats 1000000 in
theorem read_any (s : ByteArray) (w : World) (hs : s.size ≤ 1000000) :
    Calls Tryz.prog 41 #[.string s] w fun e w' => e = readE (Tg.read s.data.toList) ∧ Below w.heap.size w w' := by
  unfold Tg.read
  have c1 := trim_any s ⟨#[33, 33]⟩ w
  obtain ⟨T, hT⟩ : ∃ T, T = str (Lib.trimPrefix s.data.toList [33, 33]) := ⟨_, rfl⟩
  have hTd : Lib.trimPrefix s.data.toList [33, 33] = T.data.toList := by rw [hT]; rfl
  have hTs : T.size ≤ 1000000 := by rw [hT, str_size]; have := trim_le s.data.toList [33, 33]; rw [← Lib.size_eq] at this; omega
  rw [show (⟨#[33, 33]⟩ : ByteArray).data.toList = [33, 33] from rfl, ← hT] at c1
  rw [hTd]
  clear hT hTd
  have c2 := right_any T w hTs
  cases h1 : Tg.right T.data.toList
  · rw [h1] at c2
    clear h1
    rw [if_neg (by simp)]
    unfold readE
    simp only [Option.getD_none, Option.isSome_none, if_false, Bool.false_eq_true]
    go_enter Tryz.func41, Tryz.ntmps41
    go_wp2_with fail
    refine c1.mono ?_
    rintro e w1 ⟨rfl, rfl⟩
    go_wp2_with fail
    refine c2.mono ?_
    rintro e w1 ⟨rfl, hb⟩
    go_wp2
    go_ret2
    exact ⟨rfl, hb⟩
  · rw [h1] at c2
    clear h1
    have c3 := Lib.hid (fun w1 => word_any T w1 hTs)
    obtain ⟨Wd, hWd⟩ : ∃ Wd, Wd = str (Tg.word T.data.toList) := ⟨_, rfl⟩
    have hWl : Tg.word T.data.toList = Wd.data.toList := by rw [hWd]; rfl
    rw [← hWd] at c3
    rw [hWl]
    clear hWd hWl
    by_cases he : Wd = s
    · subst he
      rw [if_pos ⟨rfl, rfl⟩]
      unfold readE
      simp only [Option.getD_some, Option.isSome_some, if_true, str_eq]
      go_enter Tryz.func41, Tryz.ntmps41
      go_wp2_with fail
      refine c1.mono ?_
      rintro e w1 ⟨rfl, rfl⟩
      go_wp2_with fail
      refine c2.mono ?_
      rintro e w1 ⟨rfl, hb⟩
      go_wp2_with fail
      refine (c3.out w1).mono ?_
      rintro e w2 ⟨rfl, hb2⟩
      go_wp2
      go_ret2
      exact ⟨rfl, Below.then hb hb2⟩
    · have he' : Wd.data.toList ≠ s.data.toList := fun x => he (str_inj x)
      have b1 : (Wd.toList == s.toList) = false := by rw [Lib.toList_data, Lib.toList_data]; simpa using he'
      have b2 : (Wd.toList != s.toList) = true := by rw [Lib.toList_data, Lib.toList_data]; simpa using he'
      rw [if_neg (by simp [he'])]
      unfold readE
      simp only [Option.getD_none, Option.isSome_none, if_false, Bool.false_eq_true]
      clear he he'
      go_enter Tryz.func41, Tryz.ntmps41
      go_wp2_with fail
      refine c1.mono ?_
      rintro e w1 ⟨rfl, rfl⟩
      go_wp2_with fail
      refine c2.mono ?_
      rintro e w1 ⟨rfl, hb⟩
      go_wp2_with fail
      refine (c3.out w1).mono ?_
      rintro e w2 ⟨rfl, hb2⟩
      go_wp2
      go_ret2
      exact ⟨rfl, Below.then hb hb2⟩

end Tag
end Go.Proofs.YthkedlcmpibkjaaGreatDoor
