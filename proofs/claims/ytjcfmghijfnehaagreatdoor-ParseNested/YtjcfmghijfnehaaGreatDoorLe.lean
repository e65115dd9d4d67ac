/-
  Plain mathematics, no program in it: where a quoted text ends; which characters may be; hexadecimal digits.
  Walks of the small functions: isCharacter, May, digit.
  Plain mathematics, no program in it: steps of endD and endS at a place of a text.
  Plain mathematics, no program in it: the words of a line (lex), piece by piece.
  tag.Read by its contract: the plain functions of tags and their words, and the walks.
  Walks of lex: pastBlanks, isRemark, isOver, isFlow, isColon, isDash, isBar.
  Plain mathematics, no program's run in it: the runes of a text, and their bytes: a text is valid just if it is the bytes of its runes.
  Plain mathematics, no program in it: the pieces of a text (lines), their indents, marks and texts.
-/
import Derived.Test.YtjcfmghijfnehaaGreatDoorProg
import Derived.WalkKit
import Derived.WalkSpells
import Derived.WalkLawsBesides
import Derived.Lib.Hide
import Derived.Lib.TrimByte
import Derived.Lib.Strings
import Derived.Lib.IndexBytes
import Derived.Lib.ConvBytes
import Derived.Lib.AtoiErrMem
import Derived.Lib.MapLaws
import Derived.Lib.ValidLaws
namespace Go.Proofs.YtjcfmghijfnehaaGreatDoor
namespace Sc

/-- which characters may be in a text -/
def mayB (r : Int) : Bool :=
  decide (r = 9) || decide (r = 10) || decide (r = 13) || decide (r = 133) || (decide (32 ≤ r) && decide (r ≤ 126)) ||
  (decide (160 ≤ r) && decide (r ≤ 65533) && (decide (r < 55296) || decide (57343 < r)) && !decide (r = 65279)) || (decide (65536 ≤ r) && decide (r ≤ 1114111))

/-- behind a double quote: where the text ends -/
def endD : List UInt8 → Nat → Option Nat
  | [], _ => none
  | [b], k => if b = 34 then some (k + 1) else none
  | b :: c :: t, k => if b = 92 then endD t (k + 2) else if b = 34 then some (k + 1) else endD (c :: t) (k + 1)
/-- behind a single quote: where the text ends -/
def endS : List UInt8 → Nat → Option Nat
  | [], _ => none
  | [b], k => if b = 39 then some (k + 1) else none
  | b :: c :: t, k => if b = 39 then (if c = 39 then endS t (k + 2) else some (k + 1)) else endS (c :: t) (k + 1)
def endOf : List UInt8 → Option Nat
  | [] => none
  | q :: t => if q = 34 then endD t 1 else if q = 39 then endS t 1 else none

/-- the value of a hexadecimal digit -/
def digB (b : UInt8) : Option Nat :=
  if 48 ≤ b.toNat ∧ b.toNat ≤ 57 then some (b.toNat - 48) else if 97 ≤ b.toNat ∧ b.toNat ≤ 102 then some (b.toNat - 87) else if 65 ≤ b.toNat ∧ b.toNat ≤ 70 then some (b.toNat - 55) else none
end Sc
end Go.Proofs.YtjcfmghijfnehaaGreatDoor
namespace Go.Proofs.YtjcfmghijfnehaaGreatDoor
open Go.RowKit

theorem ret_bool {a b : Bool} (h : a = b) : Ending.returned (.bool a) = .returned (.bool b) := by rw [h]
theorem ret_int {k : IntKind} {a b : Int} (h : a = b) : Ending.returned (.int k a) = .returned (.int k b) := by rw [h]
theorem ret_ib {k : IntKind} {a b : Int} {x y : Bool} (h : a = b) (h' : x = y) : Ending.returned (.tuple #[.int k a, .bool x]) = .returned (.tuple #[.int k b, .bool y]) := by rw [h, h']
theorem ret_ii {k k' : IntKind} {a b x y : Int} (h : a = b) (h' : x = y) : Ending.returned (.tuple #[.int k a, .int k' x]) = .returned (.tuple #[.int k b, .int k' y]) := by rw [h, h']

def charB (n : Int) : Bool := decide (n < 55296) || (decide (57343 < n) && decide (n ≤ 1114111))

set_option maxHeartbeats 400000 in
theorem isChar_any (n : Int) (w : World) :
    Calls Tryz.prog 129 #[.int .u32 n] w fun e w' => e = .returned (.bool (charB n)) ∧ w = w' := by
  by_cases h1 : n < 55296
  · go_enter Tryz.func129, Tryz.ntmps129
    go_wp2
    go_ret
    exact ⟨ret_bool (by unfold charB; rw [Bool.eq_iff_iff]; simp; omega), rfl⟩
  · by_cases h2 : 57343 < n
    · go_enter Tryz.func129, Tryz.ntmps129
      go_wp2
      go_ret
      exact ⟨ret_bool (by unfold charB; rw [Bool.eq_iff_iff]; simp; omega), rfl⟩
    · go_enter Tryz.func129, Tryz.ntmps129
      go_wp2
      go_ret
      exact ⟨ret_bool (by unfold charB; rw [Bool.eq_iff_iff]; simp; omega), rfl⟩

set_option maxHeartbeats 400000 in
theorem may_any (r : Int) (w : World) :
    Calls Tryz.prog 80 #[.int .i32 r] w fun e w' => e = .returned (.bool (Sc.mayB r)) ∧ w = w' := by
  go_enter Tryz.func80, Tryz.ntmps80
  go_wp2_with (go_at_call 129; refine (isChar_any _ _).mono ?_; rintro e w' ⟨rfl, rfl⟩)
  all_goals go_ret
  all_goals exact ⟨ret_bool (by unfold Sc.mayB; rw [Bool.eq_iff_iff]; simp [charB] at *; omega), rfl⟩

set_option maxHeartbeats 400000 in
theorem digit_any (b : UInt8) (w : World) :
    Calls Tryz.prog 261 #[.int .u8 b.toNat] w fun e w' => e = .returned (.tuple #[.int .u32 ((Sc.digB b).getD 0), .bool (Sc.digB b).isSome]) ∧ w = w' := by
  have hb := b.toNat_lt
  go_enter Tryz.func261, Tryz.ntmps261
  go_wp2
  all_goals go_ret2
  all_goals exact ⟨ret_ib (by unfold Sc.digB; (repeat' split) <;> simp <;> omega) (by unfold Sc.digB; (repeat' split) <;> simp <;> omega), rfl⟩
end Go.Proofs.YtjcfmghijfnehaaGreatDoor
namespace Go.Proofs.YtjcfmghijfnehaaGreatDoor
namespace Sc
theorem drop_cons (s : ByteArray) (k : Nat) (h : k < s.size) : s.data.toList.drop k = s[k] :: s.data.toList.drop (k + 1) := by
  rw [List.drop_eq_getElem_cons (by simpa using h)]; rfl
theorem drop_nil (s : ByteArray) (k : Nat) (h : s.size ≤ k) : s.data.toList.drop k = [] := by
  rw [List.drop_eq_nil_iff]; simpa using h
theorem endD_bs (t : List UInt8) (k : Nat) : endD (92 :: t) k = endD (t.drop 1) (k + 2) := by
  cases t with
  | nil => simp [endD]
  | cons c t => simp [endD]
theorem endD_q (t : List UInt8) (k : Nat) : endD (34 :: t) k = some (k + 1) := by
  cases t <;> simp [endD]
theorem endD_other (b : UInt8) (t : List UInt8) (k : Nat) (h1 : b ≠ 92) (h2 : b ≠ 34) : endD (b :: t) k = endD t (k + 1) := by
  cases t <;> simp [endD, h1, h2]
theorem endS_qq (t : List UInt8) (k : Nat) : endS (39 :: 39 :: t) k = endS t (k + 2) := by simp [endS]
theorem endS_q (t : List UInt8) (k : Nat) (h : t.head? ≠ some 39) : endS (39 :: t) k = some (k + 1) := by
  cases t with
  | nil => simp [endS]
  | cons c t => simp at h; simp [endS, h]
theorem endS_other (b : UInt8) (t : List UInt8) (k : Nat) (h2 : b ≠ 39) : endS (b :: t) k = endS t (k + 1) := by
  cases t <;> simp [endS, h2]
theorem u8_eq {a : UInt8} (n : Nat) (h : a.toNat = n) : a = UInt8.ofNat n := by
  rw [← h]; simp
theorem u8_ne {a b : UInt8} (h : a.toNat ≠ b.toNat) : a ≠ b := fun e => h (by rw [e])
/-- what is told behind a step at place k of s, where the byte is c -/
theorem endD_at (s : ByteArray) (k : Nat) (h : k < s.size) :
    endD (s.data.toList.drop k) k = if (s[k].toNat : Int) = 92 then endD (s.data.toList.drop (k + 2)) (k + 2) else if (s[k].toNat : Int) = 34 then some (k + 1) else endD (s.data.toList.drop (k + 1)) (k + 1) := by
  rw [drop_cons s k h]
  by_cases h1 : (s[k].toNat : Int) = 92
  · rw [if_pos h1]
    have e : s[k] = 92 := u8_eq 92 (by omega)
    rw [e, endD_bs, List.drop_drop]
  · rw [if_neg h1]
    by_cases h2 : (s[k].toNat : Int) = 34
    · rw [if_pos h2]
      have e : s[k] = 34 := u8_eq 34 (by omega)
      rw [e, endD_q]
    · rw [if_neg h2, endD_other _ _ _ (fun e => h1 (by rw [e]; rfl)) (fun e => h2 (by rw [e]; rfl))]
end Sc
end Go.Proofs.YtjcfmghijfnehaaGreatDoor
namespace Go.Proofs.YtjcfmghijfnehaaGreatDoor
namespace Lx
/-- is a byte that number? -/
def isB (b : UInt8) (n : Int) : Bool := (b.toNat : Int) == n
/-- how many blanks are ahead -/
def blanks : List UInt8 → Nat
  | [] => 0
  | b :: t => if isB b 32 then blanks t + 1 else 0
/-- the place of the first byte from k on that is no blank -/
def past (l : List UInt8) (k : Nat) : Nat := k + blanks (l.drop k)
def remarkAt (l : List UInt8) (k : Nat) : Bool := isB (l.getD k 0) 35 && (k == 0 || isB (l.getD (k - 1) 0) 32)
def over (l : List UInt8) (k : Nat) : Bool := k == l.length || remarkAt l k
def flow (b : UInt8) : Bool := isB b 44 || isB b 91 || isB b 93 || isB b 123 || isB b 125
def colonAt (l : List UInt8) (k : Nat) : Bool := isB (l.getD k 0) 58 && (k + 1 == l.length || isB (l.getD (k + 1) 0) 32 || flow (l.getD (k + 1) 0))
def dash (l : List UInt8) : Bool := l == [45] || Lib.hasPrefix l [45, 32]
def bar (l : List UInt8) : Bool := isB (l.getD 0 0) 124 && over l (past l 1)
/-- the kind of the word that begins here -/
def kindOf (l : List UInt8) (d : Bool) : Nat :=
  let b := l.getD 0 0
  if isB b 34 then 2 else if isB b 39 then 1 else if isB b 91 then 6 else if isB b 93 then 7 else if isB b 123 then 8 else if isB b 125 then 9 else if isB b 44 then 10
  else if isB b 38 then 3 else if isB b 42 then 4 else if isB b 33 then 5 else if d && dash l then 12 else if colonAt l 0 then 11 else if bar l then 13 else 0
/-- the first place from k on, of so many, at which it ends -/
def upTo (f : Nat → Bool) (n : Nat) : Nat → Nat → Nat
  | 0, _ => n
  | m + 1, k => if k < n then (if f k then k else upTo f n m (k + 1)) else n
def endW (l : List UInt8) (k : Nat) : Bool := isB (l.getD k 0) 32 || flow (l.getD k 0) || colonAt l k
def endP (l : List UInt8) (k : Nat) : Bool := flow (l.getD k 0) || colonAt l k || remarkAt l k

theorem blanks_le (l : List UInt8) : blanks l ≤ l.length := by
  induction l with
  | nil => exact Nat.le_refl _
  | cons b t ih =>
    unfold blanks
    split
    · simp only [List.length_cons]; omega
    · simp
theorem blanks_drop (s : ByteArray) (k : Nat) (h : k < s.size) : blanks (s.data.toList.drop k) = if isB s[k] 32 then blanks (s.data.toList.drop (k + 1)) + 1 else 0 := by
  rw [Sc.drop_cons s k h]; rfl
theorem past_step (s : ByteArray) (k : Nat) (h : k < s.size) : past s.data.toList k = if isB s[k] 32 then past s.data.toList (k + 1) else k := by
  unfold past
  rw [blanks_drop s k h]
  split
  · omega
  · rfl
theorem past_end (s : ByteArray) (k : Nat) (h : s.size ≤ k) : past s.data.toList k = k := by
  unfold past
  rw [Sc.drop_nil s k h]; rfl
theorem past_ge (l : List UInt8) (k : Nat) : k ≤ past l k := by unfold past; omega
theorem past_le (l : List UInt8) (k : Nat) (h : k ≤ l.length) : past l k ≤ l.length := by
  unfold past
  have := blanks_le (l.drop k)
  rw [List.length_drop] at this; omega
theorem blanks_not (l : List UInt8) (h : blanks l < l.length) : isB (l.getD (blanks l) 0) 32 = false := by
  induction l with
  | nil => simp at h
  | cons b t ih =>
    unfold blanks at h ⊢
    by_cases hb : isB b 32 = true
    · rw [if_pos hb] at h ⊢
      simp only [List.length_cons] at h
      simpa using ih (by omega)
    · rw [if_neg hb]
      simpa using hb
theorem past_not (l : List UInt8) (k : Nat) (h : past l k < l.length) : isB (l.getD (past l k) 0) 32 = false := by
  unfold past at h ⊢
  have := blanks_not (l.drop k) (by rw [List.length_drop]; omega)
  rw [List.getD_eq_getElem?_getD, List.getElem?_drop] at this
  rw [List.getD_eq_getElem?_getD]; exact this
theorem getD_at (s : ByteArray) (k : Nat) (h : k < s.size) : s.data.toList.getD k 0 = s[k] := by
  have := Lib.data_getElem? s k h
  rw [List.getD_eq_getElem?_getD, this]; rfl
theorem upTo_step (f : Nat → Bool) (n m k : Nat) (h : k < n) : upTo f n (m + 1) k = if f k then k else upTo f n m (k + 1) := by
  rw [upTo, if_pos h]
theorem upTo_end (f : Nat → Bool) (n m k : Nat) (h : n ≤ k) : upTo f n m k = n := by
  cases m with
  | zero => rfl
  | succ m => rw [upTo, if_neg (by omega)]
theorem upTo_le (f : Nat → Bool) (n : Nat) : ∀ m k, upTo f n m k ≤ n
  | 0, _ => Nat.le_refl _
  | m + 1, k => by
    unfold upTo
    split
    · split
      · omega
      · exact upTo_le f n m (k + 1)
    · exact Nat.le_refl _
theorem upTo_ge (f : Nat → Bool) (n : Nat) : ∀ m k, k ≤ n → k ≤ upTo f n m k
  | 0, _, h => h
  | m + 1, k, h => by
    unfold upTo
    split
    · split
      · exact Nat.le_refl _
      · have := upTo_ge f n m (k + 1) (by omega); omega
    · exact h
end Lx
end Go.Proofs.YtjcfmghijfnehaaGreatDoor
namespace Go.Proofs.YtjcfmghijfnehaaGreatDoor
namespace Tg
def cores : List (List UInt8) := [[110, 117, 108, 108], [98, 111, 111, 108], [105, 110, 116], [102, 108, 111, 97, 116], [115, 116, 114], [115, 101, 113], [109, 97, 112]]
def core (l : List UInt8) : Bool := cores.contains l
def inName (b : UInt8) : Bool := (decide (65 ≤ b.toNat) && decide (b.toNat ≤ 90)) || (decide (97 ≤ b.toNat) && decide (b.toNat ≤ 122)) || (decide (48 ≤ b.toNat) && decide (b.toNat ≤ 57)) || decide (b.toNat = 45)
def isName (l : List UInt8) : Bool := !l.isEmpty && decide (l.length ≤ 40) && l.all inName
def isOwn (l : List UInt8) : Bool := Lib.hasPrefix l [33] && isName (l.drop 1)
def right (l : List UInt8) : Bool := core l || isOwn l
def word (l : List UInt8) : List UInt8 := if core l = true then [33, 33] ++ l else if right l = true then l else []
def read (w : List UInt8) : Option (List UInt8) :=
  if right (Lib.trimPrefix w [33, 33]) = true ∧ word (Lib.trimPrefix w [33, 33]) = w then some (Lib.trimPrefix w [33, 33]) else none
end Tg
namespace Tag
open Go.RowKit

theorem ret_bool {a b : Bool} (h : a = b) : Ending.returned (.bool a) = .returned (.bool b) := by rw [h]
theorem ret_int {k : IntKind} {a b : Int} (h : a = b) : Ending.returned (.int k a) = .returned (.int k b) := by rw [h]
theorem ret_str {a b : ByteArray} (h : a = b) : Ending.returned (.string a) = .returned (.string b) := by rw [h]
theorem ret_sb {a b : ByteArray} {x y : Bool} (h : a = b) (h' : x = y) : Ending.returned (.tuple #[.string a, .bool x]) = .returned (.tuple #[.string b, .bool y]) := by rw [h, h']
theorem u8_eq {a : UInt8} (n : Nat) (h : a.toNat = n) : a = UInt8.ofNat n := by
  rw [← h]; simp
/-- a string of bytes -/
def str (l : List UInt8) : ByteArray := ⟨l.toArray⟩
theorem str_data (l : List UInt8) : (str l).data.toList = l := rfl
theorem str_size (l : List UInt8) : (str l).size = l.length := by show l.toArray.size = _; simp
theorem str_eq (s : ByteArray) : str s.data.toList = s := by cases s; simp [str]
theorem str_toList (l : List UInt8) : (str l).toList = l := by rw [Lib.toList_data, str_data]
theorem str_inj {a b : ByteArray} (h : a.data.toList = b.data.toList) : a = b := by rw [← str_eq a, ← str_eq b, h]
theorem to_str {a : ByteArray} {l : List UInt8} (h : a.data.toList = l) : a = str l := str_inj h
theorem ba_isEmpty (s : ByteArray) (h : 0 < s.size) : s.toList.isEmpty = false := by
  rw [Lib.toList_data]
  cases hl : s.data.toList with
  | nil => have := Lib.size_eq s; rw [hl] at this; rw [List.length_nil] at this; omega
  | cons _ _ => rfl
theorem ba_notnil (s : ByteArray) (h : 0 < s.size) : ¬ s.toList = [] := by
  intro e; have := ba_isEmpty s h; rw [e] at this; simp at this
theorem drop_cons (s : ByteArray) (k : Nat) (h : k < s.size) : s.data.toList.drop k = s[k] :: s.data.toList.drop (k + 1) := by
  rw [List.drop_eq_getElem_cons (by simpa using h)]; rfl
theorem drop_nil (s : ByteArray) (k : Nat) (h : s.size ≤ k) : s.data.toList.drop k = [] := by
  rw [List.drop_eq_nil_iff]; simpa using h
theorem ba_list (s : ByteArray) (h : 0 < s.size) : s.data.toList = s[0] :: s.data.toList.drop 1 := drop_cons s 0 h
theorem ba_nil (s : ByteArray) (h : s.size = 0) : s = ⟨#[]⟩ := by
  cases s with
  | mk d => have hd : d.size = 0 := h
            rw [Array.size_eq_zero_iff] at hd; rw [hd]
theorem ext_drop (s : ByteArray) (k : Nat) : (s.extract k s.size).data.toList = s.data.toList.drop k := by
  rw [Lib.extract_data, List.take_of_length_le (by rw [List.length_drop, ← Lib.size_eq]; exact Nat.le_refl _)]
theorem ext_take (s : ByteArray) (n : Nat) : (s.extract 0 n).data.toList = s.data.toList.take n := by
  rw [Lib.extract_data]; simp

/-! The library's. -/
theorem pre_len (s p : ByteArray) (h : s.size < p.size) : Lib.hasPrefix s.data.toList p.data.toList = false := by
  rw [Bool.eq_false_iff]; intro hp
  unfold Lib.hasPrefix at hp
  rw [List.isPrefixOf_iff_prefix] at hp
  have := hp.length_le
  rw [← Lib.size_eq, ← Lib.size_eq] at this
  omega
theorem pre_take (s p : ByteArray) : Lib.hasPrefix s.data.toList p.data.toList = ((s.extract 0 p.size).toList == p.toList) := by
  rw [Lib.toList_data, Lib.toList_data, ext_take, Bool.eq_iff_iff]
  unfold Lib.hasPrefix
  rw [List.isPrefixOf_iff_prefix, List.prefix_iff_eq_take, Lib.size_eq, beq_iff_eq]
  exact ⟨fun h => h.symm, fun h => h.symm⟩
set_option maxHeartbeats 400000 in
theorem pre_any (s p : ByteArray) (w : World) :
    Calls Tryz.prog 77 #[.string s, .string p] w fun e w' => e = .returned (.bool (Lib.hasPrefix s.data.toList p.data.toList)) ∧ w = w' := by
  by_cases h : p.size ≤ s.size
  · have HP := Lib.hid (pre_take s p)
    have b0 : decide ((p.size : Int) ≤ (s.size : Int)) = true := decide_eq_true (by omega)
    go_enter Tryz.func77, Tryz.ntmps77
    go_wp2
    go_ret
    exact ⟨ret_bool HP.out.symm, rfl⟩
  · have b0 : decide ((p.size : Int) ≤ (s.size : Int)) = false := decide_eq_false (by omega)
    go_enter Tryz.func77, Tryz.ntmps77
    go_wp2
    go_ret
    exact ⟨ret_bool (pre_len s p (by omega)).symm, rfl⟩
theorem pre_le (s p : ByteArray) (h : Lib.hasPrefix s.data.toList p.data.toList = true) : p.size ≤ s.size := by
  rcases Nat.lt_or_ge s.size p.size with hlt | hge
  · rw [pre_len s p hlt] at h; cases h
  · exact hge
set_option maxHeartbeats 400000 in
theorem cut_yes (s p : ByteArray) (w : World) (h : Lib.hasPrefix s.data.toList p.data.toList = true) :
    Calls Tryz.prog 207 #[.string s, .string p] w fun e w' => e = .returned (.tuple #[.string (s.extract p.size s.size), .bool true]) ∧ w = w' := by
  have hl := pre_le s p h
  have c := pre_any s p w
  rw [h] at c
  clear h
  have c2 : Calls Tryz.prog 242 #[.string s, .string p] w fun e w' => e = .returned (.tuple #[.string (s.extract p.size s.size), .bool true]) ∧ w = w' := by
    go_enter Tryz.func242, Tryz.ntmps242
    go_wp2_with (go_at_call 77; refine c.mono ?_; rintro e w' ⟨rfl, rfl⟩)
    go_ret2
    exact ⟨rfl, rfl⟩
  clear c
  go_enter Tryz.func207, Tryz.ntmps207
  go_wp2_with (go_at_call 242; refine c2.mono ?_; rintro e w' ⟨rfl, rfl⟩)
  go_ret2
  exact ⟨rfl, rfl⟩
set_option maxHeartbeats 400000 in
theorem cut_no (s p : ByteArray) (w : World) (h : Lib.hasPrefix s.data.toList p.data.toList = false) :
    Calls Tryz.prog 207 #[.string s, .string p] w fun e w' => e = .returned (.tuple #[.string s, .bool false]) ∧ w = w' := by
  have c := pre_any s p w
  rw [h] at c
  clear h
  have c2 : Calls Tryz.prog 242 #[.string s, .string p] w fun e w' => e = .returned (.tuple #[.string s, .bool false]) ∧ w = w' := by
    go_enter Tryz.func242, Tryz.ntmps242
    go_wp2_with (go_at_call 77; refine c.mono ?_; rintro e w' ⟨rfl, rfl⟩)
    go_ret2
    exact ⟨rfl, rfl⟩
  clear c
  go_enter Tryz.func207, Tryz.ntmps207
  go_wp2_with (go_at_call 242; refine c2.mono ?_; rintro e w' ⟨rfl, rfl⟩)
  go_ret2
  exact ⟨rfl, rfl⟩
theorem trim_yes' (s p : ByteArray) (h : Lib.hasPrefix s.data.toList p.data.toList = true) : s.extract p.size s.size = str (Lib.trimPrefix s.data.toList p.data.toList) := by
  apply to_str; rw [ext_drop, Lib.size_eq p]; unfold Lib.trimPrefix; rw [if_pos h]
theorem trim_no' (s p : ByteArray) (h : Lib.hasPrefix s.data.toList p.data.toList = false) : s = str (Lib.trimPrefix s.data.toList p.data.toList) := by
  apply to_str; unfold Lib.trimPrefix; rw [if_neg (by simp [h])]
set_option maxHeartbeats 400000 in
theorem trim_any (s p : ByteArray) (w : World) :
    Calls Tryz.prog 195 #[.string s, .string p] w fun e w' => e = .returned (.string (str (Lib.trimPrefix s.data.toList p.data.toList))) ∧ w = w' := by
  have c2 : Calls Tryz.prog 235 #[.string s, .string p] w fun e w' => e = .returned (.string (str (Lib.trimPrefix s.data.toList p.data.toList))) ∧ w = w' := by
    have c := pre_any s p w
    cases h : Lib.hasPrefix s.data.toList p.data.toList
    · rw [h] at c
      have H := Lib.hid (trim_no' s p h)
      clear h
      go_enter Tryz.func235, Tryz.ntmps235
      go_wp2_with (go_at_call 77; refine c.mono ?_; rintro e w' ⟨rfl, rfl⟩)
      go_ret
      exact ⟨ret_str H.out, rfl⟩
    · rw [h] at c
      have H := Lib.hid (trim_yes' s p h)
      have hl := pre_le s p h
      clear h
      go_enter Tryz.func235, Tryz.ntmps235
      go_wp2_with (go_at_call 77; refine c.mono ?_; rintro e w' ⟨rfl, rfl⟩)
      go_ret
      exact ⟨ret_str H.out, rfl⟩
  go_enter Tryz.func195, Tryz.ntmps195
  go_wp2_with (go_at_call 235; refine c2.mono ?_; rintro e w' ⟨rfl, rfl⟩)
  go_ret
  exact ⟨rfl, rfl⟩

/-! The program's. -/
theorem ext_size_le (s : ByteArray) (k : Nat) : (s.extract k s.size).size ≤ s.size := by
  rw [Lib.size_eq, ext_drop, List.length_drop, ← Lib.size_eq]; omega



set_option maxHeartbeats 400000 in
theorem inName_any (b : UInt8) (w : World) :
    Calls Tryz.prog 258 #[.int .u8 b.toNat] w fun e w' => e = .returned (.bool (Tg.inName b)) ∧ w = w' := by
  have hb := b.toNat_lt
  go_enter Tryz.func258, Tryz.ntmps258
  go_wp2
  all_goals go_ret
  all_goals exact ⟨ret_bool (by unfold Tg.inName; rw [Bool.eq_iff_iff]; simp at *; omega), rfl⟩

theorem all_at (s : ByteArray) (k : Nat) (h : k < s.size) : (s.data.toList.drop k).all Tg.inName = (Tg.inName s[k] && (s.data.toList.drop (k + 1)).all Tg.inName) := by
  rw [drop_cons s k h, List.all_cons]
theorem getD_at (s : ByteArray) (k : Nat) (h : k < s.size) : s.data.toList.getD k 0 = s[k] := by
  rw [List.getD_eq_getElem?_getD, List.getElem?_eq_getElem (by rw [← Lib.size_eq]; exact h)]; rfl

set_option maxHeartbeats 1000000 in
set_option maxRecDepth 100000 in
theorem name_any (s : ByteArray) (w : World) (hs : s.size ≤ 1000000) :
    Calls Tryz.prog 228 #[.string s] w fun e w' => e = .returned (.bool (Tg.isName s.data.toList)) ∧ Below w.heap.size w w' := by
  by_cases h0 : s.size = 0
  · obtain rfl := ba_nil s h0
    clear h0
    go_enter Tryz.func228, Tryz.ntmps228
    go_wp2
    go_ret
    exact ⟨rfl, Below.refl _ _⟩
  · have hp : 0 < s.size := by omega
    have hemp := ba_isEmpty s hp
    have hnil := ba_notnil s hp
    have hne : s.data.toList.isEmpty = false := by rw [← Lib.toList_data]; exact hemp
    unfold Tg.isName
    rw [hne, ← Lib.size_eq]
    clear hne
    by_cases h4 : s.size ≤ 40
    · have b1 : decide ((40 : Int) < (s.size : Int)) = false := decide_eq_false (by omega)
      rw [decide_eq_true h4]
      obtain ⟨ANS, hANS⟩ : ∃ ANS, s.data.toList.all Tg.inName = ANS := ⟨_, rfl⟩
      rw [hANS]
      have HA : Hid ((s.data.toList.drop 0).all Tg.inName = ANS) := hANS
      clear hANS
      have hcv := Lib.run_convert_string_bytes (P := Tryz.prog) w 9 53 5 s (u := .string) Tryz.underlying9 Tryz.underlying53 Tryz.underlying5
      have hbw := Lib.bytesWorld_below w 5 s
      have HC := Lib.hid (fun j hj => Lib.bytesWorld_cell w 5 s j hj)
      generalize Lib.bytesWorld w 5 s = W1 at hcv hbw HC
      go_enter Tryz.func228, Tryz.ntmps228
      go_wp2
      go_loop [15] (fun i => ∃ k : Nat, k ≤ s.size ∧ i = .int .i64 k ∧ Hid ((s.data.toList.drop k).all Tg.inName = ANS)) (fun i => s.size - (intOf i).toNat)
      case atStart => exact ⟨0, by omega, rfl, HA⟩
      case round =>
        obtain ⟨k, hk, rfl, HK⟩ := hrel
        clear HA hcv
        by_cases hlt : k < s.size
        · have HS : Hid (_ = _) := all_at s k hlt
          have hc := HC.out k hlt
          rw [getD_at s k hlt] at hc
          have cI := inName_any s[k] W1
          cases hi : Tg.inName s[k]
          · rw [hi] at cI
            have HF : Hid (ANS = false) := by have h := HK.out; rw [HS.out, hi, Bool.false_and] at h; exact h.symm
            clear HS HK hi
            go_wp2_with (go_at_call 258; refine cI.mono ?_; rintro e w' ⟨rfl, rfl⟩)
            go_ret
            exact ⟨ret_bool (by rw [HF.out] <;> rfl), hbw⟩
          · rw [hi] at cI
            have HN : Hid ((s.data.toList.drop (k + 1)).all Tg.inName = ANS) := by have h := HK.out; rw [HS.out, hi, Bool.true_and] at h; exact h
            clear HS HK hi
            go_wp2_with (go_at_call 258; refine cI.mono ?_; rintro e w' ⟨rfl, rfl⟩)
            go_round
            case rel => exact ⟨k + 1, by omega, by go_num, HN⟩
            case measure => simp [intOf]; omega
        · have HF : Hid (ANS = true) := by have h := HK.out; rw [drop_nil s k (by omega)] at h; exact h.symm
          clear HK
          go_wp2
          go_ret
          exact ⟨ret_bool (by rw [HF.out] <;> rfl), hbw⟩
    · have b1 : decide ((40 : Int) < (s.size : Int)) = true := decide_eq_true (by omega)
      rw [decide_eq_false h4]
      go_enter Tryz.func228, Tryz.ntmps228
      go_wp2
      go_ret
      exact ⟨rfl, Below.refl _ _⟩

set_option maxHeartbeats 400000 in
theorem own_any (s : ByteArray) (w : World) (hs : s.size ≤ 1000000) :
    Calls Tryz.prog 184 #[.string s] w fun e w' => e = .returned (.bool (Tg.isOwn s.data.toList)) ∧ Below w.heap.size w w' := by
  unfold Tg.isOwn
  cases h1 : Lib.hasPrefix s.data.toList [33]
  · have c1 := cut_no s ⟨#[33]⟩ w h1
    clear h1
    rw [Bool.false_and]
    go_enter Tryz.func184, Tryz.ntmps184
    go_wp2_with fail
    refine c1.mono ?_
    rintro e w1 ⟨rfl, rfl⟩
    go_wp2
    go_ret
    exact ⟨rfl, Below.refl _ _⟩
  · have c1 := cut_yes s ⟨#[33]⟩ w h1
    clear h1
    rw [Bool.true_and]
    obtain ⟨T, hT⟩ : ∃ T, T = s.extract (⟨#[33]⟩ : ByteArray).size s.size := ⟨_, rfl⟩
    have hTd : s.data.toList.drop 1 = T.data.toList := by rw [hT, ext_drop]; rfl
    have hTs : T.size ≤ 1000000 := by have := ext_size_le s (⟨#[33]⟩ : ByteArray).size; rw [← hT] at this; omega
    rw [← hT] at c1
    rw [hTd]
    clear hT hTd
    have c2 := name_any T w hTs
    go_enter Tryz.func184, Tryz.ntmps184
    go_wp2_with fail
    refine c1.mono ?_
    rintro e w1 ⟨rfl, rfl⟩
    go_wp2_with fail
    refine c2.mono ?_
    rintro e w1 ⟨rfl, hb⟩
    go_wp2
    go_ret
    exact ⟨rfl, hb⟩

theorem in_words {s : ByteArray} {l : List (List UInt8)} (h : l.contains s.data.toList = true) : ∃ x ∈ l, s = str x := by
  rw [List.contains_iff_mem] at h
  exact ⟨_, h, (str_eq s).symm⟩
theorem not_words {s : ByteArray} {l : List (List UInt8)} (h : l.contains s.data.toList = false) : ∀ x ∈ l, (s.toList == x) = false := by
  intro x hx
  rw [Lib.toList_data]
  rw [beq_eq_false_iff_ne]
  rintro rfl
  rw [List.contains_iff_mem.2 hx] at h
  cases h

set_option maxHeartbeats 1000000 in
theorem core_any (s : ByteArray) (w : World) :
    Calls Tryz.prog 183 #[.string s] w fun e w' => e = .returned (.bool (Tg.core s.data.toList)) ∧ w = w' := by
  unfold Tg.core
  cases h2 : Tg.cores.contains s.data.toList
  · have n2 := not_words h2
    have d1 := n2 [110, 117, 108, 108] (by decide)
    have d2 := n2 [98, 111, 111, 108] (by decide)
    have d3 := n2 [105, 110, 116] (by decide)
    have d4 := n2 [102, 108, 111, 97, 116] (by decide)
    have d5 := n2 [115, 116, 114] (by decide)
    have d6 := n2 [115, 101, 113] (by decide)
    have d7 := n2 [109, 97, 112] (by decide)
    clear n2 h2
    go_enter Tryz.func183, Tryz.ntmps183
    go_wp2
    go_ret
    exact ⟨rfl, rfl⟩
  · obtain ⟨x, hx, rfl⟩ := in_words h2
    clear h2
    simp only [Tg.cores, List.mem_cons, List.not_mem_nil, or_false] at hx
    rcases hx with rfl | rfl | rfl | rfl | rfl | rfl | rfl
    all_goals
      have hz : ∀ l, (str l).toList = l := str_toList
      go_enter Tryz.func183, Tryz.ntmps183
      go_wp2
      go_ret
      exact ⟨rfl, rfl⟩

set_option maxHeartbeats 400000 in
theorem right_any (s : ByteArray) (w : World) (hs : s.size ≤ 1000000) :
    Calls Tryz.prog 117 #[.string s] w fun e w' => e = .returned (.bool (Tg.right s.data.toList)) ∧ Below w.heap.size w w' := by
  unfold Tg.right
  have c1 := core_any s w
  cases h1 : Tg.core s.data.toList
  · rw [h1] at c1
    clear h1
    have c2 := own_any s w hs
    rw [Bool.false_or]
    go_enter Tryz.func117, Tryz.ntmps117
    go_wp2_with fail
    refine c1.mono ?_
    rintro e w1 ⟨rfl, rfl⟩
    go_wp2_with fail
    refine c2.mono ?_
    rintro e w1 ⟨rfl, hb⟩
    go_wp2
    go_ret
    exact ⟨rfl, hb⟩
  · rw [h1] at c1
    clear h1
    rw [Bool.true_or]
    go_enter Tryz.func117, Tryz.ntmps117
    go_wp2_with fail
    refine c1.mono ?_
    rintro e w1 ⟨rfl, rfl⟩
    go_wp2
    go_ret
    exact ⟨rfl, Below.refl _ _⟩

theorem app_data (a b : ByteArray) : (a ++ b).data.toList = a.data.toList ++ b.data.toList := by
  rw [ByteArray.data_append]; simp

set_option maxHeartbeats 400000 in
theorem word_any (s : ByteArray) (w : World) (hs : s.size ≤ 1000000) :
    Calls Tryz.prog 196 #[.string s] w fun e w' => e = .returned (.string (str (Tg.word s.data.toList))) ∧ Below w.heap.size w w' := by
  unfold Tg.word
  have c1 := core_any s w
  cases h1 : Tg.core s.data.toList
  · rw [h1] at c1
    clear h1
    have c2 := right_any s w hs
    rw [if_neg (by simp)]
    cases h2 : Tg.right s.data.toList
    · rw [h2] at c2
      clear h2
      rw [if_neg (by simp)]
      go_enter Tryz.func196, Tryz.ntmps196
      go_wp2_with fail
      refine c1.mono ?_
      rintro e w1 ⟨rfl, rfl⟩
      go_wp2_with fail
      refine c2.mono ?_
      rintro e w1 ⟨rfl, hb⟩
      go_wp2
      go_ret
      exact ⟨rfl, hb⟩
    · rw [h2] at c2
      clear h2
      rw [if_pos rfl, str_eq]
      go_enter Tryz.func196, Tryz.ntmps196
      go_wp2_with fail
      refine c1.mono ?_
      rintro e w1 ⟨rfl, rfl⟩
      go_wp2_with fail
      refine c2.mono ?_
      rintro e w1 ⟨rfl, hb⟩
      go_wp2
      go_ret
      exact ⟨rfl, hb⟩
  · rw [h1] at c1
    clear h1
    rw [if_pos rfl]
    go_enter Tryz.func196, Tryz.ntmps196
    go_wp2_with fail
    refine c1.mono ?_
    rintro e w1 ⟨rfl, rfl⟩
    go_wp2
    go_ret
    exact ⟨ret_str (to_str (by rw [app_data]; rfl)), Below.refl _ _⟩



theorem Below.then {a b c : World} (h : Below a.heap.size a b) (k : Below b.heap.size b c) : Below a.heap.size a c := h.trans (k.mono h.size)

/-- Read's answer as Go gives it -/
def readE (o : Option (List UInt8)) : Ending := .returned (.tuple #[.string (str (o.getD [])), .int .i64 (if o.isSome then 0 else 14)])
theorem trim_le (l p : List UInt8) : (Lib.trimPrefix l p).length ≤ l.length := by
  unfold Lib.trimPrefix; split
  · rw [List.length_drop]; omega
  · exact Nat.le_refl _

set_option maxHeartbeats 1000000 in
theorem read_any (s : ByteArray) (w : World) (hs : s.size ≤ 1000000) :
    Calls Tryz.prog 142 #[.string s] w fun e w' => e = readE (Tg.read s.data.toList) ∧ Below w.heap.size w w' := by
  unfold Tg.read
  have c1 := trim_any s ⟨#[33, 33]⟩ w
  obtain ⟨T, hT⟩ : ∃ T, T = str (Lib.trimPrefix s.data.toList [33, 33]) := ⟨_, rfl⟩
  have hTd : Lib.trimPrefix s.data.toList [33, 33] = T.data.toList := by rw [hT]; rfl
  have hTs : T.size ≤ 1000000 := by rw [hT, str_size]; have := trim_le s.data.toList [33, 33]; rw [← Lib.size_eq] at this; omega
  rw [show (⟨#[33, 33]⟩ : ByteArray).data.toList = [33, 33] from rfl, ← hT] at c1
  rw [hTd]
  clear hT hTd
  have c2 := right_any T w hTs
  cases h1 : Tg.right T.data.toList
  · rw [h1] at c2
    clear h1
    rw [if_neg (by simp)]
    unfold readE
    simp only [Option.getD_none, Option.isSome_none, if_false, Bool.false_eq_true]
    go_enter Tryz.func142, Tryz.ntmps142
    go_wp2_with fail
    refine c1.mono ?_
    rintro e w1 ⟨rfl, rfl⟩
    go_wp2_with fail
    refine c2.mono ?_
    rintro e w1 ⟨rfl, hb⟩
    go_wp2
    go_ret2
    exact ⟨rfl, hb⟩
  · rw [h1] at c2
    clear h1
    have c3 := Lib.hid (fun w1 => word_any T w1 hTs)
    obtain ⟨Wd, hWd⟩ : ∃ Wd, Wd = str (Tg.word T.data.toList) := ⟨_, rfl⟩
    have hWl : Tg.word T.data.toList = Wd.data.toList := by rw [hWd]; rfl
    rw [← hWd] at c3
    rw [hWl]
    clear hWd hWl
    by_cases he : Wd = s
    · subst he
      rw [if_pos ⟨rfl, rfl⟩]
      unfold readE
      simp only [Option.getD_some, Option.isSome_some, if_true, str_eq]
      go_enter Tryz.func142, Tryz.ntmps142
      go_wp2_with fail
      refine c1.mono ?_
      rintro e w1 ⟨rfl, rfl⟩
      go_wp2_with fail
      refine c2.mono ?_
      rintro e w1 ⟨rfl, hb⟩
      go_wp2_with fail
      refine (c3.out w1).mono ?_
      rintro e w2 ⟨rfl, hb2⟩
      go_wp2
      go_ret2
      exact ⟨rfl, Below.then hb hb2⟩
    · have he' : Wd.data.toList ≠ s.data.toList := fun x => he (str_inj x)
      have b1 : (Wd.toList == s.toList) = false := by rw [Lib.toList_data, Lib.toList_data]; simpa using he'
      have b2 : (Wd.toList != s.toList) = true := by rw [Lib.toList_data, Lib.toList_data]; simpa using he'
      rw [if_neg (by simp [he'])]
      unfold readE
      simp only [Option.getD_none, Option.isSome_none, if_false, Bool.false_eq_true]
      clear he he'
      go_enter Tryz.func142, Tryz.ntmps142
      go_wp2_with fail
      refine c1.mono ?_
      rintro e w1 ⟨rfl, rfl⟩
      go_wp2_with fail
      refine c2.mono ?_
      rintro e w1 ⟨rfl, hb⟩
      go_wp2_with fail
      refine (c3.out w1).mono ?_
      rintro e w2 ⟨rfl, hb2⟩
      go_wp2
      go_ret2
      exact ⟨rfl, Below.then hb hb2⟩

end Tag
end Go.Proofs.YtjcfmghijfnehaaGreatDoor
namespace Go.Proofs.YtjcfmghijfnehaaGreatDoor
open Go.RowKit

theorem ba_len (s : ByteArray) : s.data.toList.length = s.size := by rw [← Lib.size_eq]

set_option maxHeartbeats 1000000 in
theorem past_any (s : ByteArray) (k : Nat) (w : World) (hs : s.size ≤ 1000000) (hk : k ≤ s.size) :
    Calls Tryz.prog 47 #[.string s, .int .i64 k] w fun e w' => e = .returned (.int .i64 (Lx.past s.data.toList k : Nat)) ∧ w = w' := by
  obtain ⟨ANS, hANS⟩ : ∃ ANS, Lx.past s.data.toList k = ANS := ⟨_, rfl⟩
  rw [hANS]
  have HA := Lib.hid hANS
  clear hANS
  go_enter Tryz.func47, Tryz.ntmps47
  go_wp2
  go_loop [1] (fun i => ∃ j : Nat, j ≤ s.size ∧ i = .int .i64 j ∧ Hid (Lx.past s.data.toList j = ANS)) (fun i => s.size - (intOf i).toNat)
  case atStart => exact ⟨k, hk, rfl, HA⟩
  case round =>
    obtain ⟨j, hj, rfl, HK⟩ := hrel
    clear HA
    by_cases hlt : j < s.size
    · have HS := Lib.hid (Lx.past_step s j hlt)
      by_cases c : Lx.isB s[j] 32 = true
      · have HN : Hid (Lx.past s.data.toList (j + 1) = ANS) := by
          have := HS.out; rw [if_pos c] at this; exact this.symm.trans HK.out
        have b1 : ((s[j].toNat : Int) == 32) = true := c
        clear HS HK c
        go_wp2
        go_round
        case rel => exact ⟨j + 1, by omega, by go_num, HN⟩
        case measure => simp [intOf]; omega
      · have HN : Hid (j = ANS) := by
          have := HS.out; rw [if_neg c] at this; exact this.symm.trans HK.out
        have b1 : ((s[j].toNat : Int) == 32) = false := by simpa [Lx.isB] using c
        clear HS HK c
        go_wp2
        go_ret
        exact ⟨by rw [← HN.out]; rfl, rfl⟩
    · have HN : Hid (j = ANS) := by
        have := HK.out; rw [Lx.past_end s j (by omega)] at this; exact this
      clear HK
      go_wp2
      go_ret
      exact ⟨by rw [← HN.out]; rfl, rfl⟩

set_option maxHeartbeats 1000000 in
theorem remark_any (s : ByteArray) (k : Nat) (w : World) (hs : s.size ≤ 1000000) (hk : k < s.size) :
    Calls Tryz.prog 81 #[.string s, .int .i64 k] w fun e w' => e = .returned (.bool (Lx.remarkAt s.data.toList k)) ∧ w = w' := by
  have e1 := Lx.getD_at s k hk
  unfold Lx.remarkAt
  rw [e1]
  by_cases h0 : k = 0
  · subst h0
    unfold Lx.isB
    go_enter Tryz.func81, Tryz.ntmps81
    go_wp2
    all_goals go_ret
    all_goals exact ⟨ret_bool (by simp_all), rfl⟩
  · have e2 := Lx.getD_at s (k - 1) (by omega)
    rw [e2]
    have h0' : (k == 0) = false := beq_eq_false_iff_ne.2 h0
    rw [h0', Bool.false_or]
    unfold Lx.isB
    have hz : (((k : Nat) : Int) == 0) = false := beq_eq_false_iff_ne.2 (by omega)
    go_enter Tryz.func81, Tryz.ntmps81
    go_wp2
    all_goals go_ret
    all_goals exact ⟨ret_bool (by simp_all), rfl⟩

set_option maxHeartbeats 1000000 in
theorem over_any (s : ByteArray) (k : Nat) (w : World) (hs : s.size ≤ 1000000) (hk : k ≤ s.size) :
    Calls Tryz.prog 48 #[.string s, .int .i64 k] w fun e w' => e = .returned (.bool (Lx.over s.data.toList k)) ∧ w = w' := by
  unfold Lx.over
  rw [ba_len]
  by_cases h0 : k = s.size
  · subst h0
    go_enter Tryz.func48, Tryz.ntmps48
    go_wp2
    all_goals go_ret
    all_goals exact ⟨ret_bool (by simp), rfl⟩
  · have h1 : (k == s.size) = false := beq_eq_false_iff_ne.2 h0
    have h2 : ((k : Int) == (s.size : Int)) = false := beq_eq_false_iff_ne.2 (by omega)
    rw [h1, Bool.false_or]
    go_enter Tryz.func48, Tryz.ntmps48
    go_wp2_with (go_at_call 81; refine (remark_any s k _ hs (by omega)).mono ?_; rintro e w' ⟨rfl, rfl⟩)
    all_goals go_ret
    all_goals exact ⟨rfl, rfl⟩

set_option maxHeartbeats 1000000 in
theorem flow_any (b : UInt8) (w : World) :
    Calls Tryz.prog 136 #[.int .u8 b.toNat] w fun e w' => e = .returned (.bool (Lx.flow b)) ∧ w = w' := by
  have hb := b.toNat_lt
  unfold Lx.flow Lx.isB
  go_enter Tryz.func136, Tryz.ntmps136
  go_wp2
  all_goals go_ret
  all_goals exact ⟨ret_bool (by simp_all), rfl⟩

set_option maxHeartbeats 1000000 in
theorem colon_any (s : ByteArray) (k : Nat) (w : World) (hs : s.size ≤ 1000000) (hk : k < s.size) :
    Calls Tryz.prog 131 #[.string s, .int .i64 k] w fun e w' => e = .returned (.bool (Lx.colonAt s.data.toList k)) ∧ w = w' := by
  have e1 := Lx.getD_at s k hk
  unfold Lx.colonAt
  rw [e1, ba_len]
  by_cases h1 : k + 1 = s.size
  · have h2 : (k + 1 == s.size) = true := beq_iff_eq.2 h1
    have h3 : ((k : Int) + 1 == (s.size : Int)) = true := beq_iff_eq.2 (by omega)
    rw [h2]
    unfold Lx.isB
    go_enter Tryz.func131, Tryz.ntmps131
    go_wp2
    all_goals go_ret
    all_goals exact ⟨ret_bool (by simp_all), rfl⟩
  · have h2 : (k + 1 == s.size) = false := beq_eq_false_iff_ne.2 h1
    have h3 : ((k : Int) + 1 == (s.size : Int)) = false := beq_eq_false_iff_ne.2 (by omega)
    have h4 : k + 1 < s.size := by omega
    rw [h2, Lx.getD_at s (k + 1) h4, Bool.false_or]
    unfold Lx.isB
    generalize hF : Lx.flow s[k + 1] = F
    have cF := fun w => flow_any s[k + 1] w
    rw [hF] at cF
    have HC := Lib.hid cF
    clear cF hF h1 e1
    go_enter Tryz.func131, Tryz.ntmps131
    go_wp2_with (go_at_call 136; refine (HC.out _).mono ?_; rintro e w' ⟨rfl, rfl⟩)
    all_goals go_ret
    all_goals exact ⟨ret_bool (by clear HC; simp_all), rfl⟩

set_option maxHeartbeats 1000000 in
theorem dash_any (s : ByteArray) (w : World) :
    Calls Tryz.prog 130 #[.string s] w fun e w' => e = .returned (.bool (Lx.dash s.data.toList)) ∧ w = w' := by
  unfold Lx.dash
  have hl : (s.data.toList == [45]) = (s.toList == [45]) := by rw [Lib.toList_data]
  rw [hl]
  generalize hP : Lib.hasPrefix s.data.toList [45, 32] = P
  have cP := fun w => Tag.pre_any s ⟨#[45, 32]⟩ w
  have hP' : Lib.hasPrefix s.data.toList (⟨#[45, 32]⟩ : ByteArray).data.toList = P := hP
  rw [hP'] at cP
  have HC := Lib.hid cP
  clear cP hP hP' hl
  go_enter Tryz.func130, Tryz.ntmps130
  go_wp2_with (first | (go_at_call 77; refine (HC.out _).mono ?_; rintro e w' ⟨rfl, rfl⟩) | go_in)
  all_goals go_ret
  all_goals exact ⟨ret_bool (by clear HC; simp_all), rfl⟩

set_option maxHeartbeats 1000000 in
theorem bar_any (s : ByteArray) (w : World) (hs : s.size ≤ 1000000) (h0 : 0 < s.size) :
    Calls Tryz.prog 132 #[.string s] w fun e w' => e = .returned (.bool (Lx.bar s.data.toList)) ∧ w = w' := by
  unfold Lx.bar
  rw [Lx.getD_at s 0 h0]
  have cP := fun w => past_any s 1 w hs (by omega)
  have hle := Lx.past_le s.data.toList 1 (by rw [ba_len]; omega)
  rw [ba_len] at hle
  generalize hK : Lx.past s.data.toList 1 = K at *
  have cO := fun w => over_any s K w hs hle
  generalize hF : Lx.over s.data.toList K = F at *
  have HP := Lib.hid cP
  have HO := Lib.hid cO
  unfold Lx.isB
  clear cP cO hF hK
  go_enter Tryz.func132, Tryz.ntmps132
  go_wp2_with (first
    | (go_at_call 47; refine (HP.out _).mono ?_; rintro e w' ⟨rfl, rfl⟩)
    | (go_at_call 48; refine (HO.out _).mono ?_; rintro e w' ⟨rfl, rfl⟩))
  all_goals go_ret
  all_goals exact ⟨ret_bool (by clear HP HO; simp_all), rfl⟩
end Go.Proofs.YtjcfmghijfnehaaGreatDoor
namespace Go.Proofs.YtjcfmghijfnehaaGreatDoor
namespace Sc
open Go.Lib

/-- is a number a character? -/
def isCh (r : Nat) : Prop := r < 55296 ∨ (57343 < r ∧ r ≤ 1114111)
instance (r : Nat) : Decidable (isCh r) := inferInstanceAs (Decidable (_ ∨ _))
/-- the bytes of a rune -/
def enc (r : Nat) : List UInt8 := encodeRune (r : Int)

/-- the runes of a text, with fuel -/
def rnsGo : Nat → List UInt8 → List Nat
  | 0, _ => []
  | n + 1, l => if l = [] then [] else (decodeL l).1 :: rnsGo n (l.drop (decodeL l).2)
def rns (l : List UInt8) : List Nat := rnsGo l.length l

theorem rnsGo_nil (n : Nat) : rnsGo n [] = [] := by cases n <;> simp [rnsGo]
theorem rnsGo_fuel : ∀ (n m : Nat) (l : List UInt8), l.length ≤ n → l.length ≤ m → rnsGo n l = rnsGo m l
  | 0, m, l, h, _ => by
    have : l = [] := List.eq_nil_of_length_eq_zero (by omega)
    subst this; rw [rnsGo_nil, rnsGo_nil]
  | n + 1, 0, l, _, h => by
    have : l = [] := List.eq_nil_of_length_eq_zero (by omega)
    subst this; rw [rnsGo_nil, rnsGo_nil]
  | n + 1, m + 1, l, h1, h2 => by
    by_cases hl : l = []
    · subst hl; rw [rnsGo_nil, rnsGo_nil]
    · simp only [rnsGo, if_neg hl]
      have hw := decodeL_width l
      rw [rnsGo_fuel n m _ (by rw [List.length_drop]; omega) (by rw [List.length_drop]; omega)]
theorem rns_nil : rns [] = [] := rfl
theorem rns_step (l : List UInt8) (hl : l ≠ []) : rns l = (decodeL l).1 :: rns (l.drop (decodeL l).2) := by
  have hp : 0 < l.length := List.length_pos_iff.2 hl
  have hw := decodeL_width l
  unfold rns
  obtain ⟨n, hn⟩ : ∃ n, l.length = n + 1 := ⟨l.length - 1, by omega⟩
  rw [hn]
  simp only [rnsGo, if_neg hl]
  rw [rnsGo_fuel n (l.drop (decodeL l).2).length _ (by rw [List.length_drop]; omega) (Nat.le_refl _)]

theorem enc1 (r : Nat) (h : r ≤ 127) : enc r = [UInt8.ofNat r] := by
  unfold enc encodeRune
  rw [encodeRuneZ_one (by omega) (by omega)]
  simp
theorem enc2 (r : Nat) (h0 : 128 ≤ r) (h : r ≤ 2047) : enc r = [UInt8.ofNat (192 + r / 64), UInt8.ofNat (128 + r % 64)] := by
  unfold enc encodeRune
  rw [encodeRuneZ_two (by omega) (by omega)]
  simp only [List.map_cons, List.map_nil]
  have e1 : (192 + (r : Int) / 64).toNat = 192 + r / 64 := by omega
  have e2 : (128 + (r : Int) % 64).toNat = 128 + r % 64 := by omega
  rw [e1, e2]
theorem enc3 (r : Nat) (h : (2048 ≤ r ∧ r < 55296) ∨ (57343 < r ∧ r ≤ 65535)) : enc r = [UInt8.ofNat (224 + r / 4096), UInt8.ofNat (128 + r / 64 % 64), UInt8.ofNat (128 + r % 64)] := by
  unfold enc encodeRune
  rw [encodeRuneZ_three (by omega)]
  simp only [List.map_cons, List.map_nil]
  have e1 : (224 + (r : Int) / 4096).toNat = 224 + r / 4096 := by omega
  have e2 : (128 + (r : Int) / 64 % 64).toNat = 128 + r / 64 % 64 := by omega
  have e3 : (128 + (r : Int) % 64).toNat = 128 + r % 64 := by omega
  rw [e1, e2, e3]
theorem enc4 (r : Nat) (h0 : 65536 ≤ r) (h : r ≤ 1114111) : enc r = [UInt8.ofNat (240 + r / 262144), UInt8.ofNat (128 + r / 4096 % 64), UInt8.ofNat (128 + r / 64 % 64), UInt8.ofNat (128 + r % 64)] := by
  unfold enc encodeRune
  rw [encodeRuneZ_four (by omega) (by omega)]
  simp only [List.map_cons, List.map_nil]
  have e1 : (240 + (r : Int) / 262144).toNat = 240 + r / 262144 := by omega
  have e2 : (128 + (r : Int) / 4096 % 64).toNat = 128 + r / 4096 % 64 := by omega
  have e3 : (128 + (r : Int) / 64 % 64).toNat = 128 + r / 64 % 64 := by omega
  have e4 : (128 + (r : Int) % 64).toNat = 128 + r % 64 := by omega
  rw [e1, e2, e3, e4]
theorem toNat_of (n : Nat) (h : n < 256) : (UInt8.ofNat n).toNat = n := by
  rw [UInt8.toNat_ofNat']; omega

theorem decode_enc (r : Nat) (t : List UInt8) (h : isCh r) : decodeL (enc r ++ t) = (r, (enc r).length) := by
  unfold isCh at h
  rw [decodeL_N]
  by_cases h1 : r ≤ 127
  · rw [enc1 r h1]
    simp only [List.cons_append, List.nil_append, List.getD_cons_zero, List.length_cons, List.length_nil]
    rw [toNat_of r (by omega)]
    unfold decodeN
    rw [if_pos (by omega)]
  · by_cases h2 : r ≤ 2047
    · rw [enc2 r (by omega) h2]
      simp only [List.cons_append, List.nil_append, List.getD_cons_zero, List.getD_cons_succ, List.length_cons, List.length_nil]
      rw [toNat_of _ (by omega), toNat_of _ (by omega)]
      unfold decodeN
      rw [if_neg (by omega), if_pos (by omega), if_pos (by omega)]
      rw [Prod.mk.injEq]; omega
    · by_cases h3 : r ≤ 65535
      · rw [enc3 r (by omega)]
        simp only [List.cons_append, List.nil_append, List.getD_cons_zero, List.getD_cons_succ, List.length_cons, List.length_nil]
        rw [toNat_of _ (by omega), toNat_of _ (by omega), toNat_of _ (by omega)]
        unfold decodeN
        rw [if_neg (by omega), if_neg (by omega), if_pos (by omega), if_pos (by omega)]
        rw [Prod.mk.injEq]; omega
      · rw [enc4 r (by omega) (by omega)]
        simp only [List.cons_append, List.nil_append, List.getD_cons_zero, List.getD_cons_succ, List.length_cons, List.length_nil]
        rw [toNat_of _ (by omega), toNat_of _ (by omega), toNat_of _ (by omega), toNat_of _ (by omega)]
        unfold decodeN
        rw [if_neg (by omega), if_neg (by omega), if_neg (by omega), if_pos (by omega), if_pos (by omega)]
        rw [Prod.mk.injEq]; omega

theorem enc_len (r : Nat) : 1 ≤ (enc r).length ∧ (enc r).length ≤ 4 := by
  have := runeCells_le (r : Int)
  rw [runeCells_length] at this
  exact this
theorem enc_ne (r : Nat) : enc r ≠ [] := by
  have := (enc_len r).1
  intro e; rw [e] at this; simp at this

theorem valid_enc (r : Nat) (t : List UInt8) (h : isCh r) : validD (enc r ++ t) = validD t := by
  have hne : enc r ++ t ≠ [] := by simp [enc_ne]
  rw [validD_step _ hne, decode_enc r t h]
  have : ¬ (r = 65533 ∧ (enc r).length = 1) := by
    rintro ⟨rfl, h1⟩
    rw [enc3 65533 (by omega)] at h1
    simp at h1
  rw [if_neg this, List.drop_left]
theorem rns_enc (r : Nat) (t : List UInt8) (h : isCh r) : rns (enc r ++ t) = r :: rns t := by
  have hne : enc r ++ t ≠ [] := by simp [enc_ne]
  rw [rns_step _ hne, decode_enc r t h, List.drop_left]

/-- the bytes of a row of runes -/
def encs (rs : List Nat) : List UInt8 := rs.flatMap enc
theorem encs_nil : encs [] = [] := rfl
theorem encs_cons (r : Nat) (rs : List Nat) : encs (r :: rs) = enc r ++ encs rs := by simp [encs]
theorem encs_append (a b : List Nat) : encs (a ++ b) = encs a ++ encs b := by simp [encs]
theorem valid_encs : ∀ rs : List Nat, (∀ r ∈ rs, isCh r) → validD (encs rs) = true
  | [], _ => rfl
  | r :: rs, h => by
    rw [encs_cons, valid_enc r _ (h r (by simp))]
    exact valid_encs rs fun x hx => h x (by simp [hx])
theorem rns_encs : ∀ rs : List Nat, (∀ r ∈ rs, isCh r) → rns (encs rs) = rs
  | [], _ => rfl
  | r :: rs, h => by
    rw [encs_cons, rns_enc r _ (h r (by simp)), rns_encs rs fun x hx => h x (by simp [hx])]

/-- what is decoded where nothing is wrong is a character -/
theorem decode_ch (l : List UInt8) : isCh (decodeL l).1 := by
  rw [decodeL_N]
  unfold isCh
  have hb : (l.getD 0 0).toNat < 256 := (l.getD 0 0).toNat_lt
  rcases decodeN_shape l.length (l.getD 0 0).toNat (l.getD 1 0).toNat (l.getD 2 0).toNat (l.getD 3 0).toNat with ⟨h, e⟩ | ⟨h1, h2, h3, h4, e⟩ | ⟨h1, h2, h3, h4, h5, h6, e⟩ | ⟨h1, h2, h3, h4, h5, h6, h7, e⟩ | e
  all_goals rw [e]; simp only; omega
theorem rns_ch : ∀ (n : Nat) (l : List UInt8), l.length ≤ n → ∀ r ∈ rns l, isCh r
  | 0, l, h, r, hr => by
    have : l = [] := List.eq_nil_of_length_eq_zero (by omega)
    subst this; simp [rns_nil] at hr
  | n + 1, l, h, r, hr => by
    by_cases hl : l = []
    · subst hl; simp [rns_nil] at hr
    · rw [rns_step l hl] at hr
      have hp : 0 < l.length := List.length_pos_iff.2 hl
      have hw := decodeL_width l
      rcases List.mem_cons.1 hr with rfl | hr
      · exact decode_ch l
      · exact rns_ch n _ (by rw [List.length_drop]; omega) r hr
theorem ch_rns (l : List UInt8) : ∀ r ∈ rns l, isCh r := rns_ch l.length l (Nat.le_refl _)

/-- A VALID TEXT IS THE BYTES OF ITS RUNES -/
theorem encs_rns_go : ∀ (n : Nat) (l : List UInt8), l.length ≤ n → validD l = true → encs (rns l) = l
  | 0, l, h, _ => by
    have : l = [] := List.eq_nil_of_length_eq_zero (by omega)
    subst this; rfl
  | n + 1, l, h, hv => by
    by_cases hl : l = []
    · subst hl; rfl
    · rw [validD_step l hl] at hv
      have hp : 0 < l.length := List.length_pos_iff.2 hl
      have hw := decodeL_width l
      by_cases hb : (decodeL l).1 = 65533 ∧ (decodeL l).2 = 1
      · rw [if_pos hb] at hv; cases hv
      · rw [if_neg hb] at hv
        rw [rns_step l hl, encs_cons, encs_rns_go n _ (by rw [List.length_drop]; omega) hv]
        have := encode_decode l hl hb
        show encodeRune _ ++ _ = l
        rw [this, List.take_append_drop]
theorem encs_rns (l : List UInt8) (hv : validD l = true) : encs (rns l) = l := encs_rns_go l.length l (Nat.le_refl _) hv
end Sc
end Go.Proofs.YtjcfmghijfnehaaGreatDoor
namespace Go.Proofs.YtjcfmghijfnehaaGreatDoor
namespace Lx
def blank (l : List UInt8) : Bool := blanks l == l.length
def isMark (p sign : List UInt8) : Bool := Lib.hasPrefix p sign && (blank (Lib.trimPrefix p sign) || (isB ((Lib.trimPrefix p sign).getD 0 0) 32 && isB ((Lib.trimPrefix p sign).getD (blanks (Lib.trimPrefix p sign)) 0) 35))
def markOf (p : List UInt8) : Nat := if isMark p [45, 45, 45] then 1 else if isMark p [46, 46, 46] then 2 else 0
/-- how many pieces stand below a line of that indent -/
def textSize (ind : Nat) : List (List UInt8) → Nat
  | [] => 0
  | p :: t => if !blank p && decide (blanks p ≤ ind) then 0 else textSize ind t + 1
/-- how many pieces there are up to the last one that is not blank -/
def tailGo (ps : List (List UInt8)) : Nat → Nat
  | 0 => 0
  | n + 1 => if blank (ps.getD n []) then tailGo ps n else n + 1
def withoutTail (ps : List (List UInt8)) : Nat := tailGo ps ps.length
/-- the first piece that is not blank -/
def firstFrom : List (List UInt8) → Nat → Option Nat
  | [], _ => none
  | p :: t, k => if !blank p then some k else firstFrom t (k + 1)
def firstIndent (ps : List (List UInt8)) : Nat := match firstFrom ps 0 with
  | some k => blanks (ps.getD k [])
  | none => 0
/-- is a piece of characters that may be? -/
def right (p : List UInt8) : Bool := Lib.validD p && (Sc.rns p).all fun r => Sc.mayB r
/-- the text of pieces -/
def textGo (off : Nat) : List (List UInt8) → Except Nat (List UInt8)
  | [] => .ok []
  | p :: t =>
    if !right p then .error 5
    else if blank p then (match textGo off t with
      | .ok x => .ok (10 :: x)
      | .error e => .error e)
    else if blanks p < off then .error 9
    else (match textGo off t with
      | .ok x => .ok (p.drop off ++ 10 :: x)
      | .error e => .error e)
def textOf (ps : List (List UInt8)) : Except Nat (List UInt8) := textGo (firstIndent (ps.take (withoutTail ps))) (ps.take (withoutTail ps))

theorem blanks_trim (l : List UInt8) : (Lib.trimLeftB l 32).length + blanks l = l.length := by
  unfold Lib.trimLeftB
  induction l with
  | nil => rfl
  | cons b t ih =>
    unfold blanks
    by_cases hb : b = 32
    · subst hb
      have e : isB 32 32 = true := rfl
      rw [e, if_pos rfl, List.dropWhile_cons_of_pos (by simp)]
      simp only [List.length_cons]; omega
    · have e : isB b 32 = false := by
        unfold isB
        exact beq_eq_false_iff_ne.2 fun h => hb (Sc.u8_eq 32 (by omega))
      rw [e, List.dropWhile_cons_of_neg (by simpa using hb)]
      simp
theorem textSize_le (ind : Nat) (ps : List (List UInt8)) : textSize ind ps ≤ ps.length := by
  induction ps with
  | nil => exact Nat.le_refl _
  | cons p t ih =>
    unfold textSize
    split
    · simp
    · simp only [List.length_cons]; omega
theorem tailGo_le (ps : List (List UInt8)) : ∀ n, tailGo ps n ≤ n
  | 0 => Nat.le_refl _
  | n + 1 => by
    unfold tailGo
    split
    · have := tailGo_le ps n; omega
    · exact Nat.le_refl _
theorem firstFrom_lt (ps : List (List UInt8)) : ∀ k n, firstFrom ps k = some n → k ≤ n ∧ n < k + ps.length := by
  induction ps with
  | nil => intro k n h; cases h
  | cons p t ih =>
    intro k n h
    unfold firstFrom at h
    split at h
    · cases h; simp
    · have := ih _ _ h; simp only [List.length_cons]; omega
end Lx
end Go.Proofs.YtjcfmghijfnehaaGreatDoor
