/-
  Walks of scalar.oneLine, Single, Unsingle.
  Plain mathematics, no program's run in it: strings.ReplaceAll by the head of a text; quotes twice, and once again.
  Walks of scalar.Single and Unsingle.
  Plain mathematics, no program's run in it: hexadecimal digits; rows of bytes that a call owns.
  A law for append onto bytes that the call owns.
  The table 'named', utf8.AppendRune, Env from world to world.
  Walks of scalar.numbered, escaped and Unquote.
  Walk of scalar.escaped.
  Walk of scalar.Unquote.
-/
import Derived.Test.YtjcfmghijfnehaaGreatDoorEn
import Derived.Test.YtjcfmghijfnehaaGreatDoorLe
import Derived.Lib.Replace
import Derived.Lib.CountLaws
import Derived.WalkKit
import Derived.Lib.OthersKept
import Derived.Lib.RuneBytes
import Derived.Laws.Rows
import Derived.Laws.IdiomStrings
import Derived.BigQuiet
import Derived.Deep.QuietTactic
namespace Go.Proofs.YtjcfmghijfnehaaGreatDoor
open Go.RowKit

/-- may a character stand in a text of one line? -/
def lineR (r : Nat) : Bool := Sc.mayB r && !decide (r = 10) && !decide (r = 13)
def lineB (rs : List Nat) : Bool := rs.all lineR
def oneLineB (l : List UInt8) : Bool := Lib.validD l && lineB (Sc.rns l)

theorem rns_drop (s : ByteArray) (pos : Nat) (h : pos < s.size) : Sc.rns (s.data.toList.drop pos) = (Utf8.decode s pos).1 :: Sc.rns (s.data.toList.drop (pos + (Utf8.decode s pos).2)) := by
  have hne : s.data.toList.drop pos ≠ [] := by
    intro e
    have := congrArg List.length e
    rw [List.length_drop, ← Lib.size_eq] at this
    simp at this; omega
  rw [Sc.rns_step _ hne, Lib.decodeL_drop, List.drop_drop]
theorem dec_pos (s : ByteArray) (pos : Nat) : 1 ≤ (Utf8.decode s pos).2 := by
  rw [← Lib.decodeL_drop]; exact Lib.decodeL_width _

set_option maxHeartbeats 1000000 in
set_option maxRecDepth 100000 in
theorem oneLine_any (s : ByteArray) (w : World) (hs : s.size ≤ 1000000) (hE : Env w) :
    Calls Tryz.prog 197 #[.string s] w fun e w' => e = .returned (.bool (oneLineB s.data.toList)) ∧ Below w.heap.size w w' := by
  have cV := valid_any s w hs hE
  unfold oneLineB
  cases hv : Lib.validD s.data.toList
  · rw [hv] at cV
    rw [Bool.false_and]
    clear hv
    go_enter Tryz.func197, Tryz.ntmps197
    go_wp2_with (go_at_call 71; refine cV.mono ?_; rintro e w' ⟨rfl, hb⟩)
    go_ret
    exact ⟨rfl, hb⟩
  · rw [hv] at cV
    rw [Bool.true_and]
    clear hv
    obtain ⟨ANS, hANS⟩ : ∃ ANS, lineB (Sc.rns s.data.toList) = ANS := ⟨_, rfl⟩
    rw [hANS]
    have HA : Hid (lineB (Sc.rns s.data.toList) = ANS) := hANS
    clear hANS
    go_enter Tryz.func197, Tryz.ntmps197
    go_wp2_with (go_at_call 71; refine cV.mono ?_; rintro e w1 ⟨rfl, hb⟩)
    go_loopw [] (fun wr => ∃ pos : Nat, wr.heap[w1.heap.size]? = some (.stringIter s pos) ∧ Below w1.heap.size w1 wr ∧ Hid (lineB (Sc.rns (s.data.toList.drop pos)) = ANS)) (fun wr => s.size - wr.iterPos w1.heap.size)
    case atStart =>
      exact ⟨0, World.iter_heap w1 s 0, (Below.refl _ w1).alloc (Nat.le_refl _) _, HA⟩
    case round =>
      obtain ⟨pos, hit, hbw, HK⟩ := hrel
      clear HA cV
      by_cases hp : pos < s.size
      · have hnx : ∀ ty, (Instr.next (.pointer (some ⟨w1.heap.size, 0, none⟩)) true ty).run Tryz.prog wr = _ := fun ty => Lib.run_next_any_at wr w1.heap.size s pos ty hit hp
        have HS : Hid (_ = _) := rns_drop s pos hp
        have hwd := dec_pos s pos
        have hit2 := Lib.iterAt_heap wr w1.heap.size s pos (pos + (Utf8.decode s pos).2) hit
        have hbw2 := Lib.below_iterAt hbw (k := w1.heap.size) (Nat.le_refl _) s (pos + (Utf8.decode s pos).2)
        have HI := Lib.hid hit2
        clear hit2
        by_cases hl : lineR (Utf8.decode s pos).1 = true
        · have HN : Hid (lineB (Sc.rns (s.data.toList.drop (pos + (Utf8.decode s pos).2))) = ANS) := by
            have h := HK.out; rw [HS.out] at h; unfold lineB at h; rw [List.all_cons, hl, Bool.true_and] at h; exact h
          have hm : Sc.mayB (Utf8.decode s pos).1 = true := by
            unfold lineR at hl; simp only [Bool.and_eq_true] at hl; exact hl.1.1
          have h10 : (((Utf8.decode s pos).1 : Int) == 10) = false := by
            unfold lineR at hl; simp only [Bool.and_eq_true] at hl; have := hl.1.2; simp at this; exact beq_eq_false_iff_ne.2 (by omega)
          have h13 : (((Utf8.decode s pos).1 : Int) == 13) = false := by
            unfold lineR at hl; simp only [Bool.and_eq_true] at hl; have := hl.2; simp at this; exact beq_eq_false_iff_ne.2 (by omega)
          clear hl HS HK
          go_wp2_with (go_at_call 80; refine (may_any _ _).mono ?_; rintro e w' ⟨rfl, rfl⟩)
          go_roundw
          case rel => exact ⟨_, HI.out, hbw2, HN⟩
          case measure =>
            simp only [World.iterPos, HI.out, hit]
            omega
        · have HF : Hid (ANS = false) := by
            have h := HK.out; rw [HS.out] at h; unfold lineB at h; rw [List.all_cons, Bool.eq_false_iff.2 hl, Bool.false_and] at h; exact h.symm
          have hfin : Below w.heap.size w (wr.iterAt w1.heap.size s (pos + (Utf8.decode s pos).2)) := hb.trans (hbw2.mono hb.size)
          by_cases hm : Sc.mayB (Utf8.decode s pos).1 = true
          · have hr : (((Utf8.decode s pos).1 : Int) == 10) = true ∨ ((((Utf8.decode s pos).1 : Int) == 10) = false ∧ (((Utf8.decode s pos).1 : Int) == 13) = true) := by
              unfold lineR at hl; simp only [hm, Bool.true_and] at hl
              by_cases h10 : (Utf8.decode s pos).1 = 10
              · left; exact beq_iff_eq.2 (by omega)
              · right
                refine ⟨beq_eq_false_iff_ne.2 (by omega), beq_iff_eq.2 ?_⟩
                simp [h10] at hl; omega
            clear hl HS HK
            rcases hr with h10 | ⟨h10, h13⟩
            all_goals
              go_wp2_with (go_at_call 80; refine (may_any _ _).mono ?_; rintro e w' ⟨rfl, rfl⟩)
              go_ret
              exact ⟨ret_bool HF.out.symm, hfin⟩
          · clear hl HS HK
            have hm' : Sc.mayB (Utf8.decode s pos).1 = false := Bool.eq_false_iff.2 hm
            clear hm
            go_wp2_with (go_at_call 80; refine (may_any _ _).mono ?_; rintro e w' ⟨rfl, rfl⟩)
            go_ret
            exact ⟨ret_bool HF.out.symm, hfin⟩
      · have hnx : ∀ ty, (Instr.next (.pointer (some ⟨w1.heap.size, 0, none⟩)) true ty).run Tryz.prog wr = _ := fun ty => Lib.run_next_end_at wr w1.heap.size s pos ty hit hp
        go_wp2
        go_ret
        have : ANS = true := by rw [← HK.out, Sc.drop_nil s pos (by omega)]; rfl
        exact ⟨ret_bool this.symm, hb.trans (hbw.mono hb.size)⟩
end Go.Proofs.YtjcfmghijfnehaaGreatDoor
namespace Go.Proofs.YtjcfmghijfnehaaGreatDoor
namespace Sc
open Go.Lib

theorem idx_cons (b : UInt8) (l old : List UInt8) (h : old.isPrefixOf (b :: l) = false) : index (b :: l) old = if index l old == -1 then -1 else index l old + 1 := by
  simp [index, h]
theorem idx_pre (l old : List UInt8) (h : old.isPrefixOf l = true) : index l old = 0 := by
  cases l with
  | nil => cases old with
    | nil => rfl
    | cons a t => simp [List.isPrefixOf] at h
  | cons b l => simp [index, h]

theorem repAll_eq (s old new : List UInt8) (hne : old ≠ new) : replaceAll s old new = replaceK old new (count s old) s := by
  unfold replaceAll replace replaceNum
  rw [if_neg (by simpa using hne), if_pos (Or.inl (by decide))]
theorem repAll_nil (old new : List UInt8) (hne : old ≠ new) (h0 : old ≠ []) : replaceAll [] old new = [] := by
  rw [repAll_eq _ _ _ hne]
  have : index [] old = -1 := by
    cases old with
    | nil => exact absurd rfl h0
    | cons a t => rfl
  rw [count_miss this]; rfl
theorem repAll_pre (s old new : List UInt8) (hne : old ≠ new) (h0 : old ≠ []) (h : old.isPrefixOf s = true) :
    replaceAll s old new = new ++ replaceAll (s.drop old.length) old new := by
  rw [repAll_eq _ _ _ hne, repAll_eq _ _ _ hne]
  have hi : index s old = ((0 : Nat) : Int) := idx_pre s old h
  rw [count_hit h0 hi, Nat.add_comm 1, replaceK_hit old new _ s 0 hi]
  simp
theorem repAll_skip (b : UInt8) (l old new : List UInt8) (hne : old ≠ new) (h0 : old ≠ []) (h : old.isPrefixOf (b :: l) = false) :
    replaceAll (b :: l) old new = b :: replaceAll l old new := by
  rw [repAll_eq _ _ _ hne, repAll_eq _ _ _ hne]
  have hc := idx_cons b l old h
  by_cases hm : index l old = -1
  · have hm' : index (b :: l) old = -1 := by rw [hc, hm]; rfl
    rw [count_miss hm, count_miss hm']; rfl
  · have hge := index_ge l old
    obtain ⟨i, hi⟩ : ∃ i : Nat, index l old = i := ⟨(index l old).toNat, by omega⟩
    have hi' : index (b :: l) old = ((i + 1 : Nat) : Int) := by
      rw [hc, if_neg (by simpa using hm), hi]; omega
    rw [count_hit h0 hi, count_hit h0 hi', Nat.add_comm 1, Nat.add_comm 1, replaceK_hit old new _ _ _ hi, replaceK_hit old new _ _ _ hi']
    have e : (b :: l).drop (i + 1 + old.length) = l.drop (i + old.length) := by
      rw [show i + 1 + old.length = (i + old.length) + 1 by omega, List.drop_succ_cons]
    rw [e]
    simp

/-- each quote twice -/
def dbl : List UInt8 → List UInt8
  | [] => []
  | b :: t => if b = 39 then 39 :: 39 :: dbl t else b :: dbl t
/-- two quotes once -/
def undbl : List UInt8 → List UInt8
  | [] => []
  | [b] => [b]
  | b :: c :: t => if b = 39 ∧ c = 39 then 39 :: undbl t else b :: undbl (c :: t)

theorem rep_dbl : ∀ l : List UInt8, replaceAll l [39] [39, 39] = dbl l
  | [] => repAll_nil _ _ (by decide) (by decide)
  | b :: t => by
    by_cases h : b = 39
    · subst h
      rw [repAll_pre _ _ _ (by decide) (by decide) (by simp [List.isPrefixOf])]
      simp [dbl, rep_dbl t]
    · rw [repAll_skip _ _ _ _ (by decide) (by decide) (by simp [List.isPrefixOf]; exact fun e => h e.symm)]
      simp [dbl, h, rep_dbl t]
theorem rep_undbl : ∀ l : List UInt8, replaceAll l [39, 39] [39] = undbl l
  | [] => repAll_nil _ _ (by decide) (by decide)
  | [b] => by
    rw [repAll_skip _ _ _ _ (by decide) (by decide) (by simp [List.isPrefixOf]), repAll_nil _ _ (by decide) (by decide)]
    rfl
  | b :: c :: t => by
    by_cases h : b = 39 ∧ c = 39
    · obtain ⟨rfl, rfl⟩ := h
      rw [repAll_pre _ _ _ (by decide) (by decide) (by simp [List.isPrefixOf])]
      simp [undbl, rep_undbl t]
    · rw [repAll_skip _ _ _ _ (by decide) (by decide) (by simp [List.isPrefixOf]; intro e e'; exact h ⟨e.symm, e'.symm⟩)]
      rw [rep_undbl (c :: t)]
      simp only [undbl, if_neg h]
theorem undbl_dbl : ∀ l : List UInt8, undbl (dbl l) = l
  | [] => rfl
  | b :: t => by
    by_cases h : b = 39
    · subst h
      simp [dbl, undbl, undbl_dbl t]
    · have ih := undbl_dbl t
      simp only [dbl, if_neg h]
      cases hd : dbl t with
      | nil => rw [hd] at ih; simp [undbl] at ih; simp [undbl, ← ih]
      | cons c r =>
        rw [hd] at ih
        have hn : ¬ (b = 39 ∧ c = 39) := fun e => h e.1
        simp only [undbl, if_neg hn, ih]
theorem dbl_len : ∀ l : List UInt8, (dbl l).length = l.length + l.count 39
  | [] => rfl
  | b :: t => by
    have ih := dbl_len t
    by_cases h : b = 39
    · subst h; simp [dbl, ih]; omega
    · simp [dbl, h, ih]; omega
theorem undbl_len : ∀ l : List UInt8, (undbl l).length ≤ l.length
  | [] => Nat.le_refl _
  | [_] => Nat.le_refl _
  | b :: c :: t => by
    have h1 := undbl_len t
    have h2 := undbl_len (c :: t)
    by_cases h : b = 39 ∧ c = 39
    · simp only [undbl, if_pos h, List.length_cons]; omega
    · simp only [undbl, if_neg h, List.length_cons] at *; omega
theorem dbl_append (a b : List UInt8) : dbl (a ++ b) = dbl a ++ dbl b := by
  induction a with
  | nil => rfl
  | cons x t ih => by_cases h : x = 39 <;> simp [dbl, h, ih]

/-- a text between single quotes -/
def sq (l : List UInt8) : List UInt8 := 39 :: (dbl l ++ [39])
theorem sq_len (l : List UInt8) : (sq l).length = l.length + 2 + l.count 39 := by
  simp [sq, dbl_len]; omega
end Sc
end Go.Proofs.YtjcfmghijfnehaaGreatDoor
namespace Go.Proofs.YtjcfmghijfnehaaGreatDoor
open Go.RowKit

/-- a string of bytes -/
def str (l : List UInt8) : ByteArray := ⟨l.toArray⟩
theorem str_data (l : List UInt8) : (str l).data.toList = l := rfl
theorem str_size (l : List UInt8) : (str l).size = l.length := by show l.toArray.size = _; simp
theorem str_eq (s : ByteArray) : str s.data.toList = s := by cases s; simp [str]
theorem str_toList (l : List UInt8) : (str l).toList = l := by rw [Lib.toList_data, str_data]
theorem str_inj {a b : ByteArray} (h : a.data.toList = b.data.toList) : a = b := by rw [← str_eq a, ← str_eq b, h]
theorem app_data (a b : ByteArray) : (a ++ b).data.toList = a.data.toList ++ b.data.toList := by
  rw [ByteArray.data_append]; simp
theorem str_app (a b : List UInt8) : str a ++ str b = str (a ++ b) := str_inj (by rw [app_data]; simp [str_data])

/-- what a call that answers a text, or ErrQuote, returns -/
def txtR (o : Option (List UInt8)) : Ending := .returned (.tuple #[.string (str (o.getD [])), .int .i64 (if o.isSome then 0 else 10)])
theorem txtR_some (l : List UInt8) (s : ByteArray) (h : s.data.toList = l) : Ending.returned (.tuple #[.string s, .int .i64 0]) = txtR (some l) := by
  subst h; unfold txtR; simp only [Option.getD_some, str_eq, Option.isSome_some, if_true]

theorem repl_any (s old new : ByteArray) (w : World) (hs : s.size ≤ 1000000) (hE : Env w) (h1 : 1 ≤ old.size) (hn : new.size ≤ 4) :
    Calls Tryz.prog 193 #[.string s, .string old, .string new] w fun e w' =>
      e = .returned (.string (str (Lib.replaceAll s.data.toList old.data.toList new.data.toList))) ∧ Below w.heap.size w w' := by
  obtain ⟨m, hm⟩ := hE.maxl
  refine Tryz.strings_ReplaceAll s old new m w (by omega) hm h1 ?_
  have hc : Lib.countB s old ≤ s.size + 1 := by
    have := Lib.count_le s.data.toList old.data.toList
    rw [← Lib.size_eq] at this
    exact this
  have : Lib.countB s old * new.size ≤ (s.size + 1) * 4 := Nat.mul_le_mul hc hn
  omega

/-- Single, by its bytes -/
def singleOf (l : List UInt8) : Option (List UInt8) := if oneLineB l = true then some (Sc.sq l) else none

set_option maxHeartbeats 1000000 in
theorem single_any (s : ByteArray) (w : World) (hs : s.size ≤ 100000) (hE : Env w) :
    Calls Tryz.prog 194 #[.string s] w fun e w' => e = txtR (singleOf s.data.toList) ∧ Below w.heap.size w w' := by
  have c1 := oneLine_any s w (by omega) hE
  unfold singleOf
  by_cases h : oneLineB s.data.toList = true
  · rw [if_pos h]
    rw [h] at c1
    obtain ⟨D, hD⟩ : ∃ D, D = str (Sc.dbl s.data.toList) := ⟨_, rfl⟩
    have hDs : D.size ≤ 200000 := by
      rw [hD, str_size, Sc.dbl_len, ← Lib.size_eq]
      have := List.count_le_length (a := (39 : UInt8)) (l := s.data.toList)
      rw [← Lib.size_eq] at this
      omega
    have HD := Lib.hid hD
    clear hD h
    go_enter Tryz.func194, Tryz.ntmps194
    go_wp2_with fail
    refine c1.mono ?_
    rintro e w1 ⟨rfl, hb1⟩
    go_wp2_with fail
    refine (repl_any s ⟨#[39]⟩ ⟨#[39, 39]⟩ w1 (by omega) (hE.below hb1) (by decide) (by decide)).mono ?_
    rintro e w2 ⟨rfl, hb2⟩
    have e2 : str (Lib.replaceAll s.data.toList (⟨#[39]⟩ : ByteArray).data.toList (⟨#[39, 39]⟩ : ByteArray).data.toList) = D := by
      rw [HD.out, ← Sc.rep_dbl]
    rw [e2]
    clear e2 c1
    go_wp2
    go_ret2
    refine ⟨txtR_some _ _ ?_, hb1.trans (hb2.mono hb1.size)⟩
    rw [HD.out, app_data, app_data, str_data]
    simp [Sc.sq]
  · rw [if_neg h]
    rw [Bool.eq_false_iff.2 h] at c1
    clear h
    go_enter Tryz.func194, Tryz.ntmps194
    go_wp2_with (go_at_call 197; refine c1.mono ?_; rintro e w' ⟨rfl, hb⟩)
    go_ret2
    exact ⟨rfl, hb⟩

/-- Unsingle, by its bytes -/
def unsingleOf (l : List UInt8) : Option (List UInt8) :=
  if l.length < 2 then none else
    if singleOf (Sc.undbl ((l.drop 1).take (l.length - 2))) = some l then some (Sc.undbl ((l.drop 1).take (l.length - 2))) else none

set_option maxHeartbeats 1000000 in
theorem unsingle_any (s : ByteArray) (w : World) (hs : s.size ≤ 100000) (hE : Env w) :
    Calls Tryz.prog 140 #[.string s] w fun e w' => e = txtR (unsingleOf s.data.toList) ∧ Below w.heap.size w w' := by
  unfold unsingleOf
  by_cases h2 : s.size < 2
  · rw [if_pos (by rw [← Lib.size_eq]; exact h2)]
    go_enter Tryz.func140, Tryz.ntmps140
    go_wp2
    go_ret2
    exact ⟨rfl, Below.refl _ _⟩
  · rw [if_neg (by rw [← Lib.size_eq]; exact h2)]
    obtain ⟨I, hI⟩ : ∃ I, I = s.extract 1 (s.size - 1) := ⟨_, rfl⟩
    have hId : I.data.toList = (s.data.toList.drop 1).take (s.data.toList.length - 2) := by
      rw [hI, Lib.extract_data, ← Lib.size_eq]; congr 1
    rw [← hId]
    have hIs : I.size ≤ 100000 := by
      rw [Lib.size_eq, hId, List.length_take, List.length_drop, ← Lib.size_eq]; omega
    have HI := Lib.hid hI
    clear hId hI
    obtain ⟨U, hU⟩ : ∃ U, U = str (Sc.undbl I.data.toList) := ⟨_, rfl⟩
    have hUd : U.data.toList = Sc.undbl I.data.toList := by rw [hU]; rfl
    have hUs : U.size ≤ 100000 := by
      have := Sc.undbl_len I.data.toList
      rw [Lib.size_eq, hUd]; rw [← Lib.size_eq] at this; omega
    rw [← hUd]
    have HU := Lib.hid hU
    clear hU hUd
    have e2 : str (Lib.replaceAll I.data.toList (⟨#[39, 39]⟩ : ByteArray).data.toList (⟨#[39]⟩ : ByteArray).data.toList) = U := by
      rw [HU.out, ← Sc.rep_undbl]
    have cR := repl_any I ⟨#[39, 39]⟩ ⟨#[39]⟩ w (by omega) hE (by decide) (by decide)
    rw [e2] at cR
    have cS := fun w1 (hb : Below w.heap.size w w1) => single_any U w1 hUs (hE.below hb)
    clear e2 HU hE
    cases hq : singleOf U.data.toList with
    | none =>
      rw [hq] at cS
      rw [if_neg (by simp)]
      unfold txtR at *
      simp only [Option.getD_none, Option.isSome_none, if_false, Bool.false_eq_true] at *
      clear hq
      have CS := Lib.hid cS
      clear cS
      go_enter Tryz.func140, Tryz.ntmps140
      go_wp2_with fail
      rw [← HI.out]
      refine cR.mono ?_
      rintro e w1 ⟨rfl, hb1⟩
      clear cR HI
      go_wp2_with fail
      refine (CS.out w1 hb1).mono ?_
      rintro e w2 ⟨rfl, hb2⟩
      clear CS
      go_wp2
      go_ret2
      exact ⟨rfl, hb1.trans (hb2.mono hb1.size)⟩
    | some q =>
      rw [hq] at cS
      clear hq
      obtain ⟨Q, rfl⟩ : ∃ Q : ByteArray, q = Q.data.toList := ⟨str q, rfl⟩
      by_cases he : Q = s
      · subst he
        rw [if_pos rfl]
        unfold txtR at *
        simp only [Option.getD_some, Option.isSome_some, if_true, str_eq] at *
        have CS := Lib.hid cS
        clear cS
        go_enter Tryz.func140, Tryz.ntmps140
        go_wp2_with fail
        rw [← HI.out]
        refine cR.mono ?_
        rintro e w1 ⟨rfl, hb1⟩
        clear cR HI
        go_wp2_with fail
        refine (CS.out w1 hb1).mono ?_
        rintro e w2 ⟨rfl, hb2⟩
        clear CS
        go_wp2
        go_ret2
        exact ⟨rfl, hb1.trans (hb2.mono hb1.size)⟩
      · have he' : Q.data.toList ≠ s.data.toList := fun x => he (str_inj x)
        have hb : (Q.toList == s.toList) = false := by rw [Lib.toList_data, Lib.toList_data]; simpa using he'
        have hb2 : (Q.toList != s.toList) = true := by rw [Lib.toList_data, Lib.toList_data]; simpa using he'
        rw [if_neg (by simpa using he')]
        unfold txtR at *
        simp only [Option.getD_some, Option.getD_none, Option.isSome_none, Option.isSome_some, if_true, if_false, Bool.false_eq_true, str_eq] at *
        clear he he'
        have CS := Lib.hid cS
        clear cS
        go_enter Tryz.func140, Tryz.ntmps140
        go_wp2_with fail
        rw [← HI.out]
        refine cR.mono ?_
        rintro e w1 ⟨rfl, hb1⟩
        clear cR HI
        go_wp2_with fail
        refine (CS.out w1 hb1).mono ?_
        rintro e w2 ⟨rfl, hb2⟩
        clear CS
        go_wp2
        go_ret2
        exact ⟨rfl, hb1.trans (hb2.mono hb1.size)⟩
end Go.Proofs.YtjcfmghijfnehaaGreatDoor
namespace Go.Proofs.YtjcfmghijfnehaaGreatDoor
namespace Sc
/-- a small hexadecimal digit -/
def hexd (n : Nat) : UInt8 := if n < 10 then UInt8.ofNat (48 + n) else UInt8.ofNat (87 + n)
/-- so many digits of a number -/
def hexL (r : Nat) : Nat → List UInt8
  | 0 => []
  | d + 1 => hexd (r / 16 ^ d % 16) :: hexL r d
theorem hexL_len (r : Nat) : ∀ d, (hexL r d).length = d
  | 0 => rfl
  | d + 1 => by simp [hexL, hexL_len r d]
end Sc
open Go.RowKit

/-- a slice of bytes that the call owns, from block B on -/
def Own (w : World) (B : Nat) (v : Value) (l : List UInt8) : Prop := w.ownsRow B 5 1 v l.length (Lib.byteCells l)
/-- what a call that appends to its own bytes leaves as it was -/
def Kept (B : Nat) (w w' : World) : Prop := Below B w w' ∧ Lib.OthersKept 5 none w w'

theorem Kept.refl (B : Nat) (w : World) : Kept B w w := ⟨Below.refl _ _, Lib.OthersKept.refl _ _ _⟩
theorem Kept.trans {B : Nat} {a b c : World} (h : Kept B a b) (k : Kept B b c) : Kept B a c := ⟨h.1.trans k.1, h.2.trans k.2⟩
theorem Kept.alloc {B : Nat} {a w : World} (h : Kept B a w) (hB : B ≤ w.heap.size) (o : Obj) : Kept B a (w.alloc o) := ⟨h.1.alloc hB o, h.2.alloc o⟩
theorem Kept.size {B : Nat} {a w : World} (h : Kept B a w) : a.heap.size ≤ w.heap.size := h.1.size
theorem own_kind {w : World} {B : Nat} {v : Value} {l : List UInt8} (h : Own w B v l) : ∀ g, v.ownBlock = some g → ∃ c fz, w.heap[g]? = some (.cells c 5 fz) := by
  intro g hg
  rcases h.2 with ⟨rfl, _⟩ | ⟨g', cap, cur, rfl, _, hh, _⟩
  · simp [Value.ownBlock] at hg
  · have : g' = g := by simpa [Value.ownBlock] using hg
    subst this
    exact ⟨_, _, hh⟩
theorem Kept.grown {B : Nat} {a w w' : World} {v : Value} {l : List UInt8} (h : Kept B a w) (ho : Own w B v l) (hg : w.grownBy w' v.ownBlock) (hB : B ≤ w.heap.size) : Kept B a w' :=
  ⟨h.1.grown hg hB fun k hk => (ho.lt k hk).1, h.2.grown hg (own_kind ho)⟩
theorem Kept.iter {B k : Nat} {w w' : World} {s : ByteArray} {pos : Nat} (h : Kept B w w') (hk : w.heap[k]? = some (.stringIter s pos)) : w'.heap[k]? = some (.stringIter s pos) :=
  h.2 k _ hk (by simp) (by simp)
theorem own_alloc {w : World} {B : Nat} {v : Value} {l : List UInt8} (h : Own w B v l) (o : Obj) : Own (w.alloc o) B v l := World.ownsRow.alloc h o
theorem own_nil (w : World) (B : Nat) : Own w B (.slice none 0 0) [] := World.ownsRow_nil w B 5 1
theorem cells_of_new (w : World) (t : TypeId) (news : List Value) (j : Nat) (u : Value) (h : news[j]? = some u) : (w.alloc (.cells news.toArray t)).cell? ((⟨w.heap.size, 0, none⟩ : Addr).add j) = some u := by
  have hadd : (⟨w.heap.size, 0, none⟩ : Addr).add j = ⟨w.heap.size, j, none⟩ := by unfold Addr.add; split <;> simp_all
  rw [hadd, World.cell?_alloc_at _ _ _ _ rfl]
  simpa using h
theorem own_of_append {w : World} {B : Nat} {v : Value} {l m : List UInt8} {n : Nat} {xs : List Value} (h : w.ownsRow B 5 1 v n xs) (hn : n = (l ++ m).length) (hx : xs = Lib.byteCells (l ++ m)) : Own w B v (l ++ m) := by
  subst hn hx; exact h
end Go.Proofs.YtjcfmghijfnehaaGreatDoor
namespace Go.Proofs.YtjcfmghijfnehaaGreatDoor
open Go.RowKit

theorem info5 : (Tryz.prog.info? 5).map (fun i => (i.zero, i.size, i.bytes)) = some (some (.int .u8 0), 1, 1) := by kernel_rfl

/-- 'append' of bytes that were just laid, onto bytes that the call owns -/
theorem wpList_push {ops : Array Oper} {rest : List Oper} {o : Oper} {a : Act} {Q : Exit → Act → World → Prop} (hgd : o.guard = none) (s x : Operand)
    (ho : o.op = .call { callee := .builtin .append, args := #[s, x], argTypes := #[53, 53] }) (B : Nat) (v : Value) (l m : List UInt8) (w0 : World) (C : Array Value) (n c : Nat)
    (hs : a.eval s = v) (ga : Nat) (hx : a.eval x = .slice (some ⟨ga, 0, none⟩) n c) (hga : ga = w0.heap.size) (hC : C = (Lib.byteCells m).toArray) (hm : n = m.length) (hown : Own w0 B v l) (hl : l.length + m.length ≤ 2000000) (hB : B ≤ w0.heap.size)
    (h : ∀ v' w', Own w' B v' (l ++ m) → Kept B w0 w' → B ≤ w'.heap.size → wpList Tryz.prog ops Q rest (a.put o.dst v') w') :
    wpList Tryz.prog ops Q (o :: rest) a (w0.alloc (.cells C 5)) := by
  subst hC hm hga
  obtain ⟨i0, hi, hz0, hz1, hz2⟩ := info_parts info5
  refine wpList_append_own _ hgd s x 53 ho B 5 i0 (.int .u8 0) 1 1 Tryz.underlying53 hi hz0 hz1 hz2 rfl (by decide) v l.length (Lib.byteCells l) hs (own_alloc hown _) ⟨w0.heap.size, 0, none⟩ m.length c (Lib.byteCells m) hx (by rw [Lib.byteCells_length, Nat.mul_one])
    (fun j u hu => cells_of_new w0 5 (Lib.byteCells m) j u hu) (fun u hu => by simp only [Lib.byteCells, List.mem_map] at hu; obtain ⟨b, _, rfl⟩ := hu; rfl) (by simp only [maxLen]; omega) (by omega) (by rw [World.size_alloc]; omega) ?_
  intro v' w' ho' hg _
  have hk : Kept B w0 w' := ((Kept.refl B w0).alloc hB _).grown (own_alloc hown _) hg (by rw [World.size_alloc]; omega)
  exact h v' w' (own_of_append ho' (by simp) (by rw [Lib.byteCells_append])) hk (Nat.le_trans hB hk.size)

end Go.Proofs.YtjcfmghijfnehaaGreatDoor
namespace Go.Proofs.YtjcfmghijfnehaaGreatDoor
open Go.RowKit

def ch (k : Nat) : Nat := (namedTab.getD k (0, 0)).1
def lt (k : Nat) : Nat := (namedTab.getD k (0, 0)).2
theorem lt_lt : ∀ k : Fin 15, lt k.val < 256 := by decide
theorem ch_lt : ∀ k : Fin 15, ch k.val < 10000 := by decide
theorem named_ix0 (w : World) : (Instr.index 242 (.agg namedCells) (.int .i64 0)).run Tryz.prog w = .ok (.agg #[.int .i32 34, .int .u8 34]) w := by kernel_rfl
theorem named_ix1 (w : World) : (Instr.index 242 (.agg namedCells) (.int .i64 1)).run Tryz.prog w = .ok (.agg #[.int .i32 92, .int .u8 92]) w := by kernel_rfl
theorem named_ix2 (w : World) : (Instr.index 242 (.agg namedCells) (.int .i64 2)).run Tryz.prog w = .ok (.agg #[.int .i32 0, .int .u8 48]) w := by kernel_rfl
theorem named_ix3 (w : World) : (Instr.index 242 (.agg namedCells) (.int .i64 3)).run Tryz.prog w = .ok (.agg #[.int .i32 7, .int .u8 97]) w := by kernel_rfl
theorem named_ix4 (w : World) : (Instr.index 242 (.agg namedCells) (.int .i64 4)).run Tryz.prog w = .ok (.agg #[.int .i32 8, .int .u8 98]) w := by kernel_rfl
theorem named_ix5 (w : World) : (Instr.index 242 (.agg namedCells) (.int .i64 5)).run Tryz.prog w = .ok (.agg #[.int .i32 9, .int .u8 116]) w := by kernel_rfl
theorem named_ix6 (w : World) : (Instr.index 242 (.agg namedCells) (.int .i64 6)).run Tryz.prog w = .ok (.agg #[.int .i32 10, .int .u8 110]) w := by kernel_rfl
theorem named_ix7 (w : World) : (Instr.index 242 (.agg namedCells) (.int .i64 7)).run Tryz.prog w = .ok (.agg #[.int .i32 11, .int .u8 118]) w := by kernel_rfl
theorem named_ix8 (w : World) : (Instr.index 242 (.agg namedCells) (.int .i64 8)).run Tryz.prog w = .ok (.agg #[.int .i32 12, .int .u8 102]) w := by kernel_rfl
theorem named_ix9 (w : World) : (Instr.index 242 (.agg namedCells) (.int .i64 9)).run Tryz.prog w = .ok (.agg #[.int .i32 13, .int .u8 114]) w := by kernel_rfl
theorem named_ix10 (w : World) : (Instr.index 242 (.agg namedCells) (.int .i64 10)).run Tryz.prog w = .ok (.agg #[.int .i32 27, .int .u8 101]) w := by kernel_rfl
theorem named_ix11 (w : World) : (Instr.index 242 (.agg namedCells) (.int .i64 11)).run Tryz.prog w = .ok (.agg #[.int .i32 133, .int .u8 78]) w := by kernel_rfl
theorem named_ix12 (w : World) : (Instr.index 242 (.agg namedCells) (.int .i64 12)).run Tryz.prog w = .ok (.agg #[.int .i32 160, .int .u8 95]) w := by kernel_rfl
theorem named_ix13 (w : World) : (Instr.index 242 (.agg namedCells) (.int .i64 13)).run Tryz.prog w = .ok (.agg #[.int .i32 8232, .int .u8 76]) w := by kernel_rfl
theorem named_ix14 (w : World) : (Instr.index 242 (.agg namedCells) (.int .i64 14)).run Tryz.prog w = .ok (.agg #[.int .i32 8233, .int .u8 80]) w := by kernel_rfl
theorem named_index (k : Nat) (h : k < 15) (w : World) : (Instr.index 242 (.agg namedCells) (.int .i64 (k : Int))).run Tryz.prog w = .ok (.agg #[.int .i32 (ch k : Nat), .int .u8 (lt k : Nat)]) w :=
  match k, h with
  | 0, _ => named_ix0 w
  | 1, _ => named_ix1 w
  | 2, _ => named_ix2 w
  | 3, _ => named_ix3 w
  | 4, _ => named_ix4 w
  | 5, _ => named_ix5 w
  | 6, _ => named_ix6 w
  | 7, _ => named_ix7 w
  | 8, _ => named_ix8 w
  | 9, _ => named_ix9 w
  | 10, _ => named_ix10 w
  | 11, _ => named_ix11 w
  | 12, _ => named_ix12 w
  | 13, _ => named_ix13 w
  | 14, _ => named_ix14 w
  | _ + 15, h => absurd h (by omega)

theorem size65 : (Tryz.prog.info? 242).map (·.size) = some namedCells.size := by kernel_rfl

/-- utf8.AppendRune onto bytes that the call owns -/
theorem rune_any (B : Nat) (v : Value) (l : List UInt8) (r : Nat) (w : World) (hr : r ≤ 1114111) (hown : Own w B v l) (hn : l.length ≤ 1000000) (hB : B ≤ w.heap.size) :
    Calls Tryz.prog 192 #[v, .int .i32 r] w fun e w' => ∃ v', e = .returned v' ∧ Own w' B v' (l ++ Sc.enc r) ∧ Kept B w w' := by
  refine (Tryz.utf8_AppendRune_plain B v l.length (Lib.byteCells l) r (by omega) (by omega) w hown (by omega) hB).mono ?_
  rintro e w' ⟨v', rfl, ho, o, hg⟩
  refine ⟨v', rfl, own_of_append ho ?_ ?_, ?_⟩
  · rw [List.length_append, Lib.runeCells_length]; rfl
  · rw [Lib.byteCells_append, ← Lib.byteCells_encodeRune]; rfl
  · exact ((Kept.refl B w).alloc hB _).grown (own_alloc hown _) hg (by rw [World.size_alloc]; omega)

theorem Env.size {w : World} (h : Env w) : 4 ≤ w.heap.size := by
  obtain ⟨m, hm⟩ := h.maxl
  have h1 : 2 < w.heap.size := lt_of_cell hm
  obtain ⟨t, fr, he⟩ := h.named
  have h2 : 3 < w.heap.size := (Array.getElem?_eq_some_iff.1 he).1
  omega
theorem Env.kept {B : Nat} {w w' : World} (h : Env w) (hB : 4 ≤ B) (hk : Below B w w') : Env w' where
  tabs := by
    obtain ⟨h1, h2⟩ := h.tabs
    exact ⟨fun c hc => (hk.cell (p := ⟨0, c, none⟩) (by show 0 < B; omega)).trans (h1 c hc), fun i hi => ⟨(hk.cell (p := ⟨1, 2 * i, none⟩) (by show 1 < B; omega)).trans (h2 i hi).1, (hk.cell (p := ⟨1, 2 * i + 1, none⟩) (by show 1 < B; omega)).trans (h2 i hi).2⟩⟩
  named := by
    obtain ⟨t, fr, he⟩ := h.named
    exact ⟨t, fr, (hk.block 3 (by omega)).trans he⟩
  maxl := by
    obtain ⟨m, hm⟩ := h.maxl
    exact ⟨m, (hk.cell (p := ⟨2, 0, none⟩) (by show 2 < B; omega)).trans hm⟩

/-- 'string(b)' of bytes that the call owns -/
theorem own_string {w : World} {B : Nat} {v : Value} {l : List UInt8} (h : Own w B v l) : (convert 53 9 v).run Tryz.prog w = .ok (.string (str l)) w := by
  by_cases h0 : l.length = 0
  · have hl : l = [] := List.eq_nil_of_length_eq_zero h0
    subst hl
    rcases h.2 with ⟨rfl, _⟩ | ⟨g, cap, cur, rfl, hr⟩
    · rw [run_convert_bytes_string w 53 9 5 none 0 0 Tryz.underlying53 Tryz.underlying5 Tryz.underlying9]
      rfl
    · exact run_convert_bytes_back w 53 9 5 ⟨g, 0, none⟩ cap [] Tryz.underlying53 Tryz.underlying5 Tryz.underlying9 (fun j hj => absurd hj (by simp))
  · rcases h.2 with ⟨_, h00⟩ | ⟨g, cap, cur, rfl, hr⟩
    · exact absurd h00 h0
    · refine run_convert_bytes_back w 53 9 5 ⟨g, 0, none⟩ cap l Tryz.underlying53 Tryz.underlying5 Tryz.underlying9 fun j hj => ?_
      refine World.ownsRow.cells h (g := g) rfl j _ ?_
      simp [Lib.byteCells, hj]
theorem own_iterAt {w : World} {B : Nat} {v : Value} {l : List UInt8} (h : Own w B v l) {k : Nat} {s : ByteArray} {pos : Nat} (hk : w.heap[k]? = some (.stringIter s pos)) (p : Nat) : Own (w.iterAt k s p) B v l := by
  obtain ⟨h1, h2⟩ := h
  refine ⟨h1, ?_⟩
  rcases h2 with h2 | ⟨g, cap, cur, hv, hb, hh, hr⟩
  · exact .inl h2
  · refine .inr ⟨g, cap, cur, hv, hb, ?_, hr⟩
    rw [Lib.iterAt_other _ _ _ _ _ (fun e => by subst e; rw [hk] at hh; cases hh)]
    exact hh

end Go.Proofs.YtjcfmghijfnehaaGreatDoor
namespace Go.Proofs.YtjcfmghijfnehaaGreatDoor
open Go.RowKit

theorem digit_some (b : UInt8) (d : Nat) (w : World) (h : Hid (Sc.digB b = some d)) : Calls Tryz.prog 261 #[.int .u8 b.toNat] w fun e w' => e = .returned (.tuple #[.int .u32 d, .bool true]) ∧ w = w' := by
  have := digit_any b w
  rw [h.out] at this
  exact this
theorem digit_none (b : UInt8) (w : World) (h : Hid (Sc.digB b = none)) : Calls Tryz.prog 261 #[.int .u8 b.toNat] w fun e w' => e = .returned (.tuple #[.int .u32 0, .bool false]) ∧ w = w' := by
  have := digit_any b w
  rw [h.out] at this
  exact this
theorem digB_lt (b : UInt8) (d : Nat) (h : Sc.digB b = some d) : d < 16 := by
  unfold Sc.digB at h
  repeat' split at h
  all_goals first | (cases h; omega) | cases h

/-- the number that hexadecimal digits are -/
def hexNum : List UInt8 → Nat → Option Nat
  | [], n => some n
  | b :: t, n => match Sc.digB b with
    | none => none
    | some d => hexNum t (n * 16 + d)
/-- the character of so many digits behind a letter, and how many bytes: (0, 0): there is none -/
def numOf (l : List UInt8) (d : Nat) : Nat × Nat :=
  if l.length < 1 + d then (0, 0) else
    match hexNum ((l.drop 1).take d) 0 with
    | none => (0, 0)
    | some n => if Sc.isCh n then (n, 1 + d) else (0, 0)

theorem conv_bytes (s : ByteArray) (w : World) : ∃ cap C fr, (convert 9 53 (.string s)).run Tryz.prog w = .ok (.slice (some ⟨w.heap.size, 0, none⟩) s.size cap) (w.drew.alloc (.cells C 5 fr)) ∧ ∀ (k : Nat) (h : k < s.size), (w.alloc (.cells C 5 fr)).cell? ⟨w.heap.size, k, none⟩ = some (.int .u8 (s[k]'h).toNat) := by
  refine ⟨_, _, _, run_bytes_of_string (P := Tryz.prog) w 9 53 5 s Tryz.underlying9 Tryz.underlying53 Tryz.underlying5, fun k h => ?_⟩
  rw [World.cell?_alloc_mark]
  unfold bytesRow
  have hk : k < s.data.size := h
  simp [Array.getElem?_append]
  rw [if_pos h, Array.getElem?_eq_getElem hk]
  rfl

theorem or_dig (n d : Nat) (hn : n < 268435456) (hd : d < 16) : bits BinOp.or IntKind.u32 ((n : Int) * 16) (d : Int) = (n : Int) * 16 + d := by
  have hw : ∀ n : Int, 0 ≤ n → n < 2 ^ 32 → IntKind.u32.wrap n = n := fun n h0 h1 => by rw [IntKind.wrap_u32]; omega
  exact bits_join .u32 32 (by decide) hw 4 ((n : Int) * 16) d (by omega) (by omega) (by omega) (by omega) (by omega) (by omega)

set_option maxHeartbeats 1000000 in
set_option maxRecDepth 100000 in
theorem numbered_any (s : ByteArray) (d : Nat) (w : World) (hd : d ≤ 8) (hs : s.size ≤ 100000) :
    Calls Tryz.prog 232 #[.string s, .int .i64 d] w fun e w' => e = .returned (.tuple #[.int .i32 (numOf s.data.toList d).1, .int .i64 (numOf s.data.toList d).2]) ∧ Below w.heap.size w w' := by
  by_cases hlen : s.size < 1 + d
  · have e : numOf s.data.toList d = (0, 0) := by unfold numOf; rw [if_pos (by rw [← Lib.size_eq]; exact hlen)]
    rw [e]
    clear e
    go_enter Tryz.func232, Tryz.ntmps232
    go_wp2
    go_ret2
    exact ⟨rfl, Below.refl _ _⟩
  · obtain ⟨ANS, hANS⟩ : ∃ ANS, numOf s.data.toList d = ANS := ⟨_, rfl⟩
    rw [hANS]
    obtain ⟨T, hT⟩ : ∃ T, s.extract 1 (1 + d) = T := ⟨_, rfl⟩
    have hTd : T.data.toList = (s.data.toList.drop 1).take d := by
      rw [← hT, Lib.extract_data]; congr 1; omega
    have hTs : T.size = d := by
      rw [Lib.size_eq, hTd, List.length_take, List.length_drop, ← Lib.size_eq]; omega
    have HA : Hid ((match hexNum T.data.toList 0 with | none => (0, 0) | some n => if Sc.isCh n then (n, 1 + d) else (0, 0)) = ANS) := by
      show _ = ANS
      rw [← hANS, hTd]; unfold numOf; rw [if_neg (by rw [← Lib.size_eq]; exact hlen)]
    obtain ⟨cap, C, fr, hcv, hcell⟩ := conv_bytes T w
    have HC := Lib.hid hcell
    have HT := Lib.hid hTs
    clear hANS hTd hcell
    rw [hTs] at hcv
    clear hTs
    have hbw : Below w.heap.size w (w.alloc (.cells C 5 fr)).drew := ((Below.refl _ _).alloc (Nat.le_refl _) _).drew
    go_enter Tryz.func232, Tryz.ntmps232
    go_wp2
    clear hcv hT
    go_loop [7, 23] (fun x i => ∃ k n : Nat, k ≤ d ∧ i = .int .i64 k ∧ x = .int .u32 n ∧ Hid (n < 16 ^ k) ∧ Hid (hexNum T.data.toList 0 = hexNum (T.data.toList.drop k) n)) (fun _ i => d - (intOf i).toNat)
    case atStart => exact ⟨0, 0, by omega, rfl, rfl, (by decide : 0 < 16 ^ 0), (rfl : hexNum T.data.toList 0 = _)⟩
    case round =>
      obtain ⟨k, n, hk, rfl, rfl, HB, HK⟩ := hrel
      by_cases hlt : k < d
      · have hck := HC.out k (by rw [HT.out]; exact hlt)
        have hkT : k < T.size := by rw [HT.out]; exact hlt
        obtain ⟨b, hb⟩ : ∃ b, T[k] = b := ⟨_, rfl⟩
        rw [hb] at hck
        have hbl : T.data.toList.drop k = b :: T.data.toList.drop (k + 1) := by rw [Sc.drop_cons T k hkT, hb]
        have hn : n < 268435456 := by
          have h1 := HB.out
          have h2 : 16 ^ k ≤ 16 ^ 7 := Nat.pow_le_pow_right (by decide) (by omega)
          have h3 : (16 : Nat) ^ 7 = 268435456 := by decide
          omega
        cases hdg : Sc.digB b with
        | none =>
          have HF : Hid (((0, 0) : Nat × Nat) = ANS) := by
            have h1 := HK.out; rw [hbl] at h1; simp only [hexNum, hdg] at h1
            have h2 := HA.out; rw [h1] at h2; exact h2
          have HD := Lib.hid hdg
          clear hbl hb hkT HK HB hdg HA
          go_wp2_with (go_at_call 261; refine (digit_none b _ HD).mono ?_; rintro e w' ⟨rfl, rfl⟩)
          go_ret2
          rw [← HF.out]
          exact ⟨rfl, hbw⟩
        | some g =>
          have hg := digB_lt b g hdg
          have HN : Hid (hexNum T.data.toList 0 = hexNum (T.data.toList.drop (k + 1)) (n * 16 + g)) := by
            have := HK.out; rw [hbl] at this; simp only [hexNum, hdg] at this; exact this
          have HB2 : Hid (n * 16 + g < 16 ^ (k + 1)) := by
            have := HB.out
            show n * 16 + g < 16 ^ (k + 1)
            rw [Nat.pow_succ]; omega
          have HD := Lib.hid hdg
          have hor := or_dig n g hn hg
          clear hbl hb hkT HK HB hdg
          go_wp2_with (go_at_call 261; refine (digit_some b g _ HD).mono ?_; rintro e w' ⟨rfl, rfl⟩)
          go_round
          case rel => exact ⟨k + 1, n * 16 + g, by omega, by go_num, by go_num, HB2, HN⟩
          case measure => simp [intOf]; omega
      · obtain rfl : k = d := by omega
        have hnil : T.data.toList.drop k = [] := Sc.drop_nil T k (by rw [HT.out]; exact Nat.le_refl _)
        have hnum : hexNum T.data.toList 0 = some n := by have := HK.out; rw [hnil] at this; exact this
        have HF := Lib.hid HA.out
        rw [hnum] at HF
        simp only at HF
        have hn : n < 4294967296 := by
          have h1 := HB.out
          have h2 : 16 ^ k ≤ 16 ^ 8 := Nat.pow_le_pow_right (by decide) hd
          have h3 : (16 : Nat) ^ 8 = 4294967296 := by decide
          omega
        clear hnil hnum HA HK HB HC HT
        by_cases hc : Sc.isCh n
        · rw [if_pos hc] at HF
          have hle : n ≤ 1114111 := by unfold Sc.isCh at hc; omega
          have hvr : Lib.validRune (n : Int) = true := by unfold Lib.validRune; unfold Sc.isCh at hc; simp; omega
          clear hc hn
          go_wp2_with (go_at_call 262; refine (Tryz.utf8_ValidRune _ _).mono ?_; rintro e w' ⟨rfl, rfl⟩)
          go_ret2
          rw [← HF.out]
          exact ⟨rfl, hbw⟩
        · rw [if_neg hc] at HF
          have hvr : Lib.validRune (wrap32 (n : Int)) = false := by
            unfold Lib.validRune wrap32
            unfold Sc.isCh at hc
            simp only [decide_eq_false_iff_not]
            omega
          clear hc hn
          go_wp2_with (go_at_call 262; refine (Tryz.utf8_ValidRune _ _).mono ?_; rintro e w' ⟨rfl, rfl⟩)
          go_ret2
          rw [← HF.out]
          exact ⟨rfl, hbw⟩
end Go.Proofs.YtjcfmghijfnehaaGreatDoor
namespace Go.Proofs.YtjcfmghijfnehaaGreatDoor
open Go.RowKit

theorem bel_drewN {B : Nat} {a w : World} (h : Below B a w) (n : Nat) : Below B a (w.drewN n) := ⟨h.os, h.tape, h.output, h.size, h.block⟩
/-- the character of a letter -/
def charFrom (k b : Nat) : Option Nat := ((namedTab.drop k).find? fun p => p.2 == b).map (·.1)
theorem charFrom_step (k b : Nat) (h : k < 15) : charFrom k b = if lt k = b then some (ch k) else charFrom (k + 1) b := by
  unfold charFrom ch lt
  have : namedTab.drop k = namedTab.getD k (0, 0) :: namedTab.drop (k + 1) := by
    have hl : k < namedTab.length := h
    rw [List.drop_eq_getElem_cons hl]; simp [List.getD, hl]
  rw [this, List.find?_cons]
  generalize namedTab.getD k (0, 0) = x
  by_cases e : x.2 = b
  · have : (x.2 == b) = true := beq_iff_eq.2 e
    rw [this, if_pos e]; rfl
  · have : (x.2 == b) = false := beq_eq_false_iff_ne.2 e
    rw [this, if_neg e]
def nmR : Option Nat → Nat × Nat
  | some r => (r, 1)
  | none => (0, 0)
/-- the character of what stands behind a backslash, and its bytes: (0, 0): there is none -/
def escOf : List UInt8 → Nat × Nat
  | [] => (0, 0)
  | c :: t => if c.toNat = 47 then (47, 1) else if c.toNat = 120 then numOf (c :: t) 2 else if c.toNat = 117 then numOf (c :: t) 4 else if c.toNat = 85 then numOf (c :: t) 8 else nmR (charFrom 0 c.toNat)

def pairR (p : Nat × Nat) : Ending := .returned (.tuple #[.int .i32 p.1, .int .i64 p.2])

set_option maxHeartbeats 1000000 in
set_option maxRecDepth 100000 in
theorem escaped_named (s : ByteArray) (w : World) (hE : Env w) (h0 : 0 < s.size) (h1 : ((s[0].toNat : Int) == 47) = false) (h2 : ((s[0].toNat : Int) == 120) = false) (h3 : ((s[0].toNat : Int) == 117) = false) (h4 : ((s[0].toNat : Int) == 85) = false) :
    Calls Tryz.prog 191 #[.string s] w fun e w' => e = pairR (nmR (charFrom 0 s[0].toNat)) ∧ Below w.heap.size w w' := by
  have hemp := ba_isEmpty s h0
  have hnil := ba_notnil s h0
  obtain ⟨t2, fr2, hN⟩ := hE.named
  obtain ⟨ANS, hANS⟩ : ∃ ANS, charFrom 0 s[0].toNat = ANS := ⟨_, rfl⟩
  rw [hANS]
  have HA := Lib.hid hANS
  clear hE hANS
  have hB := s[0].toNat_lt
  go_enter Tryz.func191, Tryz.ntmps191
  go_wp2_with (refine wpList_load_row rfl 242 _ rfl 3 rfl t2 _ fr2 _ hN Tryz.underlying242 rfl size65 ?_)
  clear hN
  go_loopw [31] (fun i wr => ∃ k : Nat, k ≤ 15 ∧ i = .int .i64 k ∧ Hid (charFrom k s[0].toNat = ANS) ∧ Below w.heap.size w wr) (fun i _ => 15 - (intOf i).toNat)
  case atStart => exact ⟨0, by omega, rfl, HA, Below.refl _ _⟩
  case round =>
    obtain ⟨k, hk, rfl, HK, hbw⟩ := hrel
    clear HA
    by_cases hlt : k < 15
    · have hix := named_index k hlt
      have HS := Lib.hid (charFrom_step k s[0].toNat hlt)
      have hl256 := lt_lt ⟨k, hlt⟩
      have hc := ch_lt ⟨k, hlt⟩
      simp only at hl256 hc
      generalize ch k = c at *
      generalize lt k = b at *
      have hsz := hbw.size
      by_cases hcr : b = s[0].toNat
      · have HF : Hid (some c = ANS) := by
          have := HS.out; rw [if_pos hcr] at this; exact this.symm.trans HK.out
        have hb : ((b : Int) == (s[0].toNat : Int)) = true := beq_iff_eq.2 (by omega)
        clear HS HK hcr
        go_wp2
        go_quiet (fail)
        go_wp2
        go_ret2
        rw [← HF.out]
        exact ⟨rfl, bel_drewN (hbw.alloc hsz _) _⟩
      · have hb : ((b : Int) == (s[0].toNat : Int)) = false := beq_eq_false_iff_ne.2 (by omega)
        have HN : Hid (charFrom (k + 1) s[0].toNat = ANS) := by
          have := HS.out; rw [if_neg hcr] at this; exact this.symm.trans HK.out
        clear HS HK hcr
        go_wp2
        go_quiet (fail)
        go_wp2
        go_roundw
        case rel => exact ⟨k + 1, by omega, by go_num, HN, bel_drewN (hbw.alloc hsz _) _⟩
        case measure => simp [intOf]; omega
    · obtain rfl : k = 15 := by omega
      have hA : ANS = none := HK.out.symm
      subst hA
      clear HK
      go_wp2
      go_ret2
      exact ⟨rfl, hbw⟩

set_option maxHeartbeats 1000000 in
theorem escaped_num (s : ByteArray) (w : World) (hs : s.size ≤ 100000) (h0 : 0 < s.size) (d : Nat) (h : ((s[0].toNat : Int) = 120 ∧ d = 2) ∨ ((s[0].toNat : Int) = 117 ∧ d = 4) ∨ ((s[0].toNat : Int) = 85 ∧ d = 8)) :
    Calls Tryz.prog 191 #[.string s] w fun e w' => e = pairR (numOf s.data.toList d) ∧ Below w.heap.size w w' := by
  have hemp := ba_isEmpty s h0
  have hnil := ba_notnil s h0
  have cN := numbered_any s d w (by omega) hs
  unfold pairR
  generalize numOf s.data.toList d = N at *
  rcases h with ⟨h1, rfl⟩ | ⟨h1, rfl⟩ | ⟨h1, rfl⟩
  all_goals
    go_enter Tryz.func191, Tryz.ntmps191
    go_wp2_with (go_at_call 232; refine cN.mono ?_; rintro e w' ⟨rfl, hb⟩)
    go_ret2
    exact ⟨rfl, hb⟩
set_option maxHeartbeats 1000000 in
theorem escaped_slash (s : ByteArray) (w : World) (h0 : 0 < s.size) (h1 : (s[0].toNat : Int) = 47) :
    Calls Tryz.prog 191 #[.string s] w fun e w' => e = pairR (47, 1) ∧ Below w.heap.size w w' := by
  have hemp := ba_isEmpty s h0
  have hnil := ba_notnil s h0
  go_enter Tryz.func191, Tryz.ntmps191
  go_wp2
  go_ret2
  exact ⟨rfl, Below.refl _ _⟩
set_option maxHeartbeats 1000000 in
theorem escaped_empty (w : World) :
    Calls Tryz.prog 191 #[.string ⟨#[]⟩] w fun e w' => e = pairR (0, 0) ∧ Below w.heap.size w w' := by
  go_enter Tryz.func191, Tryz.ntmps191
  go_wp2
  go_ret2
  exact ⟨rfl, Below.refl _ _⟩
theorem ba_zero (s : ByteArray) (h : s.size = 0) : s = ⟨#[]⟩ := by
  cases s with
  | mk d => have hd : d.size = 0 := h
            rw [Array.size_eq_zero_iff] at hd; rw [hd]
/-- THE CONTRACT of escaped -/
theorem escaped_any (s : ByteArray) (w : World) (hs : s.size ≤ 100000) (hE : Env w) :
    Calls Tryz.prog 191 #[.string s] w fun e w' => e = pairR (escOf s.data.toList) ∧ Below w.heap.size w w' := by
  by_cases h0 : 0 < s.size
  · have hl := ba_list s h0
    by_cases h1 : s[0].toNat = 47
    · have : escOf s.data.toList = (47, 1) := by rw [hl]; simp only [escOf, if_pos h1]
      rw [this]; exact escaped_slash s w h0 (by omega)
    · by_cases h2 : s[0].toNat = 120
      · have : escOf s.data.toList = numOf s.data.toList 2 := by rw [hl]; simp only [escOf, if_neg h1, if_pos h2]
        rw [this]; exact escaped_num s w hs h0 2 (Or.inl ⟨by omega, rfl⟩)
      · by_cases h3 : s[0].toNat = 117
        · have : escOf s.data.toList = numOf s.data.toList 4 := by rw [hl]; simp only [escOf, if_neg h1, if_neg h2, if_pos h3]
          rw [this]; exact escaped_num s w hs h0 4 (Or.inr (Or.inl ⟨by omega, rfl⟩))
        · by_cases h4 : s[0].toNat = 85
          · have : escOf s.data.toList = numOf s.data.toList 8 := by rw [hl]; simp only [escOf, if_neg h1, if_neg h2, if_neg h3, if_pos h4]
            rw [this]; exact escaped_num s w hs h0 8 (Or.inr (Or.inr ⟨by omega, rfl⟩))
          · have : escOf s.data.toList = nmR (charFrom 0 s[0].toNat) := by
              rw [hl]; simp only [escOf, if_neg h1, if_neg h2, if_neg h3, if_neg h4]
            rw [this]
            exact escaped_named s w hE h0 (beq_eq_false_iff_ne.2 (by omega)) (beq_eq_false_iff_ne.2 (by omega)) (beq_eq_false_iff_ne.2 (by omega)) (beq_eq_false_iff_ne.2 (by omega))
  · have hz := ba_zero s (by omega)
    subst hz
    exact escaped_empty w
end Go.Proofs.YtjcfmghijfnehaaGreatDoor
namespace Go.Proofs.YtjcfmghijfnehaaGreatDoor
open Go.RowKit

theorem charFrom_le (b r : Nat) (h : charFrom 0 b = some r) : r ≤ 10000 := by
  unfold charFrom at h
  obtain ⟨p, hp, rfl⟩ := Option.map_eq_some_iff.1 h
  have hm := List.mem_of_find?_eq_some hp
  have : ∀ q ∈ namedTab, q.1 ≤ 10000 := by decide
  exact this p (by simpa using hm)
theorem numOf_le (l : List UInt8) (d : Nat) : (numOf l d).1 ≤ 1114111 ∧ (numOf l d).2 ≤ l.length := by
  unfold numOf
  split
  · exact ⟨by simp, by simp⟩
  · rename_i hl
    cases hexNum ((l.drop 1).take d) 0 with
    | none => exact ⟨by simp, by simp⟩
    | some n =>
      simp only
      split
      · rename_i hc; unfold Sc.isCh at hc; exact ⟨by simp only; omega, by simp only; omega⟩
      · exact ⟨by simp, by simp⟩
theorem escOf_le (l : List UInt8) : (escOf l).1 ≤ 1114111 ∧ (escOf l).2 ≤ l.length := by
  cases l with
  | nil => simp [escOf]
  | cons c t =>
    simp only [escOf]
    repeat' split
    · simp
    · exact numOf_le _ _
    · exact numOf_le _ _
    · exact numOf_le _ _
    · cases h : charFrom 0 c.toNat with
      | none => simp [nmR]
      | some r => have := charFrom_le _ _ h; simp [nmR]; omega

/-- what stands between double quotes, with fuel -/
def unqGo : Nat → List UInt8 → Option (List UInt8)
  | 0, _ => some []
  | _ + 1, [] => some []
  | n + 1, b :: t =>
    if b.toNat = 34 ∨ b.toNat = 10 then none
    else if b.toNat = 92 then (if (escOf t).2 = 0 then none else (unqGo n (t.drop (escOf t).2)).map (Sc.enc (escOf t).1 ++ ·))
    else (unqGo n t).map ([b] ++ ·)
theorem unqGo_fuel : ∀ (n m : Nat) (l : List UInt8), l.length ≤ n → l.length ≤ m → unqGo n l = unqGo m l
  | 0, m, l, h, _ => by
    have : l = [] := List.eq_nil_of_length_eq_zero (by omega)
    subst this; cases m <;> rfl
  | n + 1, 0, l, _, h => by
    have : l = [] := List.eq_nil_of_length_eq_zero (by omega)
    subst this; rfl
  | n + 1, m + 1, [], _, _ => rfl
  | n + 1, m + 1, b :: t, h1, h2 => by
    simp only [List.length_cons] at h1 h2
    simp only [unqGo]
    rw [unqGo_fuel n m t (by omega) (by omega), unqGo_fuel n m (t.drop (escOf t).2) (by rw [List.length_drop]; omega) (by rw [List.length_drop]; omega)]
def unq (l : List UInt8) : Option (List UInt8) := unqGo l.length l
theorem unq_nil : unq [] = some [] := rfl
theorem unq_cons (b : UInt8) (t : List UInt8) : unq (b :: t) = if b.toNat = 34 ∨ b.toNat = 10 then none
    else if b.toNat = 92 then (if (escOf t).2 = 0 then none else (unq (t.drop (escOf t).2)).map (Sc.enc (escOf t).1 ++ ·)) else (unq t).map ([b] ++ ·) := by
  unfold unq
  simp only [List.length_cons, unqGo]
  rw [unqGo_fuel t.length (t.drop (escOf t).2).length (t.drop (escOf t).2) (by rw [List.length_drop]; omega) (Nat.le_refl _)]

/-- Unquote, by its bytes -/
def unquoteOf (l : List UInt8) : Option (List UInt8) :=
  if Lib.validD l = true ∧ 2 ≤ l.length ∧ l.head? = some 34 ∧ l.getLast? = some 34 then unq ((l.drop 1).take (l.length - 2)) else none

theorem own_below {w w' : World} {B : Nat} {v : Value} {l : List UInt8} (h : Own w B v l) (hb : Below w.heap.size w w') : Own w' B v l := by
  obtain ⟨h1, h2⟩ := h
  refine ⟨h1, ?_⟩
  rcases h2 with h2 | ⟨g, cap, cur, hv, hB, hh, hr⟩
  · exact .inl h2
  · exact .inr ⟨g, cap, cur, hv, hB, (hb.block g (Array.getElem?_eq_some_iff.1 hh).1).trans hh, hr⟩
/-- the loop's word: what was read, and what is left -/
def Joins (a : List UInt8) (o ANS : Option (List UInt8)) : Prop := o.map (a ++ ·) = ANS
theorem Joins.step {a x : List UInt8} {o ANS : Option (List UInt8)} (h : Joins a (o.map (x ++ ·)) ANS) : Joins (a ++ x) o ANS := by
  unfold Joins at *
  rw [← h, Option.map_map]
  congr 1
  funext y
  simp

set_option maxHeartbeats 2000000 in
set_option maxRecDepth 100000 in
theorem unquote_good (s : ByteArray) (w : World) (hs : s.size ≤ 50000) (hE : Env w) (hv : Lib.validD s.data.toList = true) (h2 : 2 ≤ s.size) (h3 : ((s[0].toNat : Int) != 34) = false) (h4 : ((s[s.size - 1].toNat : Int) != 34) = false) :
    Calls Tryz.prog 139 #[.string s] w fun e w' => e = txtR (unq ((s.data.toList.drop 1).take (s.data.toList.length - 2))) ∧ Below w.heap.size w w' := by
  have cV := valid_any s w (by omega) hE
  rw [hv] at cV
  clear hv
  obtain ⟨I, hI⟩ : ∃ I, s.extract 1 (s.size - 1) = I := ⟨_, rfl⟩
  have hId : I.data.toList = (s.data.toList.drop 1).take (s.data.toList.length - 2) := by
    rw [← hI, Lib.extract_data, ← Lib.size_eq]; congr 1
  have hIs : I.size ≤ 50000 := by
    rw [Lib.size_eq, hId, List.length_take, List.length_drop, ← Lib.size_eq]; omega
  rw [← hId]
  clear hId
  obtain ⟨ANS, hANS⟩ : ∃ ANS, unq I.data.toList = ANS := ⟨_, rfl⟩
  rw [hANS]
  have HA : Joins [] (unq (I.data.toList.drop 0)) ANS := by unfold Joins; rw [← hANS]; simp
  clear hANS
  go_enter Tryz.func139, Tryz.ntmps139
  go_wp2_with (go_at_call 71; refine cV.mono ?_; rintro e w1 ⟨rfl, hb⟩)
  clear cV
  have hE1 : Env w1 := hE.below hb
  clear hE hI
  go_loopw [5, 6] (fun v i wr => ∃ (k : Nat) (a : List UInt8), k ≤ I.size ∧ i = .int .i64 k ∧ Own wr w1.heap.size v a ∧ Below w1.heap.size w1 wr ∧ Joins a (unq (I.data.toList.drop k)) ANS ∧ a.length ≤ 4 * k) (fun _ i _ => I.size - (intOf i).toNat)
  case atStart => exact ⟨0, [], by omega, rfl, own_nil _ _, Below.refl _ _, HA, by simp⟩
  case round =>
    obtain ⟨k, a, hk, rfl, hown, hbw, HJ, hal⟩ := hrel
    clear HA
    have hsz := hbw.size
    by_cases hlt : k < I.size
    · have hbl := Sc.drop_cons I k hlt
      rw [hbl, unq_cons] at HJ
      clear hbl
      have hb256 := I[k].toNat_lt
      by_cases c1 : I[k].toNat = 34 ∨ I[k].toNat = 10
      · rw [if_pos c1] at HJ
        have HF : Hid (ANS = none) := HJ.symm
        clear HJ
        rcases c1 with c1 | c1
        · have b1 : ((I[k].toNat : Int) == 34) = true := beq_iff_eq.2 (by omega)
          clear c1
          go_wp2
          go_ret2
          rw [HF.out]
          exact ⟨rfl, hb.trans (hbw.mono hb.size)⟩
        · have b1 : ((I[k].toNat : Int) == 34) = false := beq_eq_false_iff_ne.2 (by omega)
          have b2 : ((I[k].toNat : Int) == 10) = true := beq_iff_eq.2 (by omega)
          clear c1
          go_wp2
          go_ret2
          rw [HF.out]
          exact ⟨rfl, hb.trans (hbw.mono hb.size)⟩
      · rw [if_neg c1] at HJ
        have b1 : ((I[k].toNat : Int) == 34) = false := beq_eq_false_iff_ne.2 (by omega)
        have b2 : ((I[k].toNat : Int) == 10) = false := beq_eq_false_iff_ne.2 (by omega)
        clear c1
        by_cases c2 : I[k].toNat = 92
        · rw [if_pos c2] at HJ
          have b3 : ((I[k].toNat : Int) == 92) = true := beq_iff_eq.2 (by omega)
          clear c2
          have hTd : (I.extract (k + 1) I.size).data.toList = I.data.toList.drop (k + 1) := Lib.extract_to_end I (k + 1)
          have hTs : (I.extract (k + 1) I.size).size ≤ 100000 := by
            rw [Lib.size_eq, hTd, List.length_drop, ← Lib.size_eq]; omega
          have hEr : Env wr := hE1.kept hE1.size hbw
          have cE := escaped_any (I.extract (k + 1) I.size) wr hTs hEr
          rw [hTd] at cE
          have hle := escOf_le (I.data.toList.drop (k + 1))
          rw [List.length_drop, ← Lib.size_eq] at hle
          rw [List.drop_drop] at HJ
          clear hTd hTs hEr
          generalize escOf (I.data.toList.drop (k + 1)) = P at *
          obtain ⟨r, z⟩ := P
          simp only at hle HJ
          obtain ⟨hr, hz⟩ := hle
          unfold pairR at cE
          simp only at cE
          by_cases c3 : z = 0
          · subst c3
            have HF : Hid (ANS = none) := HJ.symm
            clear HJ
            go_wp2_with (go_at_call 191; refine cE.mono ?_; rintro e w2 ⟨rfl, hb2⟩)
            go_ret2
            rw [HF.out]
            exact ⟨rfl, hb.trans ((hbw.trans (hb2.mono hsz)).mono hb.size)⟩
          · rw [if_neg c3] at HJ
            have HN := HJ.step
            have b4 : ((z : Int) == 0) = false := beq_eq_false_iff_ne.2 (by omega)
            have hel := Sc.enc_len r
            clear c3 HJ
            have CR := Lib.hid (fun w2 (hb2 : Below wr.heap.size wr w2) => rune_any w1.heap.size _ a r w2 hr (own_below hown hb2) (by omega) (Nat.le_trans hsz hb2.size))
            clear hown
            go_wp2_with (first | (go_at_call 191; refine cE.mono ?_; rintro e w2 ⟨rfl, hb2⟩) | (go_at_call 192; refine (CR.out _ hb2).mono ?_; rintro e w3 ⟨v3, rfl, ho3, hk3⟩))
            go_roundw
            case rel =>
              refine ⟨k + 1 + z, a ++ Sc.enc r, by omega, by go_num, ho3, (hbw.trans (hb2.mono hsz)).trans hk3.1, HN, ?_⟩
              rw [List.length_append]; omega
            case measure => simp [intOf]; omega
        · rw [if_neg c2] at HJ
          have b3 : ((I[k].toNat : Int) == 92) = false := beq_eq_false_iff_ne.2 (by omega)
          have HN := HJ.step
          clear c2 HJ
          go_wp2_with (at_builtin; refine wpList_push rfl (.tmp 46) (.tmp 48) rfl w1.heap.size _ a [I[k]] wr _ _ _ rfl _ rfl rfl rfl rfl hown (by simp; omega) hsz ?_; intro v' w' ho' hk' hB')
          go_roundw
          case rel => exact ⟨k + 1, a ++ [I[k]], by omega, by go_num, ho', hbw.trans hk'.1, HN, by simp; omega⟩
          case measure => simp [intOf]; omega
    · have hA : some a = ANS := by
        have h := HJ; unfold Joins at h; rw [Sc.drop_nil I k (by omega), unq_nil] at h; simpa using h
      subst hA
      clear HJ
      have hcv := own_string hown
      go_wp2
      go_ret2
      exact ⟨rfl, hb.trans (hbw.mono hb.size)⟩

theorem txtR_none : txtR none = .returned (.tuple #[.string ⟨#[]⟩, .int .i64 10]) := rfl
set_option maxHeartbeats 1000000 in
theorem unquote_bad (s : ByteArray) (w : World) (hs : s.size ≤ 50000) (hE : Env w) (h : Lib.validD s.data.toList = false ∨ s.size < 2 ∨ ∃ h2 : 2 ≤ s.size, ((s[0].toNat : Int) != 34) = true ∨ (((s[0].toNat : Int) != 34) = false ∧ ((s[s.size - 1].toNat : Int) != 34) = true)) :
    Calls Tryz.prog 139 #[.string s] w fun e w' => e = txtR none ∧ Below w.heap.size w w' := by
  have cV := valid_any s w (by omega) hE
  clear hE
  rw [txtR_none]
  cases hv : Lib.validD s.data.toList
  · rw [hv] at cV
    clear hv h
    go_enter Tryz.func139, Tryz.ntmps139
    go_wp2_with (go_at_call 71; refine cV.mono ?_; rintro e w1 ⟨rfl, hb⟩)
    go_ret2
    exact ⟨rfl, hb⟩
  · rw [hv] at cV
    rw [hv] at h
    clear hv
    rcases h with h | h | ⟨h2, h | ⟨h3, h⟩⟩
    · cases h
    · go_enter Tryz.func139, Tryz.ntmps139
      go_wp2_with (go_at_call 71; refine cV.mono ?_; rintro e w1 ⟨rfl, hb⟩)
      go_ret2
      exact ⟨rfl, hb⟩
    · go_enter Tryz.func139, Tryz.ntmps139
      go_wp2_with (go_at_call 71; refine cV.mono ?_; rintro e w1 ⟨rfl, hb⟩)
      go_ret2
      exact ⟨rfl, hb⟩
    · go_enter Tryz.func139, Tryz.ntmps139
      go_wp2_with (go_at_call 71; refine cV.mono ?_; rintro e w1 ⟨rfl, hb⟩)
      go_ret2
      exact ⟨rfl, hb⟩

theorem ba_last (s : ByteArray) (h : 0 < s.size) : s.data.toList.getLast? = some s[s.size - 1] := by
  rw [List.getLast?_eq_getElem?, ← Lib.size_eq]
  exact Lib.data_getElem? s (s.size - 1) (by omega)
theorem ba_head (s : ByteArray) (h : 0 < s.size) : s.data.toList.head? = some s[0] := by
  rw [List.head?_eq_getElem?]
  exact Lib.data_getElem? s 0 h
theorem u8_34 (b : UInt8) : (b = 34) ↔ (b.toNat : Int) = 34 := ⟨fun h => by rw [h]; rfl, fun h => Sc.u8_eq 34 (by omega)⟩
/-- THE CONTRACT of Unquote -/
theorem unquote_any (s : ByteArray) (w : World) (hs : s.size ≤ 50000) (hE : Env w) :
    Calls Tryz.prog 139 #[.string s] w fun e w' => e = txtR (unquoteOf s.data.toList) ∧ Below w.heap.size w w' := by
  unfold unquoteOf
  by_cases h : Lib.validD s.data.toList = true ∧ 2 ≤ s.data.toList.length ∧ s.data.toList.head? = some 34 ∧ s.data.toList.getLast? = some 34
  · rw [if_pos h]
    obtain ⟨hv, h2, h3, h4⟩ := h
    rw [← Lib.size_eq] at h2
    rw [ba_head s (by omega)] at h3
    rw [ba_last s (by omega)] at h4
    exact unquote_good s w hs hE hv h2 (by rw [(u8_34 _).1 (Option.some.inj h3)]; rfl) (by rw [(u8_34 _).1 (Option.some.inj h4)]; rfl)
  · rw [if_neg h]
    refine unquote_bad s w hs hE ?_
    cases hv : Lib.validD s.data.toList
    · exact Or.inl rfl
    · right
      by_cases h2 : s.size < 2
      · exact Or.inl h2
      · right
        refine ⟨by omega, ?_⟩
        by_cases h3 : (s[0].toNat : Int) = 34
        · right
          refine ⟨by rw [h3]; rfl, bne_iff_ne.2 fun h4 => h ⟨hv, by rw [← Lib.size_eq]; omega, ?_, ?_⟩⟩
          · rw [ba_head s (by omega), (u8_34 _).2 h3]
          · rw [ba_last s (by omega), (u8_34 _).2 h4]
        · exact Or.inl (bne_iff_ne.2 h3)
end Go.Proofs.YtjcfmghijfnehaaGreatDoor
