/-
  Plain mathematics, no program in it: digits, signs, whole numbers, decimals; the tag of a text as the program tells it, and as the document does.
  Plain mathematics, no program in it: tags and their words, what fits, signs ahead of numbers.
  Walks of the small functions: HasPrefix, CutPrefix, TrimPrefix; worth, digitsAhead, allDigits, withoutSign.
-/
import Derived.Lib.Strings
import Derived.Test.YtbimjdlkffbncaaDoorProg
import Derived.WalkKit
import Derived.WalkSpells
import Derived.WalkLawsBesides
import Derived.Lib.Hide
namespace Go.Proofs.YtbimjdlkffbncaaDoor
namespace Tg

/-- what a byte is worth as a digit; 16: it is none -/
def worth (b : UInt8) : Nat :=
  if 97 ≤ b.toNat ∧ b.toNat ≤ 102 then b.toNat - 87 else if 65 ≤ b.toNat ∧ b.toNat ≤ 70 then b.toNat - 55 else if 48 ≤ b.toNat ∧ b.toNat ≤ 57 then b.toNat - 48 else 16
def dg (base : Nat) (b : UInt8) : Bool := decide (worth b < base)
def ahead (base : Nat) (l : List UInt8) : Nat := (l.takeWhile (dg base)).length
def allDg (base : Nat) (l : List UInt8) : Bool := !l.isEmpty && l.all (dg base)
/-- a text without one sign ahead -/
def bare : List UInt8 → List UInt8
  | [] => []
  | b :: t => if b = 43 ∨ b = 45 then t else b :: t
def isInt (l : List UInt8) : Bool :=
  if Lib.hasPrefix l [48, 111] = true then allDg 8 (l.drop 2) else if Lib.hasPrefix l [48, 120] = true then allDg 16 (l.drop 2) else allDg 10 (bare l)
def isPower : List UInt8 → Bool
  | [] => false
  | b :: t => (b == 101 || b == 69) && allDg 10 (bare t)
/-- behind digits: nothing, or a power -/
def tailOk (l : List UInt8) : Bool := l.isEmpty || isPower l
def isDecimal (l : List UInt8) : Bool :=
  if Lib.hasPrefix (l.drop (ahead 10 l)) [46] = true then
    decide (0 < ahead 10 l + ahead 10 (l.drop (ahead 10 l + 1))) && tailOk ((l.drop (ahead 10 l + 1)).drop (ahead 10 (l.drop (ahead 10 l + 1))))
  else decide (0 < ahead 10 l) && tailOk (l.drop (ahead 10 l))
def nans : List (List UInt8) := [[46, 110, 97, 110], [46, 78, 97, 78], [46, 78, 65, 78]]
def infs : List (List UInt8) := [[46, 105, 110, 102], [46, 73, 110, 102], [46, 73, 78, 70]]
def nulls : List (List UInt8) := [[], [126], [110, 117, 108, 108], [78, 117, 108, 108], [78, 85, 76, 76]]
def bools : List (List UInt8) := [[116, 114, 117, 101], [84, 114, 117, 101], [84, 82, 85, 69], [102, 97, 108, 115, 101], [70, 97, 108, 115, 101], [70, 65, 76, 83, 69]]
def isFloat (l : List UInt8) : Bool := nans.contains l || infs.contains (bare l) || isDecimal (bare l)
/-- the kinds of texts -/
inductive K where
  | nul | boo | int | flt | str
deriving DecidableEq
def K.w : K → List UInt8
  | .nul => [110, 117, 108, 108]
  | .boo => [98, 111, 111, 108]
  | .int => [105, 110, 116]
  | .flt => [102, 108, 111, 97, 116]
  | .str => [115, 116, 114]
def resolve (l : List UInt8) : K :=
  if nulls.contains l = true then .nul else if bools.contains l = true then .boo else if isInt l = true then .int else if isFloat l = true then .flt else .str

/-! The document's. -/
def digs : List UInt8 := [48, 49, 50, 51, 52, 53, 54, 55, 56, 57]
def octs : List UInt8 := [48, 49, 50, 51, 52, 53, 54, 55]
def hexs : List UInt8 := [48, 49, 50, 51, 52, 53, 54, 55, 56, 57, 97, 98, 99, 100, 101, 102, 65, 66, 67, 68, 69, 70]
def only (l of : List UInt8) : Bool := l.all (of.contains ·) && !l.isEmpty
def wholeR (l : List UInt8) : Bool :=
  if only (bare l) digs = true then true else if Lib.hasPrefix l [48, 111] = true then only (l.drop 2) octs else Lib.hasPrefix l [48, 120] && only (l.drop 2) hexs
/-- the place of the first one of two bytes; the length, if there is none -/
def find (a b : UInt8) (l : List UInt8) : Nat := (l.takeWhile fun x => !(x == a || x == b)).length
def fractionR (l : List UInt8) : Bool :=
  if find 46 46 l = l.length then only l digs
  else if find 46 46 l = 0 then only (l.drop (find 46 46 l + 1)) digs
  else only (l.take (find 46 46 l)) digs && ((l.drop (find 46 46 l + 1)).isEmpty || only (l.drop (find 46 46 l + 1)) digs)
def decR (s : List UInt8) : Bool :=
  if find 101 69 s < s.length ∧ only (bare (s.drop (find 101 69 s + 1))) digs = false then false else fractionR (s.take (find 101 69 s))
def floatR (l : List UInt8) : Bool := infs.contains (bare l) || nans.contains l || decR (bare l)
def resolveR (l : List UInt8) : K :=
  if nulls.contains l = true then .nul else if bools.contains l = true then .boo else if wholeR l = true then .int else if floatR l = true then .flt else .str

theorem forall_u8 {p : UInt8 → Prop} (h : ∀ n : Fin 256, p (UInt8.ofNat n.val)) (b : UInt8) : p b := by
  have := h ⟨b.toNat, b.toNat_lt⟩
  simpa using this
theorem digs_dg (b : UInt8) : digs.contains b = dg 10 b := by revert b; exact forall_u8 (by decide +kernel)
theorem octs_dg (b : UInt8) : octs.contains b = dg 8 b := by revert b; exact forall_u8 (by decide +kernel)
theorem hexs_dg (b : UInt8) : hexs.contains b = dg 16 b := by revert b; exact forall_u8 (by decide +kernel)
theorem only_digs (l : List UInt8) : only l digs = allDg 10 l := by
  unfold only allDg; rw [Bool.and_comm]; congr 2; funext b; exact digs_dg b
theorem only_octs (l : List UInt8) : only l octs = allDg 8 l := by
  unfold only allDg; rw [Bool.and_comm]; congr 2; funext b; exact octs_dg b
theorem only_hexs (l : List UInt8) : only l hexs = allDg 16 l := by
  unfold only allDg; rw [Bool.and_comm]; congr 2; funext b; exact hexs_dg b

theorem whole_eq (l : List UInt8) : isInt l = wholeR l := by
  unfold isInt wholeR
  rw [only_digs, only_octs, only_hexs]
  by_cases h1 : Lib.hasPrefix l [48, 111] = true
  · rw [if_pos h1]
    have : allDg 10 (bare l) = false := by
      obtain ⟨t, rfl⟩ : ∃ t, l = 48 :: 111 :: t := by
        unfold Lib.hasPrefix at h1
        rw [List.isPrefixOf_iff_prefix] at h1
        obtain ⟨t, ht⟩ := h1
        exact ⟨t, ht.symm⟩
      simp [bare, allDg, dg, worth]
    rw [this]; simp [h1]
  · rw [if_neg h1]
    by_cases h2 : Lib.hasPrefix l [48, 120] = true
    · rw [if_pos h2]
      have : allDg 10 (bare l) = false := by
        obtain ⟨t, rfl⟩ : ∃ t, l = 48 :: 120 :: t := by
          unfold Lib.hasPrefix at h2
          rw [List.isPrefixOf_iff_prefix] at h2
          obtain ⟨t, ht⟩ := h2
          exact ⟨t, ht.symm⟩
        simp [bare, allDg, dg, worth]
      rw [this]; simp [h1, h2]
    · rw [if_neg h2]
      have h2' : Lib.hasPrefix l [48, 120] = false := by simpa using h2
      cases h : allDg 10 (bare l) <;> simp [h1, h2']

theorem tailOk_cons (d : UInt8) (u : List UInt8) : tailOk (d :: u) = ((d == 101 || d == 69) && allDg 10 (bare u)) := rfl
theorem dropWhile_head (l : List UInt8) : ∀ c t, l.dropWhile (dg 10) = c :: t → dg 10 c = false := by
  induction l with
  | nil => intro c t h; cases h
  | cons x u ih =>
    intro c t h
    rw [List.dropWhile_cons] at h
    split at h
    · exact ih c t h
    · rename_i hx
      cases h
      simpa using hx
/-- digits, then something that does not begin with one -/
theorem split_dg (l : List UInt8) : ∃ a r, l = a ++ r ∧ a.all (dg 10) = true ∧ (∀ c t, r = c :: t → dg 10 c = false) ∧ ahead 10 l = a.length ∧ l.drop (ahead 10 l) = r := by
  refine ⟨l.takeWhile (dg 10), l.dropWhile (dg 10), List.takeWhile_append_dropWhile.symm, List.all_takeWhile, ?_, rfl, ?_⟩
  · exact dropWhile_head l
  · have := List.takeWhile_append_dropWhile (p := dg 10) (l := l)
    have h2 : l.drop (ahead 10 l) = (l.takeWhile (dg 10) ++ l.dropWhile (dg 10)).drop (l.takeWhile (dg 10)).length := by rw [this]; rfl
    rw [h2, List.drop_left]
theorem find_skip (a b : UInt8) (u t : List UInt8) (h : ∀ x ∈ u, x ≠ a ∧ x ≠ b) : find a b (u ++ t) = u.length + find a b t := by
  unfold find
  rw [List.takeWhile_append_of_pos]
  · simp
  · intro x hx; have := h x hx; simp [this]
theorem find_here (a b c : UInt8) (t : List UInt8) (h : c = a ∨ c = b) : find a b (c :: t) = 0 := by
  unfold find; rw [List.takeWhile_cons_of_neg]; · rfl
  · rcases h with h | h <;> simp [h]
theorem find_nil (a b : UInt8) : find a b [] = 0 := rfl
theorem find_le (a b : UInt8) (l : List UInt8) : find a b l ≤ l.length := by
  unfold find; exact (List.takeWhile_sublist _).length_le
theorem dg_not (c : UInt8) : dg 10 c = true → c ≠ 46 ∧ c ≠ 101 ∧ c ≠ 69 ∧ c ≠ 43 ∧ c ≠ 45 := by
  revert c; exact forall_u8 (by decide +kernel)
theorem mem_dg {a : List UInt8} (h : a.all (dg 10) = true) : ∀ x ∈ a, dg 10 x = true := by simpa using h
theorem skip_dg {a : List UInt8} (h : a.all (dg 10) = true) (t : List UInt8) : find 101 69 (a ++ t) = a.length + find 101 69 t :=
  find_skip _ _ _ _ fun x hx => ⟨(dg_not x (mem_dg h x hx)).2.1, (dg_not x (mem_dg h x hx)).2.2.1⟩
theorem skip_dot {a : List UInt8} (h : a.all (dg 10) = true) (t : List UInt8) : find 46 46 (a ++ t) = a.length + find 46 46 t :=
  find_skip _ _ _ _ fun x hx => ⟨(dg_not x (mem_dg h x hx)).1, (dg_not x (mem_dg h x hx)).1⟩
theorem allDg_of {a : List UInt8} (h : a.all (dg 10) = true) : allDg 10 a = decide (0 < a.length) := by
  unfold allDg; rw [h]; cases a <;> simp
theorem allDg_bad {a : List UInt8} (c : UInt8) (t : List UInt8) (h : dg 10 c = false) : allDg 10 (a ++ c :: t) = false := by
  unfold allDg; simp [h]

/-- digits alone -/
theorem frac_digits {a : List UInt8} (h : a.all (dg 10) = true) : fractionR a = decide (0 < a.length) := by
  have : find 46 46 a = a.length := by have := skip_dot h []; rw [List.append_nil] at this; simpa [find_nil] using this
  unfold fractionR
  rw [if_pos this, only_digs, allDg_of h]
/-- digits, a point, digits -/
theorem frac_point {a b : List UInt8} (ha : a.all (dg 10) = true) (hb : b.all (dg 10) = true) : fractionR (a ++ 46 :: b) = decide (0 < a.length + b.length) := by
  have e : find 46 46 (a ++ 46 :: b) = a.length := by rw [skip_dot ha, find_here _ _ _ _ (Or.inl rfl)]; rfl
  unfold fractionR
  rw [e, if_neg (by simp)]
  have e2 : (a ++ 46 :: b).drop (a.length + 1) = b := by simp
  have e3 : (a ++ 46 :: b).take a.length = a := by simp
  rw [e2, e3, only_digs, only_digs, allDg_of ha, allDg_of hb]
  by_cases h0 : a.length = 0
  · rw [if_pos h0]; simp [h0]
  · rw [if_neg h0]
    cases b <;> simp <;> omega
/-- digits, a point, digits, and something else -/
theorem frac_point_bad {a b : List UInt8} (ha : a.all (dg 10) = true) (d : UInt8) (t : List UInt8) (hd : dg 10 d = false) : fractionR (a ++ 46 :: (b ++ d :: t)) = false := by
  have e : find 46 46 (a ++ 46 :: (b ++ d :: t)) = a.length := by rw [skip_dot ha, find_here _ _ _ _ (Or.inl rfl)]; rfl
  unfold fractionR
  rw [e, if_neg (by simp)]
  have e2 : (a ++ 46 :: (b ++ d :: t)).drop (a.length + 1) = b ++ d :: t := by simp
  rw [e2, only_digs, only_digs, allDg_bad d t hd]
  simp
/-- digits, and something else that is no point -/
theorem frac_bad {a : List UInt8} (ha : a.all (dg 10) = true) (d : UInt8) (t : List UInt8) (hd : dg 10 d = false) (h46 : d ≠ 46) : fractionR (a ++ d :: t) = false := by
  have e : find 46 46 (a ++ d :: t) = (a ++ [d]).length + find 46 46 t := by
    rw [show a ++ d :: t = (a ++ [d]) ++ t by simp]
    exact find_skip _ _ _ _ fun x hx => by
      rw [List.mem_append] at hx
      rcases hx with hx | hx
      · exact ⟨(dg_not x (mem_dg ha x hx)).1, (dg_not x (mem_dg ha x hx)).1⟩
      · rw [List.mem_singleton] at hx; subst hx; exact ⟨h46, h46⟩
  unfold fractionR
  by_cases h : find 46 46 (a ++ d :: t) = (a ++ d :: t).length
  · rw [if_pos h, only_digs, allDg_bad d t hd]
  · rw [if_neg h, if_neg (by rw [e]; simp)]
    have e3 : (a ++ d :: t).take (find 46 46 (a ++ d :: t)) = a ++ d :: t.take (find 46 46 t) := by
      rw [e, show a ++ d :: t = (a ++ [d]) ++ t by simp, List.take_append, List.take_of_length_le (by omega)]
      simp
    rw [e3, only_digs, allDg_bad d _ hd]; rfl

theorem dec_eq (l : List UInt8) : isDecimal l = decR l := by
  obtain ⟨a, r, hl, ha, hr, h1, h2⟩ := split_dg l
  unfold isDecimal
  rw [h2]
  cases r with
  | nil =>
    rw [if_neg (by simp [Lib.hasPrefix]), h1]
    have hl' : l = a := by simpa using hl
    subst hl'
    have e : find 101 69 l = l.length := by have := skip_dg ha []; rw [List.append_nil] at this; simpa [find_nil] using this
    unfold decR
    rw [if_neg (by rw [e]; omega), e, List.take_length, frac_digits ha]
    simp [tailOk]
  | cons c t =>
    have hc := hr c t rfl
    have hd1 : l.drop (ahead 10 l + 1) = t := by rw [← List.drop_drop, h2]; rfl
    by_cases h46 : c = 46
    · subst h46
      rw [if_pos (by simp [Lib.hasPrefix]), hd1, h1]
      obtain ⟨b, q, hq, hb, hq0, g1, g2⟩ := split_dg t
      rw [g2, g1]
      cases q with
      | nil =>
        have hq' : t = b := by simpa using hq
        subst hq'
        subst hl
        have e : find 101 69 (a ++ 46 :: t) = (a ++ 46 :: t).length := by
          rw [skip_dg ha, show (46 : UInt8) :: t = [46] ++ t by rfl, find_skip _ _ [46] t (by decide)]
          have := skip_dg hb []; rw [List.append_nil] at this; rw [this, find_nil]; simp; omega
        unfold decR
        rw [if_neg (by rw [e]; omega), e, List.take_length, frac_point ha hb]
        simp [tailOk]
      | cons d u =>
        have hd := hq0 d u rfl
        subst hq
        subst hl
        by_cases he : d = 101 ∨ d = 69
        · have e : find 101 69 (a ++ 46 :: (b ++ d :: u)) = (a ++ 46 :: b).length := by
            rw [skip_dg ha, show (46 : UInt8) :: (b ++ d :: u) = [46] ++ (b ++ d :: u) by rfl, find_skip _ _ [46] _ (by decide), skip_dg hb, find_here _ _ _ _ he]; simp; omega
          have e2 : (a ++ 46 :: (b ++ d :: u)) = (a ++ 46 :: b) ++ d :: u := by simp
          unfold decR
          rw [e, e2, only_digs]
          rw [show ((a ++ 46 :: b) ++ d :: u).drop ((a ++ 46 :: b).length + 1) = u by rw [← List.drop_drop, List.drop_left]; rfl, show ((a ++ 46 :: b) ++ d :: u).take ((a ++ 46 :: b).length) = a ++ 46 :: b by rw [List.take_append_of_le_length (Nat.le_refl _), List.take_length], frac_point ha hb]
          have hde : (d == 101 || d == 69) = true := by rcases he with h | h <;> simp [h]
          rw [tailOk_cons, hde]
          cases hp : allDg 10 (bare u)
          · rw [if_pos ⟨by simp, rfl⟩]; simp
          · rw [if_neg (by simp)]; simp
        · have hde : (d == 101 || d == 69) = false := by simp at he ⊢; exact he
          have e : find 101 69 (a ++ 46 :: (b ++ d :: u)) = (a ++ 46 :: (b ++ [d])).length + find 101 69 u := by
            rw [skip_dg ha, show (46 : UInt8) :: (b ++ d :: u) = [46] ++ (b ++ d :: u) by rfl, find_skip _ _ [46] _ (by decide), skip_dg hb, show d :: u = [d] ++ u by rfl, find_skip _ _ [d] u (by intro x hx; simp at hx; subst hx; simp at he; exact he)]; simp; omega
          have e3 : (a ++ 46 :: (b ++ d :: u)).take (find 101 69 (a ++ 46 :: (b ++ d :: u))) = a ++ 46 :: (b ++ d :: u.take (find 101 69 u)) := by
            rw [e, show a ++ 46 :: (b ++ d :: u) = (a ++ 46 :: (b ++ [d])) ++ u by simp, List.take_append, List.take_of_length_le (by omega)]
            simp
          have hz : decR (a ++ 46 :: (b ++ d :: u)) = false := by
            unfold decR
            rw [e3, frac_point_bad ha d _ hd]
            split <;> rfl
          rw [hz]
          rw [tailOk_cons, hde]; simp
    · have h46' : ¬ (46 : UInt8) = c := fun h => h46 h.symm
      rw [if_neg (by simp [Lib.hasPrefix, h46']), h1]
      subst hl
      by_cases he : c = 101 ∨ c = 69
      · have e : find 101 69 (a ++ c :: t) = a.length := by rw [skip_dg ha, find_here _ _ _ _ he]; rfl
        unfold decR
        rw [e, only_digs]
        rw [show (a ++ c :: t).drop (a.length + 1) = t by simp, show (a ++ c :: t).take a.length = a by simp, frac_digits ha]
        have hde : (c == 101 || c == 69) = true := by rcases he with h | h <;> simp [h]
        rw [tailOk_cons, hde]
        cases hp : allDg 10 (bare t)
        · rw [if_pos ⟨by simp, rfl⟩]; simp
        · rw [if_neg (by simp)]; simp
      · have hde : (c == 101 || c == 69) = false := by simp at he ⊢; exact he
        have e : find 101 69 (a ++ c :: t) = (a ++ [c]).length + find 101 69 t := by
          rw [skip_dg ha, show c :: t = [c] ++ t by rfl, find_skip _ _ [c] t (by intro x hx; simp at hx; subst hx; simp at he; exact he)]; simp; omega
        have e3 : (a ++ c :: t).take (find 101 69 (a ++ c :: t)) = a ++ c :: t.take (find 101 69 t) := by
          rw [e, show a ++ c :: t = (a ++ [c]) ++ t by simp, List.take_append, List.take_of_length_le (by omega)]
          simp
        have hz : decR (a ++ c :: t) = false := by
          unfold decR
          rw [e3, frac_bad ha c _ hc h46]
          split <;> rfl
        rw [hz]
        rw [tailOk_cons, hde]; simp
theorem float_eq (l : List UInt8) : isFloat l = floatR l := by
  unfold isFloat floatR; rw [dec_eq, Bool.or_comm (nans.contains l)]
theorem resolve_eq (l : List UInt8) : resolve l = resolveR l := by
  unfold resolve resolveR; rw [whole_eq, float_eq]
end Tg
end Go.Proofs.YtbimjdlkffbncaaDoor
namespace Go.Proofs.YtbimjdlkffbncaaDoor
namespace Tg

def cores : List (List UInt8) := [[110, 117, 108, 108], [98, 111, 111, 108], [105, 110, 116], [102, 108, 111, 97, 116], [115, 116, 114], [115, 101, 113], [109, 97, 112]]
def core (l : List UInt8) : Bool := cores.contains l
def inName (b : UInt8) : Bool := (decide (65 ≤ b.toNat) && decide (b.toNat ≤ 90)) || (decide (97 ≤ b.toNat) && decide (b.toNat ≤ 122)) || (decide (48 ≤ b.toNat) && decide (b.toNat ≤ 57)) || decide (b.toNat = 45)
def isName (l : List UInt8) : Bool := !l.isEmpty && decide (l.length ≤ 40) && l.all inName
def isOwn (l : List UInt8) : Bool := Lib.hasPrefix l [33] && isName (l.drop 1)
def right (l : List UInt8) : Bool := core l || isOwn l
def word (l : List UInt8) : List UInt8 := if core l = true then [33, 33] ++ l else if right l = true then l else []
def read (w : List UInt8) : Option (List UInt8) :=
  if right (Lib.trimPrefix w [33, 33]) = true ∧ word (Lib.trimPrefix w [33, 33]) = w then some (Lib.trimPrefix w [33, 33]) else none
def fitsK (t : List UInt8) (k : K) : Bool :=
  if t = K.str.w then true else if t = K.nul.w ∨ t = K.boo.w ∨ t = K.int.w then k.w == t else if t = K.flt.w then (k == .flt || k == .int) else isOwn t
def fits (t s : List UInt8) : Bool := fitsK t (resolve s)

/-! The document's. -/
def names : List UInt8 := digs ++ [97, 98, 99, 100, 101, 102, 103, 104, 105, 106, 107, 108, 109, 110, 111, 112, 113, 114, 115, 116, 117, 118, 119, 120, 121, 122, 65, 66, 67, 68, 69, 70, 71, 72, 73, 74, 75, 76, 77, 78, 79, 80, 81, 82, 83, 84, 85, 86, 87, 88, 89, 90, 45]
def ownR (l : List UInt8) : Bool := Lib.hasPrefix l [33] && decide (l.length ≤ 41) && only (l.drop 1) names
def rightR (l : List UInt8) : Bool := core l || ownR l
def wordR (l : List UInt8) : List UInt8 := if core l = true then [33, 33] ++ l else if ownR l = true then l else []
def readR (w : List UInt8) : Option (List UInt8) :=
  if (if Lib.hasPrefix w [33, 33] = true then w.drop 2 else w) = [] ∨ wordR (if Lib.hasPrefix w [33, 33] = true then w.drop 2 else w) ≠ w then none else some (if Lib.hasPrefix w [33, 33] = true then w.drop 2 else w)
def fitsR (t s : List UInt8) : Bool :=
  if t = K.str.w ∨ ownR t = true then true else [K.nul.w, K.boo.w, K.int.w, K.flt.w].contains t && ((resolveR s).w == t || (t == K.flt.w && (resolveR s).w == K.int.w))

theorem pre_one {l : List UInt8} {b : UInt8} (h : Lib.hasPrefix l [b] = true) : ∃ t, l = b :: t := by
  unfold Lib.hasPrefix at h
  rw [List.isPrefixOf_iff_prefix] at h
  obtain ⟨t, ht⟩ := h
  exact ⟨t, ht.symm⟩
theorem pre_two {l : List UInt8} {b c : UInt8} (h : Lib.hasPrefix l [b, c] = true) : ∃ t, l = b :: c :: t := by
  unfold Lib.hasPrefix at h
  rw [List.isPrefixOf_iff_prefix] at h
  obtain ⟨t, ht⟩ := h
  exact ⟨t, ht.symm⟩
theorem names_in (b : UInt8) : names.contains b = inName b := by revert b; exact forall_u8 (by decide +kernel)
theorem own_eq (l : List UInt8) : isOwn l = ownR l := by
  unfold isOwn ownR
  cases h : Lib.hasPrefix l [33]
  · rfl
  · obtain ⟨t, rfl⟩ := pre_one h
    unfold isName only
    rw [show (fun x => names.contains x) = inName by funext b; exact names_in b]
    simp only [List.drop_one, List.tail_cons, List.length_cons, Bool.true_and]
    rw [show decide (t.length + 1 ≤ 41) = decide (t.length ≤ 40) by congr 1; rw [eq_iff_iff]; omega]
    cases t.isEmpty <;> cases decide (t.length ≤ 40) <;> cases t.all inName <;> rfl
theorem right_eq (l : List UInt8) : right l = rightR l := by unfold right rightR; rw [own_eq]
theorem word_eq (l : List UInt8) : word l = wordR l := by
  unfold word wordR right
  rw [own_eq]
  by_cases h : core l = true
  · rw [if_pos h, if_pos h]
  · rw [if_neg h, if_neg h]
    have h' : core l = false := by simpa using h
    rw [h', Bool.false_or]
theorem right_ne {l : List UInt8} (h : right l = true) : l ≠ [] := by
  rintro rfl
  revert h; decide
theorem word_none {l : List UInt8} (h : right l = false) : word l = [] := by
  unfold word
  have h' : core l = false := by unfold right at h; cases hc : core l <;> simp_all
  rw [h', h]; rfl
theorem trim_eq (w : List UInt8) : (if Lib.hasPrefix w [33, 33] = true then w.drop 2 else w) = Lib.trimPrefix w [33, 33] := rfl
theorem read_eq (w : List UInt8) : read w = readR w := by
  unfold read readR
  rw [trim_eq, ← word_eq]
  cases hr : right (Lib.trimPrefix w [33, 33])
  · rw [if_neg (by simp), word_none hr]
    by_cases h0 : Lib.trimPrefix w [33, 33] = []
    · rw [if_pos (Or.inl h0)]
    · rw [if_pos (Or.inr ?_)]
      rintro rfl
      exact h0 rfl
  · have h0 := right_ne hr
    by_cases h1 : word (Lib.trimPrefix w [33, 33]) = w
    · rw [if_pos ⟨rfl, h1⟩, if_neg (by simp [h0, h1])]
    · rw [if_neg (by simp [h1]), if_pos (Or.inr h1)]
theorem fits_eq (t s : List UInt8) : fits t s = fitsR t s := by
  unfold fits fitsK fitsR
  rw [← resolve_eq, ← own_eq]
  generalize resolve s = k
  by_cases h1 : t = K.str.w
  · rw [if_pos h1, if_pos (Or.inl h1)]
  · rw [if_neg h1]
    by_cases h2 : t = K.nul.w ∨ t = K.boo.w ∨ t = K.int.w
    · rw [if_pos h2]
      rcases h2 with rfl | rfl | rfl <;> cases k <;> rfl
    · rw [if_neg h2]
      by_cases h3 : t = K.flt.w
      · rw [if_pos h3]; subst h3; cases k <;> rfl
      · rw [if_neg h3]
        cases ho : isOwn t
        · rw [if_neg (by simp [h1])]
          have : [K.nul.w, K.boo.w, K.int.w, K.flt.w].contains t = false := by
            rw [Bool.eq_false_iff]
            intro hc
            simp at hc h2
            rcases hc with h | h | h | h
            · exact h2.1 h
            · exact h2.2.1 h
            · exact h2.2.2 h
            · exact h3 h
          rw [this]; rfl
        · rw [if_pos (Or.inr rfl)]

/-! Tags come back. -/
theorem own_two {t : List UInt8} (h : isOwn t = true) : Lib.hasPrefix t [33, 33] = false := by
  rw [Bool.eq_false_iff]
  intro h2
  obtain ⟨u, rfl⟩ := pre_two h2
  unfold isOwn isName at h
  simp only [List.drop_one, List.tail_cons, List.all_cons, Bool.and_eq_true] at h
  have : inName 33 = false := by decide
  rw [this] at h
  exact absurd h.2.2.1 (by simp)
theorem read_word {t : List UInt8} (h : right t = true) : read (word t) = some t := by
  have ht : Lib.trimPrefix (word t) [33, 33] = t := by
    unfold word
    by_cases hc : core t = true
    · rw [if_pos hc]; unfold Lib.trimPrefix Lib.hasPrefix; simp
    · rw [if_neg hc, if_pos h]
      unfold right at h
      have hc' : core t = false := by simpa using hc
      rw [hc', Bool.false_or] at h
      unfold Lib.trimPrefix
      rw [own_two h]; simp
  unfold read
  rw [ht, if_pos ⟨h, rfl⟩]
theorem word_inj {t u : List UInt8} (ht : right t = true) (hu : right u = true) : word u = word t ↔ t = u := by
  constructor
  · intro h
    have a := read_word ht
    have b := read_word hu
    rw [h, a] at b
    exact Option.some.inj b
  · rintro rfl; rfl
theorem read_some {w x : List UInt8} (h : read w = some x) : word x = w ∧ right x = true := by
  unfold read at h
  split at h
  · rename_i hc
    cases h
    exact ⟨hc.2, hc.1⟩
  · cases h

/-! One tag. -/
theorem one_core (k : K) : core k.w = true := by cases k <;> decide
theorem one_fits (k : K) : fitsK k.w k = true := by cases k <;> decide
theorem one_str (k : K) : fitsK K.str.w k = true := by cases k <;> decide
theorem one_own (k : K) : fitsK [33, 111, 119, 110] k = true := by cases k <;> decide
theorem one_seq (k : K) : fitsK [115, 101, 113] k = false := by cases k <;> decide
theorem one_map (k : K) : fitsK [109, 97, 112] k = false := by cases k <;> decide

/-! Signs ahead. -/
/-- digits and points -/
def dp : List UInt8 := [48, 49, 50, 51, 52, 53, 54, 55, 56, 57, 46]
theorem dp_first (b : UInt8) (h : dp.contains b = true) : b ≠ 43 ∧ b ≠ 45 ∧ b ≠ 126 ∧ b ≠ 111 ∧ b ≠ 120 ∧ b ≠ 110 ∧ b ≠ 78 ∧ b ≠ 116 ∧ b ≠ 84 ∧ b ≠ 102 ∧ b ≠ 70 ∧ b ≠ 105 ∧ b ≠ 73 := by
  revert b; exact forall_u8 (by decide +kernel)
theorem bare_sign (b : UInt8) (t : List UInt8) (h : b = 43 ∨ b = 45) : bare (b :: t) = t := by show (if b = 43 ∨ b = 45 then t else b :: t) = t; rw [if_pos h]
theorem bare_not (b : UInt8) (t : List UInt8) (h1 : b ≠ 43) (h2 : b ≠ 45) : bare (b :: t) = b :: t := by show (if b = 43 ∨ b = 45 then t else b :: t) = b :: t; rw [if_neg (by simp [h1, h2])]
/-- a text that begins with a sign or a blank is no word -/
theorem not_word (b : UInt8) (t : List UInt8) (hb : b = 43 ∨ b = 45 ∨ b = 32) : nulls.contains (b :: t) = false ∧ bools.contains (b :: t) = false ∧ nans.contains (b :: t) = false ∧ infs.contains (b :: t) = false ∧ Lib.hasPrefix (b :: t) [48, 111] = false ∧ Lib.hasPrefix (b :: t) [48, 120] = false := by
  rcases hb with rfl | rfl | rfl <;> simp [nulls, bools, nans, infs, Lib.hasPrefix] <;> exact ⟨rfl, rfl⟩
theorem not_dec (b : UInt8) (t : List UInt8) (hb : b = 43 ∨ b = 45 ∨ b = 32) : isDecimal (b :: t) = false ∧ allDg 10 (b :: t) = false := by
  have h : dg 10 b = false := by rcases hb with rfl | rfl | rfl <;> decide
  have ha : ahead 10 (b :: t) = 0 := by unfold ahead; rw [List.takeWhile_cons_of_neg (by simp [h])]; rfl
  refine ⟨?_, ?_⟩
  · unfold isDecimal
    rw [ha, List.drop_zero]
    have h46 : ¬ (46 : UInt8) = b := by rcases hb with rfl | rfl | rfl <;> decide
    rw [if_neg (by simp [Lib.hasPrefix, h46])]
    simp
  · simp [allDg, h]
theorem sign_two (t : List UInt8) : resolve (43 :: 45 :: t) = .str := by
  obtain ⟨a, b, c, _, e, f⟩ := not_word 43 (45 :: t) (by simp)
  obtain ⟨_, _, _, d, _, _⟩ := not_word 45 t (by simp)
  obtain ⟨g, h⟩ := not_dec 45 t (by simp)
  unfold resolve isInt isFloat
  rw [a, b, c, e, f, bare_sign 43 _ (by simp), g, h, d]
  rfl
theorem blank_one (t : List UInt8) : resolve (32 :: t) = .str := by
  obtain ⟨a, b, c, d, e, f⟩ := not_word 32 t (by simp)
  obtain ⟨g, h⟩ := not_dec 32 t (by simp)
  unfold resolve isInt isFloat
  rw [a, b, c, e, f, bare_not 32 _ (by decide) (by decide), g, h, d]
  rfl
/-- of digits and points alone: no word, and a sign changes nothing -/
theorem sign_same (s : List UInt8) (b : UInt8) (hb : b = 43 ∨ b = 45) (hne : s ≠ []) (hs : ∀ x ∈ s, dp.contains x = true) : resolve (b :: s) = resolve s := by
  have hm : ∀ x, dp.contains x = false → x ∉ s := fun x hx hmem => by rw [hs x hmem] at hx; cases hx
  have n1 : nulls.contains s = false := by
    rw [Bool.eq_false_iff]; intro h
    simp [nulls] at h
    rcases h with h | h | h | h | h
    · exact hne h
    all_goals
      subst h
      revert hs; decide
  have n2 : bools.contains s = false := by
    rw [Bool.eq_false_iff]; intro h
    simp [bools] at h
    rcases h with h | h | h | h | h | h
    all_goals
      subst h
      revert hs; decide
  have n3 : nans.contains s = false := by
    rw [Bool.eq_false_iff]; intro h
    simp [nans] at h
    rcases h with h | h | h
    all_goals
      subst h
      revert hs; decide
  have n4 : Lib.hasPrefix s [48, 111] = false := by
    rw [Bool.eq_false_iff]; intro h
    obtain ⟨t, rfl⟩ := pre_two h
    exact hm 111 (by decide) (by simp)
  have n5 : Lib.hasPrefix s [48, 120] = false := by
    rw [Bool.eq_false_iff]; intro h
    obtain ⟨t, rfl⟩ := pre_two h
    exact hm 120 (by decide) (by simp)
  have n6 : bare s = s := by
    cases s with
    | nil => rfl
    | cons x t =>
      have := dp_first x (hs x (by simp))
      exact bare_not x t this.1 this.2.1
  obtain ⟨a, b', c, d, e, f⟩ := not_word b s (by rcases hb with h | h <;> simp [h])
  unfold resolve isInt isFloat
  rw [a, b', c, e, f, bare_sign b s hb, n1, n2, n3, n4, n5, n6]
  rfl
end Tg
end Go.Proofs.YtbimjdlkffbncaaDoor
namespace Go.Proofs.YtbimjdlkffbncaaDoor
namespace Tag
open Go.RowKit

theorem ret_bool {a b : Bool} (h : a = b) : Ending.returned (.bool a) = .returned (.bool b) := by rw [h]
theorem ret_int {k : IntKind} {a b : Int} (h : a = b) : Ending.returned (.int k a) = .returned (.int k b) := by rw [h]
theorem ret_str {a b : ByteArray} (h : a = b) : Ending.returned (.string a) = .returned (.string b) := by rw [h]
theorem ret_sb {a b : ByteArray} {x y : Bool} (h : a = b) (h' : x = y) : Ending.returned (.tuple #[.string a, .bool x]) = .returned (.tuple #[.string b, .bool y]) := by rw [h, h']
theorem u8_eq {a : UInt8} (n : Nat) (h : a.toNat = n) : a = UInt8.ofNat n := by
  rw [← h]; simp
/-- a string of bytes -/
def str (l : List UInt8) : ByteArray := ⟨l.toArray⟩
theorem str_data (l : List UInt8) : (str l).data.toList = l := rfl
theorem str_size (l : List UInt8) : (str l).size = l.length := by show l.toArray.size = _; simp
theorem str_eq (s : ByteArray) : str s.data.toList = s := by cases s; simp [str]
theorem str_toList (l : List UInt8) : (str l).toList = l := by rw [Lib.toList_data, str_data]
theorem str_inj {a b : ByteArray} (h : a.data.toList = b.data.toList) : a = b := by rw [← str_eq a, ← str_eq b, h]
theorem to_str {a : ByteArray} {l : List UInt8} (h : a.data.toList = l) : a = str l := str_inj h
theorem ba_isEmpty (s : ByteArray) (h : 0 < s.size) : s.toList.isEmpty = false := by
  rw [Lib.toList_data]
  cases hl : s.data.toList with
  | nil => have := Lib.size_eq s; rw [hl] at this; rw [List.length_nil] at this; omega
  | cons _ _ => rfl
theorem ba_notnil (s : ByteArray) (h : 0 < s.size) : ¬ s.toList = [] := by
  intro e; have := ba_isEmpty s h; rw [e] at this; simp at this
theorem drop_cons (s : ByteArray) (k : Nat) (h : k < s.size) : s.data.toList.drop k = s[k] :: s.data.toList.drop (k + 1) := by
  rw [List.drop_eq_getElem_cons (by simpa using h)]; rfl
theorem drop_nil (s : ByteArray) (k : Nat) (h : s.size ≤ k) : s.data.toList.drop k = [] := by
  rw [List.drop_eq_nil_iff]; simpa using h
theorem ba_list (s : ByteArray) (h : 0 < s.size) : s.data.toList = s[0] :: s.data.toList.drop 1 := drop_cons s 0 h
theorem ba_nil (s : ByteArray) (h : s.size = 0) : s = ⟨#[]⟩ := by
  cases s with
  | mk d => have hd : d.size = 0 := h
            rw [Array.size_eq_zero_iff] at hd; rw [hd]
theorem ext_drop (s : ByteArray) (k : Nat) : (s.extract k s.size).data.toList = s.data.toList.drop k := by
  rw [Lib.extract_data, List.take_of_length_le (by rw [List.length_drop, ← Lib.size_eq]; exact Nat.le_refl _)]
theorem ext_take (s : ByteArray) (n : Nat) : (s.extract 0 n).data.toList = s.data.toList.take n := by
  rw [Lib.extract_data]; simp

/-! The library's. -/
theorem pre_len (s p : ByteArray) (h : s.size < p.size) : Lib.hasPrefix s.data.toList p.data.toList = false := by
  rw [Bool.eq_false_iff]; intro hp
  unfold Lib.hasPrefix at hp
  rw [List.isPrefixOf_iff_prefix] at hp
  have := hp.length_le
  rw [← Lib.size_eq, ← Lib.size_eq] at this
  omega
theorem pre_take (s p : ByteArray) : Lib.hasPrefix s.data.toList p.data.toList = ((s.extract 0 p.size).toList == p.toList) := by
  rw [Lib.toList_data, Lib.toList_data, ext_take, Bool.eq_iff_iff]
  unfold Lib.hasPrefix
  rw [List.isPrefixOf_iff_prefix, List.prefix_iff_eq_take, Lib.size_eq, beq_iff_eq]
  exact ⟨fun h => h.symm, fun h => h.symm⟩
set_option maxHeartbeats 400000 in
theorem pre_any (s p : ByteArray) (w : World) :
    Calls Tryd.prog 153 #[.string s, .string p] w fun e w' => e = .returned (.bool (Lib.hasPrefix s.data.toList p.data.toList)) ∧ w = w' := by
  by_cases h : p.size ≤ s.size
  · have HP := Lib.hid (pre_take s p)
    have b0 : decide ((p.size : Int) ≤ (s.size : Int)) = true := decide_eq_true (by omega)
    go_enter Tryd.func153, Tryd.ntmps153
    go_wp2
    go_ret
    exact ⟨ret_bool HP.out.symm, rfl⟩
  · have b0 : decide ((p.size : Int) ≤ (s.size : Int)) = false := decide_eq_false (by omega)
    go_enter Tryd.func153, Tryd.ntmps153
    go_wp2
    go_ret
    exact ⟨ret_bool (pre_len s p (by omega)).symm, rfl⟩
theorem pre_le (s p : ByteArray) (h : Lib.hasPrefix s.data.toList p.data.toList = true) : p.size ≤ s.size := by
  rcases Nat.lt_or_ge s.size p.size with hlt | hge
  · rw [pre_len s p hlt] at h; cases h
  · exact hge
set_option maxHeartbeats 400000 in
theorem cut_yes (s p : ByteArray) (w : World) (h : Lib.hasPrefix s.data.toList p.data.toList = true) :
    Calls Tryd.prog 124 #[.string s, .string p] w fun e w' => e = .returned (.tuple #[.string (s.extract p.size s.size), .bool true]) ∧ w = w' := by
  have hl := pre_le s p h
  have c := pre_any s p w
  rw [h] at c
  clear h
  have c2 : Calls Tryd.prog 136 #[.string s, .string p] w fun e w' => e = .returned (.tuple #[.string (s.extract p.size s.size), .bool true]) ∧ w = w' := by
    go_enter Tryd.func136, Tryd.ntmps136
    go_wp2_with (go_at_call 153; refine c.mono ?_; rintro e w' ⟨rfl, rfl⟩)
    go_ret2
    exact ⟨rfl, rfl⟩
  clear c
  go_enter Tryd.func124, Tryd.ntmps124
  go_wp2_with (go_at_call 136; refine c2.mono ?_; rintro e w' ⟨rfl, rfl⟩)
  go_ret2
  exact ⟨rfl, rfl⟩
set_option maxHeartbeats 400000 in
theorem cut_no (s p : ByteArray) (w : World) (h : Lib.hasPrefix s.data.toList p.data.toList = false) :
    Calls Tryd.prog 124 #[.string s, .string p] w fun e w' => e = .returned (.tuple #[.string s, .bool false]) ∧ w = w' := by
  have c := pre_any s p w
  rw [h] at c
  clear h
  have c2 : Calls Tryd.prog 136 #[.string s, .string p] w fun e w' => e = .returned (.tuple #[.string s, .bool false]) ∧ w = w' := by
    go_enter Tryd.func136, Tryd.ntmps136
    go_wp2_with (go_at_call 153; refine c.mono ?_; rintro e w' ⟨rfl, rfl⟩)
    go_ret2
    exact ⟨rfl, rfl⟩
  clear c
  go_enter Tryd.func124, Tryd.ntmps124
  go_wp2_with (go_at_call 136; refine c2.mono ?_; rintro e w' ⟨rfl, rfl⟩)
  go_ret2
  exact ⟨rfl, rfl⟩
theorem trim_yes' (s p : ByteArray) (h : Lib.hasPrefix s.data.toList p.data.toList = true) : s.extract p.size s.size = str (Lib.trimPrefix s.data.toList p.data.toList) := by
  apply to_str; rw [ext_drop, Lib.size_eq p]; unfold Lib.trimPrefix; rw [if_pos h]
theorem trim_no' (s p : ByteArray) (h : Lib.hasPrefix s.data.toList p.data.toList = false) : s = str (Lib.trimPrefix s.data.toList p.data.toList) := by
  apply to_str; unfold Lib.trimPrefix; rw [if_neg (by simp [h])]
/-! The program's. -/
set_option maxHeartbeats 400000 in
theorem worth_any (b : UInt8) (w : World) :
    Calls Tryd.prog 154 #[.int .u8 b.toNat] w fun e w' => e = .returned (.int .i64 (Tg.worth b)) ∧ w = w' := by
  have hb := b.toNat_lt
  by_cases h1 : 97 ≤ b.toNat ∧ b.toNat ≤ 102
  · have e1 : Tg.worth b = b.toNat - 87 := by unfold Tg.worth; rw [if_pos h1]
    rw [e1]
    clear e1
    obtain ⟨g1, g2⟩ := h1
    go_enter Tryd.func154, Tryd.ntmps154
    go_wp2
    go_ret
    exact ⟨ret_int (by omega), rfl⟩
  · by_cases h2 : 65 ≤ b.toNat ∧ b.toNat ≤ 70
    · have e1 : Tg.worth b = b.toNat - 55 := by unfold Tg.worth; rw [if_neg h1, if_pos h2]
      rw [e1]
      clear e1
      obtain ⟨g1, g2⟩ := h2
      have b1 : decide ((97 : Int) ≤ (b.toNat : Int)) = false := decide_eq_false (by omega)
      go_enter Tryd.func154, Tryd.ntmps154
      go_wp2
      go_ret
      exact ⟨ret_int (by omega), rfl⟩
    · by_cases h3 : 48 ≤ b.toNat ∧ b.toNat ≤ 57
      · have e1 : Tg.worth b = b.toNat - 48 := by unfold Tg.worth; rw [if_neg h1, if_neg h2, if_pos h3]
        rw [e1]
        clear e1
        obtain ⟨g1, g2⟩ := h3
        have b1 : decide ((97 : Int) ≤ (b.toNat : Int)) = false := decide_eq_false (by omega)
        have b2 : decide ((65 : Int) ≤ (b.toNat : Int)) = false := decide_eq_false (by omega)
        go_enter Tryd.func154, Tryd.ntmps154
        go_wp2
        go_ret
        exact ⟨ret_int (by omega), rfl⟩
      · have e1 : Tg.worth b = 16 := by unfold Tg.worth; rw [if_neg h1, if_neg h2, if_neg h3]
        rw [e1]
        clear e1
        go_enter Tryd.func154, Tryd.ntmps154
        go_wp2
        all_goals first | (exfalso; omega) | skip
        all_goals go_ret
        all_goals exact ⟨rfl, rfl⟩
theorem ahead_at (n : Nat) (s : ByteArray) (k : Nat) (h : k < s.size) : Tg.ahead n (s.data.toList.drop k) = if Tg.worth s[k] < n then Tg.ahead n (s.data.toList.drop (k + 1)) + 1 else 0 := by
  rw [drop_cons s k h]
  unfold Tg.ahead
  by_cases c : Tg.worth s[k] < n
  · rw [if_pos c, List.takeWhile_cons_of_pos (by simpa [Tg.dg] using c)]; rfl
  · rw [if_neg c, List.takeWhile_cons_of_neg (by simpa [Tg.dg] using c)]; rfl
set_option maxHeartbeats 400000 in
theorem digitsAhead_any (s : ByteArray) (base : Int) (n : Nat) (hn : base = n) (w : World) (hs : s.size ≤ 9223372036854775807) :
    Calls Tryd.prog 137 #[.string s, .int .i64 base] w fun e w' => e = .returned (.int .i64 (Tg.ahead n s.data.toList : Nat)) ∧ w = w' := by
  subst hn
  obtain ⟨ANS, hANS⟩ : ∃ ANS, Tg.ahead n s.data.toList = ANS := ⟨_, rfl⟩
  rw [hANS]
  have HA : Hid (0 + Tg.ahead n (s.data.toList.drop 0) = ANS) := by show _ = _; rw [← hANS]; simp
  clear hANS
  go_enter Tryd.func137, Tryd.ntmps137
  go_wp2
  go_loop [8] (fun i => ∃ k : Nat, k ≤ s.size ∧ i = .int .i64 k ∧ Hid (k + Tg.ahead n (s.data.toList.drop k) = ANS)) (fun i => s.size - (intOf i).toNat)
  case atStart => exact ⟨0, by omega, rfl, HA⟩
  case round =>
    obtain ⟨k, hk, rfl, HK⟩ := hrel
    clear HA
    by_cases hlt : k < s.size
    · have HS : Hid (_ = _) := ahead_at n s k hlt
      by_cases c : Tg.worth s[k] < n
      · have HN : Hid ((k + 1) + Tg.ahead n (s.data.toList.drop (k + 1)) = ANS) := by
          have h := HK.out; rw [HS.out, if_pos c] at h; show _ = _; omega
        have b1 : decide ((n : Int) ≤ (Tg.worth s[k] : Int)) = false := decide_eq_false (by omega)
        clear HS HK
        go_wp2_with (go_at_call 154; refine (worth_any s[k] _).mono ?_; rintro e w' ⟨rfl, rfl⟩)
        go_round
        case rel => exact ⟨k + 1, by omega, by go_num, HN⟩
        case measure => simp [intOf]; omega
      · have HN : Hid (k = ANS) := by
          have h := HK.out; rw [HS.out, if_neg c] at h; exact h
        have b1 : decide ((n : Int) ≤ (Tg.worth s[k] : Int)) = true := decide_eq_true (by omega)
        clear HS HK
        go_wp2_with (go_at_call 154; refine (worth_any s[k] _).mono ?_; rintro e w' ⟨rfl, rfl⟩)
        go_ret
        exact ⟨ret_int (by rw [HN.out]), rfl⟩
    · have HN : Hid (s.size = ANS) := by
        have h := HK.out; rw [drop_nil s k (by omega)] at h; have : Tg.ahead n [] = 0 := rfl; show _ = _; omega
      clear HK
      go_wp2
      go_ret
      exact ⟨ret_int (by rw [HN.out]), rfl⟩
theorem ahead_all (n : Nat) (l : List UInt8) : (Tg.ahead n l = l.length) ↔ l.all (Tg.dg n) = true := by
  unfold Tg.ahead
  induction l with
  | nil => simp
  | cons x t ih =>
    by_cases h : Tg.dg n x = true
    · rw [List.takeWhile_cons_of_pos h]; simp [h]; simpa using ih
    · rw [List.takeWhile_cons_of_neg h]; simp [h]
set_option maxHeartbeats 400000 in
theorem allDigits_any (s : ByteArray) (base : Int) (n : Nat) (hn : base = n) (w : World) (hs : s.size ≤ 9223372036854775807) :
    Calls Tryd.prog 125 #[.string s, .int .i64 base] w fun e w' => e = .returned (.bool (Tg.allDg n s.data.toList)) ∧ w = w' := by
  subst hn
  by_cases h0 : s.size = 0
  · obtain rfl := ba_nil s h0
    clear h0
    go_enter Tryd.func125, Tryd.ntmps125
    go_wp2
    go_ret
    exact ⟨rfl, rfl⟩
  · have hp : 0 < s.size := by omega
    have hemp := ba_isEmpty s hp
    have hnil := ba_notnil s hp
    have c := digitsAhead_any s n n rfl w hs
    have hall := ahead_all n s.data.toList
    rw [← Lib.size_eq] at hall
    have hne : s.data.toList.isEmpty = false := by rw [← Lib.toList_data]; exact hemp
    have e0 : Tg.allDg n s.data.toList = s.data.toList.all (Tg.dg n) := by unfold Tg.allDg; rw [hne]; rfl
    have H : Hid ((Tg.ahead n s.data.toList == s.size) = Tg.allDg n s.data.toList) := by
      show _ = _
      rw [e0, Bool.eq_iff_iff, ← hall, beq_iff_eq]
    clear hall hne e0
    generalize Tg.ahead n s.data.toList = a at c H
    by_cases he : a = s.size
    · have b1 : ((a : Int) == (s.size : Int)) = true := beq_iff_eq.2 (by omega)
      have HF : Hid (true = Tg.allDg n s.data.toList) := by have h := H.out; rw [he] at h; show _ = _; rw [← h]; simp
      clear H he
      go_enter Tryd.func125, Tryd.ntmps125
      go_wp2_with (go_at_call 137; refine c.mono ?_; rintro e w' ⟨rfl, rfl⟩)
      go_ret
      exact ⟨ret_bool HF.out, rfl⟩
    · have b1 : ((a : Int) == (s.size : Int)) = false := beq_eq_false_iff_ne.2 (by omega)
      have HF : Hid (false = Tg.allDg n s.data.toList) := by have h := H.out; show _ = _; rw [← h]; exact (beq_eq_false_iff_ne.2 he).symm
      clear H he
      go_enter Tryd.func125, Tryd.ntmps125
      go_wp2_with (go_at_call 137; refine c.mono ?_; rintro e w' ⟨rfl, rfl⟩)
      go_ret
      exact ⟨ret_bool HF.out, rfl⟩
end Tag
end Go.Proofs.YtbimjdlkffbncaaDoor
