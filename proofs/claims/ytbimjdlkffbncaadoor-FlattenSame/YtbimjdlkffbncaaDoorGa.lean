/-
  Plain mathematics, no program in it: digits, signs, whole numbers, decimals; the tag of a text as the program tells it, and as the document does.
-/
import Derived.Lib.Strings
namespace Go.Proofs.YtbimjdlkffbncaaDoor
namespace Tg

/-- what a byte is worth as a digit; 16: it is none -/
def worth (b : UInt8) : Nat :=
  if 97 ≤ b.toNat ∧ b.toNat ≤ 102 then b.toNat - 87 else if 65 ≤ b.toNat ∧ b.toNat ≤ 70 then b.toNat - 55 else if 48 ≤ b.toNat ∧ b.toNat ≤ 57 then b.toNat - 48 else 16
def dg (base : Nat) (b : UInt8) : Bool := decide (worth b < base)
def ahead (base : Nat) (l : List UInt8) : Nat := (l.takeWhile (dg base)).length
def allDg (base : Nat) (l : List UInt8) : Bool := !l.isEmpty && l.all (dg base)
/-- a text without one sign ahead -/
def bare : List UInt8 → List UInt8
  | [] => []
  | b :: t => if b = 43 ∨ b = 45 then t else b :: t
def isInt (l : List UInt8) : Bool :=
  if Lib.hasPrefix l [48, 111] = true then allDg 8 (l.drop 2) else if Lib.hasPrefix l [48, 120] = true then allDg 16 (l.drop 2) else allDg 10 (bare l)
def isPower : List UInt8 → Bool
  | [] => false
  | b :: t => (b == 101 || b == 69) && allDg 10 (bare t)
/-- behind digits: nothing, or a power -/
def tailOk (l : List UInt8) : Bool := l.isEmpty || isPower l
def isDecimal (l : List UInt8) : Bool :=
  if Lib.hasPrefix (l.drop (ahead 10 l)) [46] = true then
    decide (0 < ahead 10 l + ahead 10 (l.drop (ahead 10 l + 1))) && tailOk ((l.drop (ahead 10 l + 1)).drop (ahead 10 (l.drop (ahead 10 l + 1))))
  else decide (0 < ahead 10 l) && tailOk (l.drop (ahead 10 l))
def nans : List (List UInt8) := [[46, 110, 97, 110], [46, 78, 97, 78], [46, 78, 65, 78]]
def infs : List (List UInt8) := [[46, 105, 110, 102], [46, 73, 110, 102], [46, 73, 78, 70]]
def nulls : List (List UInt8) := [[], [126], [110, 117, 108, 108], [78, 117, 108, 108], [78, 85, 76, 76]]
def bools : List (List UInt8) := [[116, 114, 117, 101], [84, 114, 117, 101], [84, 82, 85, 69], [102, 97, 108, 115, 101], [70, 97, 108, 115, 101], [70, 65, 76, 83, 69]]
def isFloat (l : List UInt8) : Bool := nans.contains l || infs.contains (bare l) || isDecimal (bare l)
/-- the kinds of texts -/
inductive K where
  | nul | boo | int | flt | str
deriving DecidableEq
def K.w : K → List UInt8
  | .nul => [110, 117, 108, 108]
  | .boo => [98, 111, 111, 108]
  | .int => [105, 110, 116]
  | .flt => [102, 108, 111, 97, 116]
  | .str => [115, 116, 114]
def resolve (l : List UInt8) : K :=
  if nulls.contains l = true then .nul else if bools.contains l = true then .boo else if isInt l = true then .int else if isFloat l = true then .flt else .str

/-! The document's. -/
def digs : List UInt8 := [48, 49, 50, 51, 52, 53, 54, 55, 56, 57]
def octs : List UInt8 := [48, 49, 50, 51, 52, 53, 54, 55]
def hexs : List UInt8 := [48, 49, 50, 51, 52, 53, 54, 55, 56, 57, 97, 98, 99, 100, 101, 102, 65, 66, 67, 68, 69, 70]
def only (l of : List UInt8) : Bool := l.all (of.contains ·) && !l.isEmpty
def wholeR (l : List UInt8) : Bool :=
  if only (bare l) digs = true then true else if Lib.hasPrefix l [48, 111] = true then only (l.drop 2) octs else Lib.hasPrefix l [48, 120] && only (l.drop 2) hexs
/-- the place of the first one of two bytes; the length, if there is none -/
def find (a b : UInt8) (l : List UInt8) : Nat := (l.takeWhile fun x => !(x == a || x == b)).length
def fractionR (l : List UInt8) : Bool :=
  if find 46 46 l = l.length then only l digs
  else if find 46 46 l = 0 then only (l.drop (find 46 46 l + 1)) digs
  else only (l.take (find 46 46 l)) digs && ((l.drop (find 46 46 l + 1)).isEmpty || only (l.drop (find 46 46 l + 1)) digs)
def decR (s : List UInt8) : Bool :=
  if find 101 69 s < s.length ∧ only (bare (s.drop (find 101 69 s + 1))) digs = false then false else fractionR (s.take (find 101 69 s))
def floatR (l : List UInt8) : Bool := infs.contains (bare l) || nans.contains l || decR (bare l)
def resolveR (l : List UInt8) : K :=
  if nulls.contains l = true then .nul else if bools.contains l = true then .boo else if wholeR l = true then .int else if floatR l = true then .flt else .str

theorem forall_u8 {p : UInt8 → Prop} (h : ∀ n : Fin 256, p (UInt8.ofNat n.val)) (b : UInt8) : p b := by
  have := h ⟨b.toNat, b.toNat_lt⟩
  simpa using this
theorem digs_dg (b : UInt8) : digs.contains b = dg 10 b := by revert b; exact forall_u8 (by decide +kernel)
theorem octs_dg (b : UInt8) : octs.contains b = dg 8 b := by revert b; exact forall_u8 (by decide +kernel)
theorem hexs_dg (b : UInt8) : hexs.contains b = dg 16 b := by revert b; exact forall_u8 (by decide +kernel)
theorem only_digs (l : List UInt8) : only l digs = allDg 10 l := by
  unfold only allDg; rw [Bool.and_comm]; congr 2; funext b; exact digs_dg b
theorem only_octs (l : List UInt8) : only l octs = allDg 8 l := by
  unfold only allDg; rw [Bool.and_comm]; congr 2; funext b; exact octs_dg b
theorem only_hexs (l : List UInt8) : only l hexs = allDg 16 l := by
  unfold only allDg; rw [Bool.and_comm]; congr 2; funext b; exact hexs_dg b

theorem whole_eq (l : List UInt8) : isInt l = wholeR l := by
  unfold isInt wholeR
  rw [only_digs, only_octs, only_hexs]
  by_cases h1 : Lib.hasPrefix l [48, 111] = true
  · rw [if_pos h1]
    have : allDg 10 (bare l) = false := by
      obtain ⟨t, rfl⟩ : ∃ t, l = 48 :: 111 :: t := by
        unfold Lib.hasPrefix at h1
        rw [List.isPrefixOf_iff_prefix] at h1
        obtain ⟨t, ht⟩ := h1
        exact ⟨t, ht.symm⟩
      simp [bare, allDg, dg, worth]
    rw [this]; simp [h1]
  · rw [if_neg h1]
    by_cases h2 : Lib.hasPrefix l [48, 120] = true
    · rw [if_pos h2]
      have : allDg 10 (bare l) = false := by
        obtain ⟨t, rfl⟩ : ∃ t, l = 48 :: 120 :: t := by
          unfold Lib.hasPrefix at h2
          rw [List.isPrefixOf_iff_prefix] at h2
          obtain ⟨t, ht⟩ := h2
          exact ⟨t, ht.symm⟩
        simp [bare, allDg, dg, worth]
      rw [this]; simp [h1, h2]
    · rw [if_neg h2]
      have h2' : Lib.hasPrefix l [48, 120] = false := by simpa using h2
      cases h : allDg 10 (bare l) <;> simp [h1, h2']

theorem tailOk_cons (d : UInt8) (u : List UInt8) : tailOk (d :: u) = ((d == 101 || d == 69) && allDg 10 (bare u)) := rfl
theorem dropWhile_head (l : List UInt8) : ∀ c t, l.dropWhile (dg 10) = c :: t → dg 10 c = false := by
  induction l with
  | nil => intro c t h; cases h
  | cons x u ih =>
    intro c t h
    rw [List.dropWhile_cons] at h
    split at h
    · exact ih c t h
    · rename_i hx
      cases h
      simpa using hx
/-- digits, then something that does not begin with one -/
theorem split_dg (l : List UInt8) : ∃ a r, l = a ++ r ∧ a.all (dg 10) = true ∧ (∀ c t, r = c :: t → dg 10 c = false) ∧ ahead 10 l = a.length ∧ l.drop (ahead 10 l) = r := by
  refine ⟨l.takeWhile (dg 10), l.dropWhile (dg 10), List.takeWhile_append_dropWhile.symm, List.all_takeWhile, ?_, rfl, ?_⟩
  · exact dropWhile_head l
  · have := List.takeWhile_append_dropWhile (p := dg 10) (l := l)
    have h2 : l.drop (ahead 10 l) = (l.takeWhile (dg 10) ++ l.dropWhile (dg 10)).drop (l.takeWhile (dg 10)).length := by rw [this]; rfl
    rw [h2, List.drop_left]
theorem find_skip (a b : UInt8) (u t : List UInt8) (h : ∀ x ∈ u, x ≠ a ∧ x ≠ b) : find a b (u ++ t) = u.length + find a b t := by
  unfold find
  rw [List.takeWhile_append_of_pos]
  · simp
  · intro x hx; have := h x hx; simp [this]
theorem find_here (a b c : UInt8) (t : List UInt8) (h : c = a ∨ c = b) : find a b (c :: t) = 0 := by
  unfold find; rw [List.takeWhile_cons_of_neg]; · rfl
  · rcases h with h | h <;> simp [h]
theorem find_nil (a b : UInt8) : find a b [] = 0 := rfl
theorem find_le (a b : UInt8) (l : List UInt8) : find a b l ≤ l.length := by
  unfold find; exact (List.takeWhile_sublist _).length_le
theorem dg_not (c : UInt8) : dg 10 c = true → c ≠ 46 ∧ c ≠ 101 ∧ c ≠ 69 ∧ c ≠ 43 ∧ c ≠ 45 := by
  revert c; exact forall_u8 (by decide +kernel)
theorem mem_dg {a : List UInt8} (h : a.all (dg 10) = true) : ∀ x ∈ a, dg 10 x = true := by simpa using h
theorem skip_dg {a : List UInt8} (h : a.all (dg 10) = true) (t : List UInt8) : find 101 69 (a ++ t) = a.length + find 101 69 t :=
  find_skip _ _ _ _ fun x hx => ⟨(dg_not x (mem_dg h x hx)).2.1, (dg_not x (mem_dg h x hx)).2.2.1⟩
theorem skip_dot {a : List UInt8} (h : a.all (dg 10) = true) (t : List UInt8) : find 46 46 (a ++ t) = a.length + find 46 46 t :=
  find_skip _ _ _ _ fun x hx => ⟨(dg_not x (mem_dg h x hx)).1, (dg_not x (mem_dg h x hx)).1⟩
theorem allDg_of {a : List UInt8} (h : a.all (dg 10) = true) : allDg 10 a = decide (0 < a.length) := by
  unfold allDg; rw [h]; cases a <;> simp
theorem allDg_bad {a : List UInt8} (c : UInt8) (t : List UInt8) (h : dg 10 c = false) : allDg 10 (a ++ c :: t) = false := by
  unfold allDg; simp [h]

/-- digits alone -/
theorem frac_digits {a : List UInt8} (h : a.all (dg 10) = true) : fractionR a = decide (0 < a.length) := by
  have : find 46 46 a = a.length := by have := skip_dot h []; rw [List.append_nil] at this; simpa [find_nil] using this
  unfold fractionR
  rw [if_pos this, only_digs, allDg_of h]
/-- digits, a point, digits -/
theorem frac_point {a b : List UInt8} (ha : a.all (dg 10) = true) (hb : b.all (dg 10) = true) : fractionR (a ++ 46 :: b) = decide (0 < a.length + b.length) := by
  have e : find 46 46 (a ++ 46 :: b) = a.length := by rw [skip_dot ha, find_here _ _ _ _ (Or.inl rfl)]; rfl
  unfold fractionR
  rw [e, if_neg (by simp)]
  have e2 : (a ++ 46 :: b).drop (a.length + 1) = b := by simp
  have e3 : (a ++ 46 :: b).take a.length = a := by simp
  rw [e2, e3, only_digs, only_digs, allDg_of ha, allDg_of hb]
  by_cases h0 : a.length = 0
  · rw [if_pos h0]; simp [h0]
  · rw [if_neg h0]
    cases b <;> simp <;> omega
/-- digits, a point, digits, and something else -/
theorem frac_point_bad {a b : List UInt8} (ha : a.all (dg 10) = true) (d : UInt8) (t : List UInt8) (hd : dg 10 d = false) : fractionR (a ++ 46 :: (b ++ d :: t)) = false := by
  have e : find 46 46 (a ++ 46 :: (b ++ d :: t)) = a.length := by rw [skip_dot ha, find_here _ _ _ _ (Or.inl rfl)]; rfl
  unfold fractionR
  rw [e, if_neg (by simp)]
  have e2 : (a ++ 46 :: (b ++ d :: t)).drop (a.length + 1) = b ++ d :: t := by simp
  rw [e2, only_digs, only_digs, allDg_bad d t hd]
  simp
/-- digits, and something else that is no point -/
theorem frac_bad {a : List UInt8} (ha : a.all (dg 10) = true) (d : UInt8) (t : List UInt8) (hd : dg 10 d = false) (h46 : d ≠ 46) : fractionR (a ++ d :: t) = false := by
  have e : find 46 46 (a ++ d :: t) = (a ++ [d]).length + find 46 46 t := by
    rw [show a ++ d :: t = (a ++ [d]) ++ t by simp]
    exact find_skip _ _ _ _ fun x hx => by
      rw [List.mem_append] at hx
      rcases hx with hx | hx
      · exact ⟨(dg_not x (mem_dg ha x hx)).1, (dg_not x (mem_dg ha x hx)).1⟩
      · rw [List.mem_singleton] at hx; subst hx; exact ⟨h46, h46⟩
  unfold fractionR
  by_cases h : find 46 46 (a ++ d :: t) = (a ++ d :: t).length
  · rw [if_pos h, only_digs, allDg_bad d t hd]
  · rw [if_neg h, if_neg (by rw [e]; simp)]
    have e3 : (a ++ d :: t).take (find 46 46 (a ++ d :: t)) = a ++ d :: t.take (find 46 46 t) := by
      rw [e, show a ++ d :: t = (a ++ [d]) ++ t by simp, List.take_append, List.take_of_length_le (by omega)]
      simp
    rw [e3, only_digs, allDg_bad d _ hd]; rfl

theorem dec_eq (l : List UInt8) : isDecimal l = decR l := by
  obtain ⟨a, r, hl, ha, hr, h1, h2⟩ := split_dg l
  unfold isDecimal
  rw [h2]
  cases r with
  | nil =>
    rw [if_neg (by simp [Lib.hasPrefix]), h1]
    have hl' : l = a := by simpa using hl
    subst hl'
    have e : find 101 69 l = l.length := by have := skip_dg ha []; rw [List.append_nil] at this; simpa [find_nil] using this
    unfold decR
    rw [if_neg (by rw [e]; omega), e, List.take_length, frac_digits ha]
    simp [tailOk]
  | cons c t =>
    have hc := hr c t rfl
    have hd1 : l.drop (ahead 10 l + 1) = t := by rw [← List.drop_drop, h2]; rfl
    by_cases h46 : c = 46
    · subst h46
      rw [if_pos (by simp [Lib.hasPrefix]), hd1, h1]
      obtain ⟨b, q, hq, hb, hq0, g1, g2⟩ := split_dg t
      rw [g2, g1]
      cases q with
      | nil =>
        have hq' : t = b := by simpa using hq
        subst hq'
        subst hl
        have e : find 101 69 (a ++ 46 :: t) = (a ++ 46 :: t).length := by
          rw [skip_dg ha, show (46 : UInt8) :: t = [46] ++ t by rfl, find_skip _ _ [46] t (by decide)]
          have := skip_dg hb []; rw [List.append_nil] at this; rw [this, find_nil]; simp; omega
        unfold decR
        rw [if_neg (by rw [e]; omega), e, List.take_length, frac_point ha hb]
        simp [tailOk]
      | cons d u =>
        have hd := hq0 d u rfl
        subst hq
        subst hl
        by_cases he : d = 101 ∨ d = 69
        · have e : find 101 69 (a ++ 46 :: (b ++ d :: u)) = (a ++ 46 :: b).length := by
            rw [skip_dg ha, show (46 : UInt8) :: (b ++ d :: u) = [46] ++ (b ++ d :: u) by rfl, find_skip _ _ [46] _ (by decide), skip_dg hb, find_here _ _ _ _ he]; simp; omega
          have e2 : (a ++ 46 :: (b ++ d :: u)) = (a ++ 46 :: b) ++ d :: u := by simp
          unfold decR
          rw [e, e2, only_digs]
          rw [show ((a ++ 46 :: b) ++ d :: u).drop ((a ++ 46 :: b).length + 1) = u by rw [← List.drop_drop, List.drop_left]; rfl, show ((a ++ 46 :: b) ++ d :: u).take ((a ++ 46 :: b).length) = a ++ 46 :: b by rw [List.take_append_of_le_length (Nat.le_refl _), List.take_length], frac_point ha hb]
          have hde : (d == 101 || d == 69) = true := by rcases he with h | h <;> simp [h]
          rw [tailOk_cons, hde]
          cases hp : allDg 10 (bare u)
          · rw [if_pos ⟨by simp, rfl⟩]; simp
          · rw [if_neg (by simp)]; simp
        · have hde : (d == 101 || d == 69) = false := by simp at he ⊢; exact he
          have e : find 101 69 (a ++ 46 :: (b ++ d :: u)) = (a ++ 46 :: (b ++ [d])).length + find 101 69 u := by
            rw [skip_dg ha, show (46 : UInt8) :: (b ++ d :: u) = [46] ++ (b ++ d :: u) by rfl, find_skip _ _ [46] _ (by decide), skip_dg hb, show d :: u = [d] ++ u by rfl, find_skip _ _ [d] u (by intro x hx; simp at hx; subst hx; simp at he; exact he)]; simp; omega
          have e3 : (a ++ 46 :: (b ++ d :: u)).take (find 101 69 (a ++ 46 :: (b ++ d :: u))) = a ++ 46 :: (b ++ d :: u.take (find 101 69 u)) := by
            rw [e, show a ++ 46 :: (b ++ d :: u) = (a ++ 46 :: (b ++ [d])) ++ u by simp, List.take_append, List.take_of_length_le (by omega)]
            simp
          have hz : decR (a ++ 46 :: (b ++ d :: u)) = false := by
            unfold decR
            rw [e3, frac_point_bad ha d _ hd]
            split <;> rfl
          rw [hz]
          rw [tailOk_cons, hde]; simp
    · have h46' : ¬ (46 : UInt8) = c := fun h => h46 h.symm
      rw [if_neg (by simp [Lib.hasPrefix, h46']), h1]
      subst hl
      by_cases he : c = 101 ∨ c = 69
      · have e : find 101 69 (a ++ c :: t) = a.length := by rw [skip_dg ha, find_here _ _ _ _ he]; rfl
        unfold decR
        rw [e, only_digs]
        rw [show (a ++ c :: t).drop (a.length + 1) = t by simp, show (a ++ c :: t).take a.length = a by simp, frac_digits ha]
        have hde : (c == 101 || c == 69) = true := by rcases he with h | h <;> simp [h]
        rw [tailOk_cons, hde]
        cases hp : allDg 10 (bare t)
        · rw [if_pos ⟨by simp, rfl⟩]; simp
        · rw [if_neg (by simp)]; simp
      · have hde : (c == 101 || c == 69) = false := by simp at he ⊢; exact he
        have e : find 101 69 (a ++ c :: t) = (a ++ [c]).length + find 101 69 t := by
          rw [skip_dg ha, show c :: t = [c] ++ t by rfl, find_skip _ _ [c] t (by intro x hx; simp at hx; subst hx; simp at he; exact he)]; simp; omega
        have e3 : (a ++ c :: t).take (find 101 69 (a ++ c :: t)) = a ++ c :: t.take (find 101 69 t) := by
          rw [e, show a ++ c :: t = (a ++ [c]) ++ t by simp, List.take_append, List.take_of_length_le (by omega)]
          simp
        have hz : decR (a ++ c :: t) = false := by
          unfold decR
          rw [e3, frac_bad ha c _ hc h46]
          split <;> rfl
        rw [hz]
        rw [tailOk_cons, hde]; simp
theorem float_eq (l : List UInt8) : isFloat l = floatR l := by
  unfold isFloat floatR; rw [dec_eq, Bool.or_comm (nans.contains l)]
theorem resolve_eq (l : List UInt8) : resolve l = resolveR l := by
  unfold resolve resolveR; rw [whole_eq, float_eq]
end Tg
end Go.Proofs.YtbimjdlkffbncaaDoor
