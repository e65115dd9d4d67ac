/-
  Plain mathematics, no program in it: tags and their words, what fits, signs ahead of numbers.
-/
import Derived.Test.YtbimjdlkffbncaaDoorGa
namespace Go.Proofs.YtbimjdlkffbncaaDoor
namespace Tg

def cores : List (List UInt8) := [[110, 117, 108, 108], [98, 111, 111, 108], [105, 110, 116], [102, 108, 111, 97, 116], [115, 116, 114], [115, 101, 113], [109, 97, 112]]
def core (l : List UInt8) : Bool := cores.contains l
def inName (b : UInt8) : Bool := (decide (65 ≤ b.toNat) && decide (b.toNat ≤ 90)) || (decide (97 ≤ b.toNat) && decide (b.toNat ≤ 122)) || (decide (48 ≤ b.toNat) && decide (b.toNat ≤ 57)) || decide (b.toNat = 45)
def isName (l : List UInt8) : Bool := !l.isEmpty && decide (l.length ≤ 40) && l.all inName
def isOwn (l : List UInt8) : Bool := Lib.hasPrefix l [33] && isName (l.drop 1)
def right (l : List UInt8) : Bool := core l || isOwn l
def word (l : List UInt8) : List UInt8 := if core l = true then [33, 33] ++ l else if right l = true then l else []
def read (w : List UInt8) : Option (List UInt8) :=
  if right (Lib.trimPrefix w [33, 33]) = true ∧ word (Lib.trimPrefix w [33, 33]) = w then some (Lib.trimPrefix w [33, 33]) else none
def fitsK (t : List UInt8) (k : K) : Bool :=
  if t = K.str.w then true else if t = K.nul.w ∨ t = K.boo.w ∨ t = K.int.w then k.w == t else if t = K.flt.w then (k == .flt || k == .int) else isOwn t
def fits (t s : List UInt8) : Bool := fitsK t (resolve s)

/-! The document's. -/
def names : List UInt8 := digs ++ [97, 98, 99, 100, 101, 102, 103, 104, 105, 106, 107, 108, 109, 110, 111, 112, 113, 114, 115, 116, 117, 118, 119, 120, 121, 122, 65, 66, 67, 68, 69, 70, 71, 72, 73, 74, 75, 76, 77, 78, 79, 80, 81, 82, 83, 84, 85, 86, 87, 88, 89, 90, 45]
def ownR (l : List UInt8) : Bool := Lib.hasPrefix l [33] && decide (l.length ≤ 41) && only (l.drop 1) names
def rightR (l : List UInt8) : Bool := core l || ownR l
def wordR (l : List UInt8) : List UInt8 := if core l = true then [33, 33] ++ l else if ownR l = true then l else []
def readR (w : List UInt8) : Option (List UInt8) :=
  if (if Lib.hasPrefix w [33, 33] = true then w.drop 2 else w) = [] ∨ wordR (if Lib.hasPrefix w [33, 33] = true then w.drop 2 else w) ≠ w then none else some (if Lib.hasPrefix w [33, 33] = true then w.drop 2 else w)
def fitsR (t s : List UInt8) : Bool :=
  if t = K.str.w ∨ ownR t = true then true else [K.nul.w, K.boo.w, K.int.w, K.flt.w].contains t && ((resolveR s).w == t || (t == K.flt.w && (resolveR s).w == K.int.w))

theorem pre_one {l : List UInt8} {b : UInt8} (h : Lib.hasPrefix l [b] = true) : ∃ t, l = b :: t := by
  unfold Lib.hasPrefix at h
  rw [List.isPrefixOf_iff_prefix] at h
  obtain ⟨t, ht⟩ := h
  exact ⟨t, ht.symm⟩
theorem pre_two {l : List UInt8} {b c : UInt8} (h : Lib.hasPrefix l [b, c] = true) : ∃ t, l = b :: c :: t := by
  unfold Lib.hasPrefix at h
  rw [List.isPrefixOf_iff_prefix] at h
  obtain ⟨t, ht⟩ := h
  exact ⟨t, ht.symm⟩
theorem names_in (b : UInt8) : names.contains b = inName b := by revert b; exact forall_u8 (by decide +kernel)
theorem own_eq (l : List UInt8) : isOwn l = ownR l := by
  unfold isOwn ownR
  cases h : Lib.hasPrefix l [33]
  · rfl
  · obtain ⟨t, rfl⟩ := pre_one h
    unfold isName only
    rw [show (fun x => names.contains x) = inName by funext b; exact names_in b]
    simp only [List.drop_one, List.tail_cons, List.length_cons, Bool.true_and]
    rw [show decide (t.length + 1 ≤ 41) = decide (t.length ≤ 40) by congr 1; rw [eq_iff_iff]; omega]
    cases t.isEmpty <;> cases decide (t.length ≤ 40) <;> cases t.all inName <;> rfl
theorem right_eq (l : List UInt8) : right l = rightR l := by unfold right rightR; rw [own_eq]
theorem word_eq (l : List UInt8) : word l = wordR l := by
  unfold word wordR right
  rw [own_eq]
  by_cases h : core l = true
  · rw [if_pos h, if_pos h]
  · rw [if_neg h, if_neg h]
    have h' : core l = false := by simpa using h
    rw [h', Bool.false_or]
theorem right_ne {l : List UInt8} (h : right l = true) : l ≠ [] := by
  rintro rfl
  revert h; decide
theorem word_none {l : List UInt8} (h : right l = false) : word l = [] := by
  unfold word
  have h' : core l = false := by unfold right at h; cases hc : core l <;> simp_all
  rw [h', h]; rfl
theorem trim_eq (w : List UInt8) : (if Lib.hasPrefix w [33, 33] = true then w.drop 2 else w) = Lib.trimPrefix w [33, 33] := rfl
theorem read_eq (w : List UInt8) : read w = readR w := by
  unfold read readR
  rw [trim_eq, ← word_eq]
  cases hr : right (Lib.trimPrefix w [33, 33])
  · rw [if_neg (by simp), word_none hr]
    by_cases h0 : Lib.trimPrefix w [33, 33] = []
    · rw [if_pos (Or.inl h0)]
    · rw [if_pos (Or.inr ?_)]
      rintro rfl
      exact h0 rfl
  · have h0 := right_ne hr
    by_cases h1 : word (Lib.trimPrefix w [33, 33]) = w
    · rw [if_pos ⟨rfl, h1⟩, if_neg (by simp [h0, h1])]
    · rw [if_neg (by simp [h1]), if_pos (Or.inr h1)]
theorem fits_eq (t s : List UInt8) : fits t s = fitsR t s := by
  unfold fits fitsK fitsR
  rw [← resolve_eq, ← own_eq]
  generalize resolve s = k
  by_cases h1 : t = K.str.w
  · rw [if_pos h1, if_pos (Or.inl h1)]
  · rw [if_neg h1]
    by_cases h2 : t = K.nul.w ∨ t = K.boo.w ∨ t = K.int.w
    · rw [if_pos h2]
      rcases h2 with rfl | rfl | rfl <;> cases k <;> rfl
    · rw [if_neg h2]
      by_cases h3 : t = K.flt.w
      · rw [if_pos h3]; subst h3; cases k <;> rfl
      · rw [if_neg h3]
        cases ho : isOwn t
        · rw [if_neg (by simp [h1])]
          have : [K.nul.w, K.boo.w, K.int.w, K.flt.w].contains t = false := by
            rw [Bool.eq_false_iff]
            intro hc
            simp at hc h2
            rcases hc with h | h | h | h
            · exact h2.1 h
            · exact h2.2.1 h
            · exact h2.2.2 h
            · exact h3 h
          rw [this]; rfl
        · rw [if_pos (Or.inr rfl)]

/-! Tags come back. -/
theorem own_two {t : List UInt8} (h : isOwn t = true) : Lib.hasPrefix t [33, 33] = false := by
  rw [Bool.eq_false_iff]
  intro h2
  obtain ⟨u, rfl⟩ := pre_two h2
  unfold isOwn isName at h
  simp only [List.drop_one, List.tail_cons, List.all_cons, Bool.and_eq_true] at h
  have : inName 33 = false := by decide
  rw [this] at h
  exact absurd h.2.2.1 (by simp)
theorem read_word {t : List UInt8} (h : right t = true) : read (word t) = some t := by
  have ht : Lib.trimPrefix (word t) [33, 33] = t := by
    unfold word
    by_cases hc : core t = true
    · rw [if_pos hc]; unfold Lib.trimPrefix Lib.hasPrefix; simp
    · rw [if_neg hc, if_pos h]
      unfold right at h
      have hc' : core t = false := by simpa using hc
      rw [hc', Bool.false_or] at h
      unfold Lib.trimPrefix
      rw [own_two h]; simp
  unfold read
  rw [ht, if_pos ⟨h, rfl⟩]
theorem word_inj {t u : List UInt8} (ht : right t = true) (hu : right u = true) : word u = word t ↔ t = u := by
  constructor
  · intro h
    have a := read_word ht
    have b := read_word hu
    rw [h, a] at b
    exact Option.some.inj b
  · rintro rfl; rfl
theorem read_some {w x : List UInt8} (h : read w = some x) : word x = w ∧ right x = true := by
  unfold read at h
  split at h
  · rename_i hc
    cases h
    exact ⟨hc.2, hc.1⟩
  · cases h

/-! One tag. -/
theorem one_core (k : K) : core k.w = true := by cases k <;> decide
theorem one_fits (k : K) : fitsK k.w k = true := by cases k <;> decide
theorem one_str (k : K) : fitsK K.str.w k = true := by cases k <;> decide
theorem one_own (k : K) : fitsK [33, 111, 119, 110] k = true := by cases k <;> decide
theorem one_seq (k : K) : fitsK [115, 101, 113] k = false := by cases k <;> decide
theorem one_map (k : K) : fitsK [109, 97, 112] k = false := by cases k <;> decide

/-! Signs ahead. -/
/-- digits and points -/
def dp : List UInt8 := [48, 49, 50, 51, 52, 53, 54, 55, 56, 57, 46]
theorem dp_first (b : UInt8) (h : dp.contains b = true) : b ≠ 43 ∧ b ≠ 45 ∧ b ≠ 126 ∧ b ≠ 111 ∧ b ≠ 120 ∧ b ≠ 110 ∧ b ≠ 78 ∧ b ≠ 116 ∧ b ≠ 84 ∧ b ≠ 102 ∧ b ≠ 70 ∧ b ≠ 105 ∧ b ≠ 73 := by
  revert b; exact forall_u8 (by decide +kernel)
theorem bare_sign (b : UInt8) (t : List UInt8) (h : b = 43 ∨ b = 45) : bare (b :: t) = t := by show (if b = 43 ∨ b = 45 then t else b :: t) = t; rw [if_pos h]
theorem bare_not (b : UInt8) (t : List UInt8) (h1 : b ≠ 43) (h2 : b ≠ 45) : bare (b :: t) = b :: t := by show (if b = 43 ∨ b = 45 then t else b :: t) = b :: t; rw [if_neg (by simp [h1, h2])]
/-- a text that begins with a sign or a blank is no word -/
theorem not_word (b : UInt8) (t : List UInt8) (hb : b = 43 ∨ b = 45 ∨ b = 32) : nulls.contains (b :: t) = false ∧ bools.contains (b :: t) = false ∧ nans.contains (b :: t) = false ∧ infs.contains (b :: t) = false ∧ Lib.hasPrefix (b :: t) [48, 111] = false ∧ Lib.hasPrefix (b :: t) [48, 120] = false := by
  rcases hb with rfl | rfl | rfl <;> simp [nulls, bools, nans, infs, Lib.hasPrefix] <;> exact ⟨rfl, rfl⟩
theorem not_dec (b : UInt8) (t : List UInt8) (hb : b = 43 ∨ b = 45 ∨ b = 32) : isDecimal (b :: t) = false ∧ allDg 10 (b :: t) = false := by
  have h : dg 10 b = false := by rcases hb with rfl | rfl | rfl <;> decide
  have ha : ahead 10 (b :: t) = 0 := by unfold ahead; rw [List.takeWhile_cons_of_neg (by simp [h])]; rfl
  refine ⟨?_, ?_⟩
  · unfold isDecimal
    rw [ha, List.drop_zero]
    have h46 : ¬ (46 : UInt8) = b := by rcases hb with rfl | rfl | rfl <;> decide
    rw [if_neg (by simp [Lib.hasPrefix, h46])]
    simp
  · simp [allDg, h]
theorem sign_two (t : List UInt8) : resolve (43 :: 45 :: t) = .str := by
  obtain ⟨a, b, c, _, e, f⟩ := not_word 43 (45 :: t) (by simp)
  obtain ⟨_, _, _, d, _, _⟩ := not_word 45 t (by simp)
  obtain ⟨g, h⟩ := not_dec 45 t (by simp)
  unfold resolve isInt isFloat
  rw [a, b, c, e, f, bare_sign 43 _ (by simp), g, h, d]
  rfl
theorem blank_one (t : List UInt8) : resolve (32 :: t) = .str := by
  obtain ⟨a, b, c, d, e, f⟩ := not_word 32 t (by simp)
  obtain ⟨g, h⟩ := not_dec 32 t (by simp)
  unfold resolve isInt isFloat
  rw [a, b, c, e, f, bare_not 32 _ (by decide) (by decide), g, h, d]
  rfl
/-- of digits and points alone: no word, and a sign changes nothing -/
theorem sign_same (s : List UInt8) (b : UInt8) (hb : b = 43 ∨ b = 45) (hne : s ≠ []) (hs : ∀ x ∈ s, dp.contains x = true) : resolve (b :: s) = resolve s := by
  have hm : ∀ x, dp.contains x = false → x ∉ s := fun x hx hmem => by rw [hs x hmem] at hx; cases hx
  have n1 : nulls.contains s = false := by
    rw [Bool.eq_false_iff]; intro h
    simp [nulls] at h
    rcases h with h | h | h | h | h
    · exact hne h
    all_goals
      subst h
      revert hs; decide
  have n2 : bools.contains s = false := by
    rw [Bool.eq_false_iff]; intro h
    simp [bools] at h
    rcases h with h | h | h | h | h | h
    all_goals
      subst h
      revert hs; decide
  have n3 : nans.contains s = false := by
    rw [Bool.eq_false_iff]; intro h
    simp [nans] at h
    rcases h with h | h | h
    all_goals
      subst h
      revert hs; decide
  have n4 : Lib.hasPrefix s [48, 111] = false := by
    rw [Bool.eq_false_iff]; intro h
    obtain ⟨t, rfl⟩ := pre_two h
    exact hm 111 (by decide) (by simp)
  have n5 : Lib.hasPrefix s [48, 120] = false := by
    rw [Bool.eq_false_iff]; intro h
    obtain ⟨t, rfl⟩ := pre_two h
    exact hm 120 (by decide) (by simp)
  have n6 : bare s = s := by
    cases s with
    | nil => rfl
    | cons x t =>
      have := dp_first x (hs x (by simp))
      exact bare_not x t this.1 this.2.1
  obtain ⟨a, b', c, d, e, f⟩ := not_word b s (by rcases hb with h | h <;> simp [h])
  unfold resolve isInt isFloat
  rw [a, b', c, e, f, bare_sign b s hb, n1, n2, n3, n4, n5, n6]
  rfl
end Tg
end Go.Proofs.YtbimjdlkffbncaaDoor
