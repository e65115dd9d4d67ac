/-
  Plain mathematics: what may stand without quotes, and what comes of it with more behind it, or ahead of it.
-/
import Derived.Test.YtlfmaeodkghbbaaDoorWk
namespace Go.Proofs.YtlfmaeodkghbbaaDoor
open Go.Lib

/-- two bytes, one behind the other -/
def hasPair (a b : UInt8) : List UInt8 → Bool
  | [] => false
  | [_] => false
  | x :: y :: t => (x == a && y == b) || hasPair a b (y :: t)
theorem contains_pair (a b : UInt8) : ∀ l : List UInt8, Lib.contains l [a, b] = hasPair a b l
  | [] => rfl
  | [x] => by simp [Lib.contains, Lib.index, hasPair, List.isPrefixOf]
  | x :: y :: t => by
    have ih := contains_pair a b (y :: t)
    unfold Lib.contains at ih ⊢
    have hp : List.isPrefixOf [a, b] (x :: y :: t) = (x == a && y == b) := by
      simp only [List.isPrefixOf, Bool.and_true]
      rw [Bool.eq_iff_iff]
      simp
      constructor
      · rintro ⟨rfl, rfl⟩; exact ⟨rfl, rfl⟩
      · rintro ⟨rfl, rfl⟩; exact ⟨rfl, rfl⟩
    have hge := Lib.index_ge (y :: t) [a, b]
    have st : Lib.index (x :: y :: t) [a, b] = if List.isPrefixOf [a, b] (x :: y :: t) then 0 else if Lib.index (y :: t) [a, b] == -1 then -1 else Lib.index (y :: t) [a, b] + 1 := rfl
    rw [st, hp]
    simp only [hasPair]
    cases h : (x == a && y == b) with
    | true => simp
    | false =>
      rw [Bool.false_or, ← ih]
      by_cases hm : Lib.index (y :: t) [a, b] = -1
      · rw [hm]; simp
      · have : (Lib.index (y :: t) [a, b] == -1) = false := beq_eq_false_iff_ne.2 hm
        rw [this]; simp; omega
theorem pair_snoc (a b c : UInt8) : ∀ l : List UInt8, hasPair a b (l ++ [c]) = (hasPair a b l || (l.getLast? == some a && c == b))
  | [] => by simp [hasPair]
  | [x] => by simp [hasPair]
  | x :: y :: t => by
    have ih := pair_snoc a b c (y :: t)
    simp only [List.cons_append] at ih
    simp only [List.cons_append, hasPair, ih, List.getLast?_cons_cons, Bool.or_assoc]
theorem pair_two (a b : UInt8) : ∀ l : List UInt8, hasPair a b (l ++ [a, b]) = true
  | [] => by simp [hasPair]
  | [x] => by simp [hasPair]
  | x :: y :: t => by
    have ih := pair_two a b (y :: t)
    simp only [List.cons_append] at ih
    simp only [List.cons_append, hasPair, ih, Bool.or_true]
theorem suffix_one (l : List UInt8) (c : UInt8) : Lib.hasSuffix l [c] = (l.getLast? == some c) := by
  unfold Lib.hasSuffix
  rw [Bool.eq_iff_iff, List.isSuffixOf_iff_suffix]
  simp only [beq_iff_eq]
  constructor
  · rintro ⟨t, rfl⟩; simp
  · intro h
    obtain ⟨t, ht⟩ := List.getLast?_eq_some_iff.1 h
    exact ⟨t, ht.symm⟩

theorem oneLine_valid {l : List UInt8} (h : oneLineB l = true) : Lib.validD l = true ∧ lineB (Sc.rns l) = true := by
  unfold oneLineB at h; simpa using h
theorem oneLine_encs (rs : List Nat) (hc : ∀ r ∈ rs, Sc.isCh r) : oneLineB (Sc.encs rs) = lineB rs := by
  unfold oneLineB
  rw [Sc.valid_encs rs hc, Sc.rns_encs rs hc, Bool.true_and]
theorem oneLine_app (l m : List UInt8) (hl : oneLineB l = true) (hm : oneLineB m = true) : oneLineB (l ++ m) = true := by
  obtain ⟨v1, b1⟩ := oneLine_valid hl
  obtain ⟨v2, b2⟩ := oneLine_valid hm
  rw [← Sc.encs_rns l v1, ← Sc.encs_rns m v2, ← Sc.encs_append, oneLine_encs]
  · unfold lineB at *; rw [List.all_append, b1, b2]; rfl
  · intro r hr
    rcases List.mem_append.1 hr with h | h
    · exact Sc.ch_rns _ r h
    · exact Sc.ch_rns _ r h
/-- a byte of ASCII in the bytes of a rune is that rune -/
theorem mem_enc (r : Nat) (b : UInt8) (hc : Sc.isCh r) (h : b ∈ Sc.enc r) (hb : b.toNat < 128) : r = b.toNat := by
  unfold Sc.isCh at hc
  by_cases h1 : r ≤ 127
  · rw [Sc.enc1 r h1] at h
    have : b = UInt8.ofNat r := by simpa using h
    rw [this, Sc.toNat_of r (by omega)]
  · exfalso
    by_cases h2 : r ≤ 2047
    · rw [Sc.enc2 r (by omega) h2] at h
      simp only [List.mem_cons, List.not_mem_nil, or_false] at h
      rcases h with rfl | rfl <;> rw [Sc.toNat_of _ (by omega)] at hb <;> omega
    · by_cases h3 : r ≤ 65535
      · rw [Sc.enc3 r (by omega)] at h
        simp only [List.mem_cons, List.not_mem_nil, or_false] at h
        rcases h with rfl | rfl | rfl <;> rw [Sc.toNat_of _ (by omega)] at hb <;> omega
      · rw [Sc.enc4 r (by omega) (by omega)] at h
        simp only [List.mem_cons, List.not_mem_nil, or_false] at h
        rcases h with rfl | rfl | rfl | rfl <;> rw [Sc.toNat_of _ (by omega)] at hb <;> omega
/-- a byte of ASCII in a text is a character of it -/
theorem mem_text (l : List UInt8) (hv : Lib.validD l = true) (b : UInt8) (h : b ∈ l) (hb : b.toNat < 128) : b.toNat ∈ Sc.rns l := by
  rw [← Sc.encs_rns l hv] at h
  obtain ⟨r, hr, hm⟩ := List.mem_flatMap.1 h
  have := mem_enc r b (Sc.ch_rns l r hr) hm hb
  rwa [← this]
theorem oneLine_no (l : List UInt8) (h : oneLineB l = true) (b : UInt8) (hb : b ∈ l) (h1 : b.toNat = 10 ∨ b.toNat = 13) : False := by
  obtain ⟨hv, hl⟩ := oneLine_valid h
  have hm := mem_text l hv b hb (by omega)
  unfold lineB at hl
  have := List.all_eq_true.1 hl _ hm
  unfold lineR at this
  rcases h1 with h1 | h1 <;> rw [h1] at this <;> revert this <;> decide

/-- the bytes that the law asks for -/
def nowLN : List UInt8 := [10, 13, 9, 44, 91, 93, 123, 125]
def hasAnyN (l : List UInt8) : Bool := l.any fun b => nowLN.contains b

structure IsPlain (l : List UInt8) : Prop where
  ne : l ≠ []
  dots : l ≠ [46, 46, 46]
  line : oneLineB l = true
  any : hasAny l = false
  first : ∀ b t, l = b :: t → badFirst b = false
  last1 : (l.getLast? == some 32) = false
  last2 : (l.getLast? == some 58) = false
  pair1 : hasPair 58 32 l = false
  pair2 : hasPair 32 35 l = false
theorem plain_iff (l : List UInt8) : plainB l = true ↔ IsPlain l := by
  cases l with
  | nil => exact ⟨fun h => by simp [plainB] at h, fun h => absurd rfl h.ne⟩
  | cons b t =>
    unfold plainB
    simp only [suffix_one, contains_pair, Bool.and_eq_true, Bool.not_eq_true']
    constructor
    · rintro ⟨h1, h2, h3, h4, h5, h6, h7, h8⟩
      exact ⟨by simp, by simpa using h1, h2, h3, fun b' t' e => by cases e; exact h4, h5, h7, h6, h8⟩
    · intro h
      exact ⟨by simpa using h.dots, h.line, h.any, h.first b t rfl, h.last1, h.pair1, h.last2, h.pair2⟩
theorem plain_false (l : List UInt8) (h : ¬ IsPlain l) : plainB l = false := by
  rw [Bool.eq_false_iff]; exact fun e => h ((plain_iff l).1 e)

theorem hasAny_app (l m : List UInt8) : hasAny (l ++ m) = (hasAny l || hasAny m) := by unfold hasAny; rw [List.any_append]
theorem first_app {l : List UInt8} (h : IsPlain l) (m : List UInt8) : ∀ b t, l ++ m = b :: t → badFirst b = false := by
  intro b t e
  cases l with
  | nil => exact absurd rfl h.ne
  | cons x l => simp only [List.cons_append] at e; cases e; exact h.first _ _ rfl

theorem plain_anyN (l : List UInt8) (h : IsPlain l) : hasAnyN l = false := by
  unfold hasAnyN
  rw [List.any_eq_false]
  intro b hb hc
  have hm : b ∈ nowLN := by simpa using hc
  have hx : ∀ x ∈ nowLN, (x.toNat = 10 ∨ x.toNat = 13) ∨ nowL.contains x = true := by decide
  rcases hx b hm with h1 | h1
  · exact oneLine_no l h.line b hb h1
  · have := h.any
    unfold hasAny at this
    rw [List.any_eq_false] at this
    exact this b hb h1
theorem plain_x (l : List UInt8) (h : IsPlain l) : IsPlain (l ++ [120]) where
  ne := by simp
  dots := by
    intro e
    have := congrArg List.getLast? e
    simp at this
  line := oneLine_app l _ h.line (by decide +kernel)
  any := by rw [hasAny_app, h.any]; decide
  first := first_app h _
  last1 := by simp
  last2 := by simp
  pair1 := by rw [pair_snoc, h.pair1]; simp
  pair2 := by rw [pair_snoc, h.pair2]; simp
theorem plain_bx (l : List UInt8) (h : IsPlain l) : IsPlain (l ++ [32, 120]) := by
  have e : l ++ [32, 120] = (l ++ [32]) ++ [120] := by simp
  exact {
    ne := by simp
    dots := by
      intro e
      have := congrArg List.getLast? e
      simp at this
    line := oneLine_app l _ h.line (by decide +kernel)
    any := by rw [hasAny_app, h.any]; decide
    first := first_app h _
    last1 := by simp
    last2 := by simp
    pair1 := by rw [e, pair_snoc, pair_snoc, h.pair1, h.last2]; simp
    pair2 := by rw [e, pair_snoc, pair_snoc, h.pair2]; simp }
theorem plain_colon (l : List UInt8) : plainB (l ++ [58]) = false := plain_false _ fun h => by have := h.last2; simp at this
theorem plain_blank (l : List UInt8) : plainB (l ++ [32]) = false := plain_false _ fun h => by have := h.last1; simp at this
theorem plain_ahead (l : List UInt8) : plainB ([32] ++ l) = false := plain_false _ fun h => by
  have := h.first 32 l rfl
  revert this; decide
theorem plain_remark (l : List UInt8) : plainB (l ++ [32, 35]) = false := plain_false _ fun h => by
  have := h.pair2; rw [pair_two] at this; cases this
theorem plain_comma (l : List UInt8) : plainB (l ++ [44]) = false := plain_false _ fun h => by
  have := h.any; rw [hasAny_app, show hasAny [44] = true by decide, Bool.or_true] at this; cases this
end Go.Proofs.YtlfmaeodkghbbaaDoor
