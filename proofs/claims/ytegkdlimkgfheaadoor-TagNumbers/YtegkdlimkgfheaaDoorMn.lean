/-
  Plain mathematics: the tag of a number that is written out.
-/
import Derived.Test.YtegkdlimkgfheaaDoorFf
namespace Go.Proofs.YtegkdlimkgfheaaDoor
namespace Tg

theorem dg_first (a : UInt8) (h : dg 10 a = true) : a ≠ 43 ∧ a ≠ 45 ∧ a ≠ 126 ∧ a ≠ 110 ∧ a ≠ 78 ∧ a ≠ 116 ∧ a ≠ 84 ∧ a ≠ 102 ∧ a ≠ 70 ∧ a ≠ 46 ∧ a ≠ 111 ∧ a ≠ 120 := by
  revert a; exact forall_u8 (by decide +kernel)
/-- behind the digits: a point and digits, a power, or both -/
def decTail (R : List UInt8) : Bool := if Lib.hasPrefix R [46] = true then tailOk ((R.drop 1).drop (ahead 10 (R.drop 1))) else tailOk R
theorem ahead_app {A R : List UInt8} (hA : A.all (dg 10) = true) (hR : ∀ c t, R = c :: t → dg 10 c = false) : ahead 10 (A ++ R) = A.length := by
  unfold ahead
  rw [List.takeWhile_append_of_pos (mem_dg hA)]
  cases R with
  | nil => simp
  | cons c t => rw [List.takeWhile_cons_of_neg (by simp [hR c t rfl])]; simp
theorem dec_form {A R : List UInt8} (hA : A.all (dg 10) = true) (hne : A ≠ []) (hR : ∀ c t, R = c :: t → dg 10 c = false) : isDecimal (A ++ R) = decTail R := by
  have h1 := ahead_app hA hR
  have hp : 0 < A.length := by cases A with
    | nil => exact absurd rfl hne
    | cons _ _ => simp
  unfold isDecimal decTail
  rw [h1, List.drop_left]
  have e : (A ++ R).drop (A.length + 1) = R.drop 1 := by rw [← List.drop_drop, List.drop_left]
  rw [e]
  have d1 : decide (0 < A.length + ahead 10 (R.drop 1)) = true := decide_eq_true (by omega)
  have d2 : decide (0 < A.length) = true := decide_eq_true hp
  rw [d1, d2, Bool.true_and, Bool.true_and]
theorem word_first {l : List UInt8} (a : UInt8) (t : List UInt8) (hl : l = a :: t) (ha : dg 10 a = true ∨ a = 45) : nulls.contains l = false ∧ bools.contains l = false ∧ nans.contains l = false := by
  subst hl
  have h : a ≠ 126 ∧ a ≠ 110 ∧ a ≠ 78 ∧ a ≠ 116 ∧ a ≠ 84 ∧ a ≠ 102 ∧ a ≠ 70 ∧ a ≠ 46 := by
    rcases ha with ha | rfl
    · have := dg_first a ha; exact ⟨this.2.2.1, this.2.2.2.1, this.2.2.2.2.1, this.2.2.2.2.2.1, this.2.2.2.2.2.2.1, this.2.2.2.2.2.2.2.1, this.2.2.2.2.2.2.2.2.1, this.2.2.2.2.2.2.2.2.2.1⟩
    · decide
  obtain ⟨h1, h2, h3, h4, h5, h6, h7, h8⟩ := h
  refine ⟨?_, ?_, ?_⟩ <;> simp [nulls, bools, nans, h1, h2, h3, h4, h5, h6, h7, h8]
theorem res_form (sg A R : List UInt8) (hsg : sg = [] ∨ sg = [45]) (hA : A.all (dg 10) = true) (hne : A ≠ []) (hR : ∀ c t, R = c :: t → dg 10 c = false ∧ c ≠ 111 ∧ c ≠ 120) :
    resolve (sg ++ (A ++ R)) = if R = [] then .int else if decTail R = true then .flt else .str := by
  obtain ⟨a, A', rfl⟩ : ∃ a A', A = a :: A' := by
    cases A with
    | nil => exact absurd rfl hne
    | cons a A' => exact ⟨a, A', rfl⟩
  have ha : dg 10 a = true := by simp at hA; exact hA.1
  have hf := dg_first a ha
  have hbare : bare (sg ++ ((a :: A') ++ R)) = (a :: A') ++ R := by
    rcases hsg with rfl | rfl
    · exact bare_not a _ hf.1 hf.2.1
    · exact bare_sign 45 _ (Or.inr rfl)
  have hw : nulls.contains (sg ++ ((a :: A') ++ R)) = false ∧ bools.contains (sg ++ ((a :: A') ++ R)) = false ∧ nans.contains (sg ++ ((a :: A') ++ R)) = false := by
    rcases hsg with rfl | rfl
    · exact word_first a _ rfl (Or.inl ha)
    · exact word_first 45 _ rfl (Or.inr rfl)
  have hpre : ∀ b : UInt8, b = 111 ∨ b = 120 → Lib.hasPrefix (sg ++ ((a :: A') ++ R)) [48, b] = false := by
    intro b hb
    rw [Bool.eq_false_iff]
    intro h
    obtain ⟨t, ht⟩ := pre_two h
    rcases hsg with rfl | rfl
    · simp only [List.nil_append, List.cons_append, List.cons.injEq] at ht
      obtain ⟨_, ht2⟩ := ht
      cases A' with
      | nil =>
        have := hR b t (by simpa using ht2)
        rcases hb with rfl | rfl
        · exact this.2.1 rfl
        · exact this.2.2 rfl
      | cons c C =>
        simp only [List.cons_append, List.cons.injEq] at ht2
        have hc : dg 10 c = true := by simp at hA; exact hA.2.1
        rw [ht2.1] at hc
        rcases hb with rfl | rfl <;> revert hc <;> decide
    · simp only [List.cons_append, List.nil_append, List.cons.injEq] at ht
      exact absurd ht.1 (by decide)
  have hinf : infs.contains ((a :: A') ++ R) = false := by
    have h46 := hf.2.2.2.2.2.2.2.2.2.1
    simp [infs, h46]
  unfold resolve isInt isFloat
  rw [hw.1, hw.2.1, hw.2.2, hpre 111 (Or.inl rfl), hpre 120 (Or.inr rfl), hbare, hinf, dec_form hA (by simp) (fun c t h => (hR c t h).1)]
  have hall : allDg 10 ((a :: A') ++ R) = decide (R = []) := by
    cases R with
    | nil => rw [List.append_nil, allDg_of hA]; simp
    | cons c t => rw [allDg_bad c t (hR c t rfl).1]; simp
  rw [hall]
  by_cases h : R = []
  · simp [h]
  · simp [h]
theorem power_ok {c s : UInt8} {Y : List UInt8} (hc : c = 101 ∨ c = 69) (hs : s = 43 ∨ s = 45) : tailOk (c :: s :: Y) = allDg 10 Y := by
  have : (c == 101 || c == 69) = true := by rcases hc with h | h <;> simp [h]
  rw [tailOk_cons, this, Bool.true_and, bare_sign s Y hs]
end Tg
open Tg
theorem e_not {c : UInt8} (h : c = 101 ∨ c = 69) : Tg.dg 10 c = false ∧ c ≠ 111 ∧ c ≠ 120 ∧ c ≠ 46 := by rcases h with rfl | rfl <;> decide
/-- what stands behind the digits of a number -/
def Rest (F X : List UInt8) : Prop := (F = [] ∨ ∃ Y, F = 46 :: Y ∧ DG Y) ∧ (X = [] ∨ ∃ c s Y, X = c :: s :: Y ∧ (c = 101 ∨ c = 69) ∧ (s = 43 ∨ s = 45) ∧ DP Y)
theorem rest_tail {F X : List UInt8} (h : Rest F X) (T : List UInt8) (hT : T = [] ∨ ∃ t, T = [t] ∧ Tg.dg 10 t = false ∧ t ≠ 46 ∧ t ≠ 101 ∧ t ≠ 69) (hne : F ++ (X ++ T) ≠ []) : decTail (F ++ (X ++ T)) = decide (T = []) := by
  have hX : tailOk (X ++ T) = decide (T = []) := by
    rcases h.2 with rfl | ⟨c, s, Y, rfl, hc, hs, hY⟩
    · rcases hT with rfl | ⟨t, rfl, h1, h2, h3, h4⟩
      · rfl
      · have h3' : (t == 101) = false := beq_eq_false_iff_ne.2 h3
        have h4' : (t == 69) = false := beq_eq_false_iff_ne.2 h4
        simp [tailOk, isPower, h3', h4']
    · show tailOk (c :: s :: (Y ++ T)) = _
      rw [power_ok hc hs]
      rcases hT with rfl | ⟨t, rfl, h1, h2, h3, h4⟩
      · rw [List.append_nil]
        have hYl : 0 < Y.length := by
          cases Y with
          | nil => exact absurd rfl hY.2
          | cons _ _ => simp
        rw [allDg_of hY.1]; simp [hYl]
      · rw [allDg_bad t [] h1]; simp
  have hX0 : ∀ c t, X ++ T = c :: t → Tg.dg 10 c = false ∧ c ≠ 46 := by
    intro c t hc
    rcases h.2 with rfl | ⟨c', s, Y, rfl, hc', hs, hY⟩
    · rcases hT with rfl | ⟨t', rfl, h1, h2, h3, h4⟩
      · cases hc
      · simp at hc; rw [← hc.1]; exact ⟨h1, h2⟩
    · simp at hc; rw [← hc.1]; exact ⟨(e_not hc').1, (e_not hc').2.2.2⟩
  unfold decTail
  rcases h.1 with rfl | ⟨Y, rfl, hY⟩
  · have : Lib.hasPrefix ([] ++ (X ++ T)) [46] = false := by
      rw [Bool.eq_false_iff]; intro hp
      obtain ⟨t, ht⟩ := pre_one hp
      exact (hX0 46 t (by simpa using ht)).2 rfl
    rw [this]
    simpa using hX
  · have : Lib.hasPrefix (46 :: Y ++ (X ++ T)) [46] = true := by simp [Lib.hasPrefix]
    rw [if_pos this]
    show tailOk ((Y ++ (X ++ T)).drop (Tg.ahead 10 (Y ++ (X ++ T)))) = _
    rw [ahead_app hY (fun c t hc => (hX0 c t hc).1), List.drop_left]
    exact hX
theorem rest_head {F X : List UInt8} (h : Rest F X) (T : List UInt8) (hT : T = [] ∨ ∃ t, T = [t] ∧ Tg.dg 10 t = false ∧ t ≠ 111 ∧ t ≠ 120) : ∀ c t, F ++ (X ++ T) = c :: t → Tg.dg 10 c = false ∧ c ≠ 111 ∧ c ≠ 120 := by
  intro c t hc
  rcases h.1 with rfl | ⟨Y, rfl, hY⟩
  · rcases h.2 with rfl | ⟨c', s, Y, rfl, hc', hs, hY⟩
    · rcases hT with rfl | ⟨t', rfl, h1, h2, h3⟩
      · cases hc
      · simp at hc; rw [← hc.1]; exact ⟨h1, h2, h3⟩
    · simp at hc; rw [← hc.1]; exact ⟨(e_not hc').1, (e_not hc').2.1, (e_not hc').2.2.1⟩
  · simp at hc; rw [← hc.1]; decide
/-- the tag of a number, and of one with something behind it -/
theorem num_tag {sg A F X : List UInt8} (hsg : sg = [] ∨ sg = [45]) (hA : DP A) (h : Rest F X) :
    Tg.resolve (sg ++ (A ++ (F ++ X))) = (if F = [] ∧ X = [] then .int else .flt) ∧ ∀ t : UInt8, Tg.dg 10 t = false → t ≠ 46 → t ≠ 101 → t ≠ 69 → t ≠ 111 → t ≠ 120 → Tg.resolve (sg ++ (A ++ (F ++ X)) ++ [t]) = .str := by
  constructor
  · have h0 := res_form sg A (F ++ (X ++ [])) hsg hA.1 hA.2 (rest_head h [] (Or.inl rfl))
    rw [List.append_nil] at h0
    rw [h0]
    by_cases he : F ++ X = []
    · rw [if_pos he, if_pos (by simpa using he)]
    · have := rest_tail h [] (Or.inl rfl) (by simpa using he)
      rw [List.append_nil] at this
      have he2 : ¬ (F = [] ∧ X = []) := by rintro ⟨rfl, rfl⟩; exact he rfl
      rw [if_neg he, this, if_pos (by simp), if_neg he2]
  · intro t h1 h2 h3 h4 h5 h6
    have h0 := res_form sg A (F ++ (X ++ [t])) hsg hA.1 hA.2 (rest_head h [t] (Or.inr ⟨t, rfl, h1, h5, h6⟩))
    rw [show sg ++ (A ++ (F ++ X)) ++ [t] = sg ++ (A ++ (F ++ (X ++ [t]))) by simp, h0, if_neg (by simp), rest_tail h [t] (Or.inr ⟨t, rfl, h1, h2, h3, h4⟩) (by simp)]
    simp
/-- digits of a base, one at least -/
def BD' (base : Nat) (l : List UInt8) : Prop := l ≠ [] ∧ l.all (Tg.dg base) = true
theorem hex_tag {l : List UInt8} (h : BD' 16 l) : Tg.resolve (48 :: 120 :: l) = .int := by
  have hall : allDg 16 l = true := by unfold allDg; rw [h.2]; cases l with
    | nil => exact absurd rfl h.1
    | cons _ _ => rfl
  unfold Tg.resolve Tg.isInt
  simp [nulls, bools, Lib.hasPrefix, hall]
theorem oct_tag {l : List UInt8} (h : BD' 8 l) : Tg.resolve (48 :: 111 :: l) = .int := by
  have hall : allDg 8 l = true := by unfold allDg; rw [h.2]; cases l with
    | nil => exact absurd rfl h.1
    | cons _ _ => rfl
  unfold Tg.resolve Tg.isInt
  simp [nulls, bools, Lib.hasPrefix, hall]
end Go.Proofs.YtegkdlimkgfheaaDoor
