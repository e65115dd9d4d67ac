/-
  Plain mathematics, no program's run in it: the lines of texts, one behind the other (LinesParts), and pieces that say nothing (LinesBlanks).
-/
import Derived.Test.YtjcfmghijfnehaaGreatDoorMw
namespace Go.Proofs.YtjcfmghijfnehaaGreatDoor
namespace Lx
theorem pieces_ten (a b : List UInt8) : pieces (a ++ 10 :: b) = pieces a ++ pieces b := by
  induction a with
  | nil => simp [pieces]
  | cons c t ih =>
    have e : (c :: t) ++ 10 :: b = c :: (t ++ 10 :: b) := rfl
    rw [e]
    show (if c = 10 then [] :: pieces (t ++ 10 :: b) else match pieces (t ++ 10 :: b) with
      | [] => [[c]]
      | p :: ps => (c :: p) :: ps) = (if c = 10 then [] :: pieces t else match pieces t with
      | [] => [[c]]
      | p :: ps => (c :: p) :: ps) ++ pieces b
    rw [ih]
    by_cases hc : c = 10
    · rw [if_pos hc, if_pos hc]; rfl
    · rw [if_neg hc, if_neg hc]
      cases hp : pieces t with
      | nil => exact absurd hp (pieces_ne t)
      | cons p ps => rfl
theorem pieces_one (a : List UInt8) (h : ∀ b ∈ a, b ≠ 10) : pieces a = [a] := by
  induction a with
  | nil => rfl
  | cons c t ih =>
    show (if c = 10 then [] :: pieces t else match pieces t with
      | [] => [[c]]
      | p :: ps => (c :: p) :: ps) = [c :: t]
    rw [if_neg (h c (List.mem_cons_self ..)), ih (fun b hb => h b (List.mem_cons_of_mem _ hb))]
theorem readGo_fuel : ∀ (n m : Nat) (ps : List (List UInt8)), ps.length ≤ n → ps.length ≤ m → readGo n ps = readGo m ps
  | 0, 0, _, _, _ => rfl
  | 0, m + 1, ps, h, _ => by
    have : ps = [] := List.length_eq_zero_iff.1 (by omega)
    subst this; rfl
  | n + 1, 0, ps, _, h => by
    have : ps = [] := List.length_eq_zero_iff.1 (by omega)
    subst this; rfl
  | n + 1, m + 1, [], _, _ => rfl
  | n + 1, m + 1, p :: t, h1, h2 => by
    simp only [List.length_cons] at h1 h2
    unfold readGo
    split
    · rfl
    · rename_i x _
      rw [readGo_fuel n m t (by omega) (by omega), readGo_fuel n m (t.drop (textSize x.indent t)) (by rw [List.length_drop]; omega) (by rw [List.length_drop]; omega)]
/-- the lines of pieces -/
def rd (ps : List (List UInt8)) : Except Nat (List Ln) := readGo ps.length ps
theorem read_rd (l : List UInt8) : read l = rd (pieces l) := rfl
theorem rd_nil : rd [] = .ok [] := rfl
theorem rd_cons (p : List UInt8) (t : List (List UInt8)) : rd (p :: t) = match lineOf p with
    | .error e => .error e
    | .ok x => if lastBar x.words then
        (match textOf (t.take (textSize x.indent t)) with
        | .error e => .error e
        | .ok y => consL ⟨x.mark, x.indent, x.words, y⟩ (rd (t.drop (textSize x.indent t))))
      else if says x then consL x (rd t) else rd t := by
  show readGo (t.length + 1) (p :: t) = _
  unfold readGo rd
  cases lineOf p with
  | error e => rfl
  | ok x =>
    simp only
    rw [readGo_fuel t.length (t.drop (textSize x.indent t)).length _ (by rw [List.length_drop]; omega) (Nat.le_refl _)]
    cases textOf (t.take (textSize x.indent t)) <;> rfl
theorem textSize_app (ind : Nat) (P Q : List (List UInt8)) : (textSize ind P < P.length ∧ textSize ind (P ++ Q) = textSize ind P) ∨ (textSize ind P = P.length ∧ textSize ind (P ++ Q) = P.length + textSize ind Q) := by
  induction P with
  | nil => right; exact ⟨rfl, by simp⟩
  | cons p t ih =>
    have e : (p :: t) ++ Q = p :: (t ++ Q) := rfl
    rw [e]
    have hu : ∀ t, textSize ind (p :: t) = if !blank p && decide (blanks p ≤ ind) then 0 else textSize ind t + 1 := fun _ => rfl
    rw [hu, hu]
    by_cases h : (!blank p && decide (blanks p ≤ ind)) = true
    · rw [if_pos h, if_pos h]; left; exact ⟨by simp, rfl⟩
    · rw [if_neg h, if_neg h]
      simp only [List.length_cons]
      rcases ih with ⟨h1, h2⟩ | ⟨h1, h2⟩
      · left; omega
      · right; omega
theorem tailGo_last (ps : List (List UInt8)) : ∀ n, 0 < tailGo ps n → blank (ps.getD (tailGo ps n - 1) []) = false
  | 0, h => by simp [tailGo] at h
  | n + 1, h => by
    unfold tailGo at h ⊢
    by_cases hb : blank (ps.getD n []) = true
    · rw [if_pos hb] at h ⊢; exact tailGo_last ps n h
    · rw [if_neg hb]; simpa using hb
theorem tailGo_ge (ps : List (List UInt8)) (j : Nat) (hj : blank (ps.getD j []) = false) : ∀ n, j < n → j + 1 ≤ tailGo ps n
  | 0, h => by omega
  | n + 1, h => by
    unfold tailGo
    by_cases hb : blank (ps.getD n []) = true
    · rw [if_pos hb]
      have : j ≠ n := fun e => by subst e; rw [hj] at hb; cases hb
      exact tailGo_ge ps j hj n (by omega)
    · rw [if_neg hb]; omega
theorem firstFrom_app (a b : List (List UInt8)) : ∀ k i, firstFrom a k = some i → firstFrom (a ++ b) k = some i := by
  induction a with
  | nil => intro k i h; cases h
  | cons p t ih =>
    intro k i h
    have e : (p :: t) ++ b = p :: (t ++ b) := rfl
    rw [e]
    unfold firstFrom at h ⊢
    by_cases hb : (!blank p) = true
    · rw [if_pos hb] at h ⊢; exact h
    · rw [if_neg hb] at h ⊢; exact ih _ _ h
theorem firstFrom_some (a : List (List UInt8)) : ∀ k j, j < a.length → blank (a.getD j []) = false → ∃ i, firstFrom a k = some i := by
  induction a with
  | nil => intro k j h; simp at h
  | cons p t ih =>
    intro k j h hb
    unfold firstFrom
    by_cases hp : (!blank p) = true
    · rw [if_pos hp]; exact ⟨k, rfl⟩
    · rw [if_neg hp]
      cases j with
      | zero => simp at hb; rw [hb] at hp; exact absurd rfl hp
      | succ j => exact ih (k + 1) j (by simp only [List.length_cons] at h; omega) (by simpa using hb)
theorem firstIndent_app (a b : List (List UInt8)) (j : Nat) (hj : j < a.length) (hb : blank (a.getD j []) = false) : firstIndent (a ++ b) = firstIndent a := by
  obtain ⟨i, hi⟩ := firstFrom_some a 0 j hj hb
  have hlt := firstFrom_lt a 0 i hi
  unfold firstIndent
  rw [firstFrom_app a b 0 i hi, hi]
  simp only
  rw [List.getD_eq_getElem?_getD, List.getD_eq_getElem?_getD, List.getElem?_append_left (by omega)]
theorem textGo_app_err (off : Nat) (a b : List (List UInt8)) : ∀ e, textGo off a = .error e → textGo off (a ++ b) = .error e := by
  induction a with
  | nil => intro e h; cases h
  | cons p t ih =>
    intro e h
    have e1 : (p :: t) ++ b = p :: (t ++ b) := rfl
    rw [e1]
    unfold textGo at h ⊢
    by_cases h1 : (!right p) = true
    · rw [if_pos h1] at h ⊢; exact h
    · rw [if_neg h1] at h ⊢
      by_cases h2 : blank p = true
      · rw [if_pos h2] at h ⊢
        cases ht : textGo off t with
        | ok x => rw [ht] at h; cases h
        | error f => rw [ht] at h; rw [ih f ht]; exact h
      · rw [if_neg h2] at h ⊢
        by_cases h3 : blanks p < off
        · rw [if_pos h3] at h ⊢; exact h
        · rw [if_neg h3] at h ⊢
          cases ht : textGo off t with
          | ok x => rw [ht] at h; cases h
          | error f => rw [ht] at h; rw [ih f ht]; exact h
theorem textOf_more (P R : List (List UInt8)) (e : Nat) (h : textOf (P ++ [[]]) = .error e) : textOf (P ++ R) = .error e := by
  unfold textOf at h
  obtain ⟨k, hk⟩ : ∃ k, withoutTail (P ++ [[]]) = k := ⟨_, rfl⟩
  rw [hk] at h
  have hk0 : 0 < k := by
    rcases Nat.eq_zero_or_pos k with h0 | h0
    · subst h0; rw [List.take_zero] at h; cases h
    · exact h0
  have hlast := tailGo_last (P ++ [[]]) (P ++ [[]]).length (by show 0 < withoutTail _; rw [hk]; exact hk0)
  have hk' : tailGo (P ++ [[]]) (P ++ [[]]).length = k := hk
  rw [hk'] at hlast
  have hkP : k ≤ P.length := by
    have hle := tailGo_le (P ++ [[]]) (P ++ [[]]).length
    rw [hk', List.length_append] at hle
    simp only [List.length_cons, List.length_nil] at hle
    rcases Nat.lt_or_ge P.length k with hlt | hge
    · exfalso
      have : k - 1 = P.length := by omega
      rw [this, List.getD_eq_getElem?_getD, List.getElem?_append_right (Nat.le_refl _)] at hlast
      simp at hlast
      exact absurd hlast (by decide)
    · exact hge
  rw [List.getD_eq_getElem?_getD, List.getElem?_append_left (by omega), ← List.getD_eq_getElem?_getD] at hlast
  rw [List.take_append_of_le_length hkP] at h
  have hPR : blank ((P ++ R).getD (k - 1) []) = false := by
    rw [List.getD_eq_getElem?_getD, List.getElem?_append_left (by omega), ← List.getD_eq_getElem?_getD]; exact hlast
  have hge : k ≤ withoutTail (P ++ R) := by
    have := tailGo_ge (P ++ R) (k - 1) hPR (P ++ R).length (by rw [List.length_append]; omega)
    unfold withoutTail; omega
  obtain ⟨m, hm⟩ : ∃ m, withoutTail (P ++ R) = k + m := ⟨withoutTail (P ++ R) - k, by omega⟩
  unfold textOf
  rw [hm]
  have hsplit : (P ++ R).take (k + m) = P.take k ++ ((P ++ R).drop k).take m := by
    rw [List.take_add, List.take_append_of_le_length hkP]
  rw [hsplit, firstIndent_app (P.take k) _ (k - 1) (by rw [List.length_take]; omega) (by
    rw [List.getD_eq_getElem?_getD, List.getElem?_take_of_lt (by omega), ← List.getD_eq_getElem?_getD]; exact hlast)]
  exact textGo_app_err _ _ _ _ h
theorem line_nil : lineOf [] = .ok ⟨0, 0, [], []⟩ := by kernel_rfl
theorem rd_empty : rd [[]] = .ok [] := by
  rw [rd_cons, line_nil]; rfl
theorem consL_err {x : Ln} {r : Except Nat (List Ln)} {e : Nat} (h : consL x r = .error e) : r = .error e := by
  cases r with
  | error f => cases h; rfl
  | ok zs => cases h
theorem consL_ok {x : Ln} {r : Except Nat (List Ln)} {ls : List Ln} (h : consL x r = .ok ls) : ∃ zs, r = .ok zs ∧ ls = x :: zs := by
  cases r with
  | error e => cases h
  | ok zs => cases h; exact ⟨zs, rfl, rfl⟩
theorem cons_joinL (x : Ln) (zs : List Ln) (r : Except Nat (List Ln)) : consL x (joinL zs r) = joinL (x :: zs) r := by
  cases r <;> rfl
/-- the last line has no bar -/
def Open (xs : List Ln) : Bool := match xs.getLast? with
  | some x => lastBar x.words
  | none => false
theorem open_cons (x : Ln) (zs : List Ln) (h : Open (x :: zs) = false) : Open zs = false := by
  cases zs with
  | nil => rfl
  | cons a b => unfold Open at h ⊢; rw [List.getLast?_cons_cons] at h; exact h
theorem rd_parts (Q : List (List UInt8)) : ∀ (n : Nat) (P : List (List UInt8)), P.length ≤ n →
    (∀ e, rd (P ++ [[]]) = .error e → rd (P ++ Q) = .error e) ∧ (∀ xs, rd (P ++ [[]]) = .ok xs → Open xs = false → rd (P ++ Q) = joinL xs (rd Q))
  | n, [], _ => by
    have e0 : ([] : List (List UInt8)) ++ [[]] = [[]] := rfl
    rw [e0, rd_empty]
    refine ⟨fun e h => (by cases h), fun xs h _ => ?_⟩
    cases h
    show rd Q = joinL [] (rd Q)
    cases rd Q <;> rfl
  | 0, p :: t, h => by simp at h
  | n + 1, p :: t, h => by
    simp only [List.length_cons] at h
    have ea : ∀ R : List (List UInt8), (p :: t) ++ R = p :: (t ++ R) := fun _ => rfl
    rw [ea, ea, rd_cons, rd_cons]
    cases hl : lineOf p with
    | error f => exact ⟨fun e h => h, fun xs h => by cases h⟩
    | ok x =>
      simp only
      by_cases hbar : lastBar x.words = true
      · rw [if_pos hbar, if_pos hbar]
        rcases textSize_app x.indent t [[]] with ⟨h1, h2⟩ | ⟨h1, h2⟩
        · rcases textSize_app x.indent t Q with ⟨_, h4⟩ | ⟨h3, _⟩
          · rw [h2, h4, List.take_append_of_le_length (by omega), List.take_append_of_le_length (by omega), List.drop_append_of_le_length (by omega), List.drop_append_of_le_length (by omega)]
            obtain ⟨i1, i2⟩ := rd_parts Q n (t.drop (textSize x.indent t)) (by rw [List.length_drop]; omega)
            cases ht : textOf (t.take (textSize x.indent t)) with
            | error f => exact ⟨fun e h => h, fun xs h => by cases h⟩
            | ok y =>
              simp only
              refine ⟨fun e he => ?_, fun xs hx ho => ?_⟩
              · rw [i1 e (consL_err he)]; rfl
              · obtain ⟨zs, hz, rfl⟩ := consL_ok hx
                rw [i2 zs hz (open_cons _ _ ho), cons_joinL]
          · omega
        · have hone : textSize x.indent [[]] = 1 := rfl
          rw [hone] at h2
          rcases textSize_app x.indent t Q with ⟨h3, _⟩ | ⟨_, h4⟩
          · omega
          · rw [h2, h4]
            have e1 : (t ++ [[]]).take (t.length + 1) = t ++ [[]] := List.take_of_length_le (by simp)
            have e2 : (t ++ [[]]).drop (t.length + 1) = [] := List.drop_eq_nil_of_le (by simp)
            have e3 : (t ++ Q).take (t.length + textSize x.indent Q) = t ++ Q.take (textSize x.indent Q) := by rw [List.take_append, List.take_of_length_le (by omega)]; simp
            rw [e1, e2, e3, rd_nil]
            cases ht : textOf (t ++ [[]]) with
            | error f =>
              rw [textOf_more t (Q.take (textSize x.indent Q)) f ht]
              exact ⟨fun e h => h, fun xs h => by cases h⟩
            | ok y =>
              refine ⟨fun e h => (by cases h), fun xs h ho => ?_⟩
              cases h
              exfalso
              have : Open [⟨x.mark, x.indent, x.words, y⟩] = lastBar x.words := rfl
              rw [this, hbar] at ho; cases ho
      · rw [if_neg hbar, if_neg hbar]
        obtain ⟨i1, i2⟩ := rd_parts Q n t (by omega)
        by_cases hs : says x = true
        · rw [if_pos hs, if_pos hs]
          refine ⟨fun e he => ?_, fun xs hx ho => ?_⟩
          · rw [i1 e (consL_err he)]; rfl
          · obtain ⟨zs, hz, rfl⟩ := consL_ok hx
            rw [i2 zs hz (open_cons _ _ ho), cons_joinL]
        · rw [if_neg hs, if_neg hs]
          exact ⟨i1, i2⟩
/-- LinesParts, as mathematics -/
theorem read_parts (a b : List UInt8) (ha : a = [] ∨ a.getLast? = some 10) :
    (∀ e, read a = .error e → read (a ++ b) = .error e) ∧ (∀ xs, read a = .ok xs → Open xs = false → read (a ++ b) = joinL xs (read b)) := by
  rcases ha with rfl | ha
  · have e0 : ([] : List UInt8) ++ b = b := rfl
    have e1 : read [] = .ok [] := rd_empty
    rw [e0, e1]
    refine ⟨fun e h => (by cases h), fun xs h _ => ?_⟩
    cases h
    cases read b <;> rfl
  · obtain ⟨c, rfl⟩ : ∃ c, a = c ++ [10] := by
      refine ⟨a.dropLast, ?_⟩
      have hne : a ≠ [] := fun e => by subst e; cases ha
      rw [List.getLast?_eq_some_getLast hne] at ha
      rw [← Option.some.inj ha, List.dropLast_concat_getLast]
    have e0 : c ++ [10] ++ b = c ++ 10 :: b := by simp
    rw [e0, read_rd, read_rd, read_rd, pieces_ten, pieces_ten]
    exact rd_parts (pieces b) (pieces c).length (pieces c) (Nat.le_refl _)
end Lx
end Go.Proofs.YtjcfmghijfnehaaGreatDoor
