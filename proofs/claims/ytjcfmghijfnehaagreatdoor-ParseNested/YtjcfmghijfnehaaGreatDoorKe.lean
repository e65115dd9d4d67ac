/-
  Plain mathematics: the lines of two texts with a mark between them; what both tell together.
-/
import Derived.Test.YtjcfmghijfnehaaGreatDoorKd
import Derived.Test.YtjcfmghijfnehaaGreatDoorMp
namespace Go.Proofs.YtjcfmghijfnehaaGreatDoor
namespace Lx
def mark2 : Ln := ⟨2, 0, [], []⟩
def dots : List UInt8 := [46, 46, 46]
theorem dots_line : lineOf dots = .ok mark2 := by kernel_rfl
theorem dots_size (ind : Nat) (Q : List (List UInt8)) : textSize ind (dots :: Q) = 0 := by
  have h : (!blank dots && decide (blanks dots ≤ ind)) = true := by
    have h1 : blank dots = false := by decide
    have h2 : blanks dots = 0 := by decide
    rw [h1, h2]; simp
  unfold textSize
  rw [if_pos h]
theorem joinL_consL (x : Ln) (acc : List Ln) (r : Except Nat (List Ln)) : consL x (joinL acc r) = joinL (x :: acc) r := by
  cases r <;> rfl
theorem rd_dots (Q : List (List UInt8)) : rd (dots :: Q) = consL mark2 (rd Q) := by
  rw [rd_cons, dots_line]
  rfl
/-- what the pieces tell, a mark, and pieces -/
def joined : Except Nat (List Ln) → Except Nat (List Ln) → Except Nat (List Ln)
  | .error e, _ => .error e
  | .ok xs, r => joinL xs (consL mark2 r)
theorem rd_mark (Q : List (List UInt8)) : ∀ (n : Nat) (P : List (List UInt8)), P.length ≤ n → rd (P ++ dots :: Q) = joined (rd P) (rd Q) := by
  intro n
  induction n with
  | zero =>
    intro P h
    have : P = [] := List.length_eq_zero_iff.1 (by omega)
    subst this
    rw [List.nil_append, rd_dots, rd_nil]
    cases rd Q <;> rfl
  | succ n ih =>
    intro P h
    cases P with
    | nil =>
      rw [List.nil_append, rd_dots, rd_nil]
      cases rd Q <;> rfl
    | cons p t =>
      simp only [List.length_cons] at h
      rw [List.cons_append, rd_cons, rd_cons]
      cases lineOf p with
      | error e => rfl
      | ok x =>
        simp only
        by_cases hb : lastBar x.words = true
        · rw [if_pos hb, if_pos hb]
          have h1 := textSize_app x.indent t (dots :: Q)
          rw [dots_size] at h1
          have h2 := textSize_le x.indent t
          have h3 : textSize x.indent (t ++ dots :: Q) = textSize x.indent t := by omega
          rw [h3, List.take_append_of_le_length h2, List.drop_append_of_le_length h2]
          cases textOf (t.take (textSize x.indent t)) with
          | error e => rfl
          | ok y =>
            simp only
            rw [ih _ (by rw [List.length_drop]; omega)]
            cases rd (t.drop (textSize x.indent t)) with
            | error e => rfl
            | ok xs => exact joinL_consL _ _ _
        · rw [if_neg hb, if_neg hb, ih _ (by omega)]
          split
          · cases rd t with
            | error e => rfl
            | ok xs => exact joinL_consL _ _ _
          · rfl
theorem read_mark (a b : List UInt8) : read (a ++ [10, 46, 46, 46, 10] ++ b) = joined (read a) (read b) := by
  have e : a ++ [10, 46, 46, 46, 10] ++ b = a ++ 10 :: (dots ++ 10 :: b) := by simp [dots]
  rw [e, read_rd, pieces_ten, pieces_ten, pieces_one dots (by decide), read_rd, read_rd]
  exact rd_mark _ _ _ (Nat.le_refl _)
end Lx
namespace Px
def cat2 : Except Nat (List Ev.E) → Except Nat (List Ev.E) → Except Nat (List Ev.E)
  | .ok a, .ok b => .ok (a ++ b)
  | .ok _, .error e => .error e
  | .error e, .ok _ => .error e
  | .error e, .error _ => .error e
theorem text_mark (a b : List UInt8) : (∀ x y, text a = .ok x → text b = .ok y → text (a ++ [10, 46, 46, 46, 10] ++ b) = .ok (x ++ y)) ∧ ((∀ x y, ¬ (text a = .ok x ∧ text b = .ok y)) → ∃ e, text (a ++ [10, 46, 46, 46, 10] ++ b) = .error e) := by
  unfold text
  rw [Lx.read_mark]
  cases ha : Lx.read a with
  | error e => exact ⟨fun x y h => (by cases h), fun _ => ⟨e, rfl⟩⟩
  | ok xs =>
    cases hb : Lx.read b with
    | error e => exact ⟨fun x y _ h => (by cases h), fun _ => ⟨e, rfl⟩⟩
    | ok ys =>
      show (∀ x y, events xs = .ok x → events ys = .ok y → events (xs ++ Lx.mark2 :: ys) = .ok (x ++ y)) ∧ ((∀ x y, ¬ (events xs = .ok x ∧ events ys = .ok y)) → ∃ e, events (xs ++ Lx.mark2 :: ys) = .error e)
      rw [events_mark xs ys Lx.mark2 rfl]
      cases events xs with
      | error e => exact ⟨fun x y h => (by cases h), fun _ => ⟨e, rfl⟩⟩
      | ok u =>
        cases events ys with
        | error e => exact ⟨fun x y _ h => (by cases h), fun _ => ⟨e, rfl⟩⟩
        | ok v => exact ⟨fun x y h1 h2 => (by cases h1; cases h2; rfl), fun h => absurd ⟨rfl, rfl⟩ (h u v)⟩
end Px
end Go.Proofs.YtjcfmghijfnehaaGreatDoor
