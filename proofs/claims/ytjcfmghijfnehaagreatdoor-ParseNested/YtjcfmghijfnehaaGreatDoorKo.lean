/-
  Plain mathematics: the pieces of a text, as the document tells them; texts without marks; a text whose lines are moved to the right tells the same.
-/
import Derived.Test.YtjcfmghijfnehaaGreatDoorKn
import Derived.Test.YtjcfmghijfnehaaGreatDoorKi
namespace Go.Proofs.YtjcfmghijfnehaaGreatDoor
namespace Lx
/-- the pieces, the last one not, if it is empty -/
def spGo : List UInt8 → List UInt8 → List (List UInt8)
  | p, [] => if p.isEmpty then [] else [p]
  | p, b :: t => if b = 10 then p :: spGo [] t else spGo (p ++ [b]) t
def sp (l : List UInt8) : List (List UInt8) := spGo [] l
theorem spGo_pieces (l : List UInt8) : ∀ p, ∃ e, (e = [] ∨ e = [[]]) ∧ spGo p l ++ e = match pieces l with
    | [] => []
    | q :: qs => (p ++ q) :: qs := by
  induction l with
  | nil =>
    intro p
    cases p with
    | nil => exact ⟨[[]], .inr rfl, rfl⟩
    | cons b t => exact ⟨[], .inl rfl, by simp [spGo, pieces]⟩
  | cons b t ih =>
    intro p
    unfold spGo pieces
    by_cases hb : b = 10
    · rw [if_pos hb, if_pos hb]
      obtain ⟨e, he, h⟩ := ih []
      refine ⟨e, he, ?_⟩
      simp only [List.append_nil, List.cons_append]
      rw [h]
      cases hp : pieces t with
      | nil => exact absurd hp (pieces_ne t)
      | cons q qs => simp
    · rw [if_neg hb, if_neg hb]
      obtain ⟨e, he, h⟩ := ih (p ++ [b])
      refine ⟨e, he, ?_⟩
      rw [h]
      cases hp : pieces t with
      | nil => exact absurd hp (pieces_ne t)
      | cons q qs => simp
theorem sp_pieces (l : List UInt8) : ∃ e, (e = [] ∨ e = [[]]) ∧ pieces l = sp l ++ e := by
  obtain ⟨e, he, h⟩ := spGo_pieces l []
  refine ⟨e, he, ?_⟩
  unfold sp
  rw [h]
  cases hp : pieces l with
  | nil => exact absurd hp (pieces_ne l)
  | cons q qs => rfl
theorem sp_read (l : List UInt8) : read l = rd (sp l) := by
  obtain ⟨e, he, h⟩ := sp_pieces l
  rw [read_rd, h]
  rcases he with rfl | rfl
  · rw [List.append_nil]
  · exact rd_snoc_nil _ _ (Nat.le_refl _)
theorem spGo_no10 (l : List UInt8) : ∀ p, (∀ b ∈ p, b ≠ 10) → ∀ q ∈ spGo p l, ∀ b ∈ q, b ≠ 10 := by
  induction l with
  | nil =>
    intro p hp q hq
    unfold spGo at hq
    split at hq
    · cases hq
    · rcases List.mem_cons.1 hq with rfl | hq
      · exact hp
      · cases hq
  | cons b t ih =>
    intro p hp q hq
    unfold spGo at hq
    split at hq
    · rcases List.mem_cons.1 hq with rfl | hq
      · exact hp
      · exact ih [] (fun b hb => by cases hb) q hq
    · rename_i hb
      refine ih (p ++ [b]) (fun c hc => ?_) q hq
      rcases List.mem_append.1 hc with hc | hc
      · exact hp c hc
      · rcases List.mem_cons.1 hc with rfl | hc
        · exact hb
        · cases hc
theorem sp_no10 (l : List UInt8) : ∀ q ∈ sp l, ∀ b ∈ q, b ≠ 10 := spGo_no10 l [] fun b hb => by cases hb
theorem spGo_tot (l : List UInt8) : ∀ p, ((spGo p l).map fun q => q.length + 1).sum ≤ p.length + l.length + 1 := by
  induction l with
  | nil => intro p; unfold spGo; split <;> simp
  | cons b t ih =>
    intro p
    unfold spGo
    split
    · have := ih []
      simp only [List.map_cons, List.sum_cons, List.length_cons, List.length_nil] at *; omega
    · have := ih (p ++ [b])
      simp only [List.length_append, List.length_cons, List.length_nil] at *; omega
theorem sp_tot (l : List UInt8) : ((sp l).map fun q => q.length + 1).sum ≤ l.length + 1 := by
  have := spGo_tot l []
  simpa [sp] using this
/-- lines that are moved, one behind the other -/
def moved (n : Nat) (Q : List (List UInt8)) : List UInt8 := Q.flatMap fun p => rp n p ++ [10]
theorem rp_no10 (n : Nat) (p : List UInt8) (h : ∀ b ∈ p, b ≠ 10) : ∀ b ∈ rp n p, b ≠ 10 := by
  induction n with
  | zero => exact h
  | succ n ih =>
    intro b hb
    rw [rp_succ] at hb
    rcases List.mem_cons.1 hb with rfl | hb
    · decide
    · exact ih b hb
theorem moved_pieces (n : Nat) (Q : List (List UInt8)) (h : ∀ q ∈ Q, ∀ b ∈ q, b ≠ 10) : pieces (moved n Q) = Q.map (rp n) ++ [[]] := by
  induction Q with
  | nil => rfl
  | cons q t ih =>
    have e : moved n (q :: t) = rp n q ++ 10 :: moved n t := by unfold moved; rw [List.flatMap_cons]; simp
    rw [e, pieces_ten, pieces_one _ (rp_no10 n q (h q (List.mem_cons_self ..))), ih fun x hx => h x (List.mem_cons_of_mem _ hx)]
    rfl
theorem moved_read (n : Nat) (Q : List (List UInt8)) (h : ∀ q ∈ Q, ∀ b ∈ q, b ≠ 10) : read (moved n Q) = rd (Q.map (rp n)) := by
  rw [read_rd, moved_pieces n Q h]
  exact rd_snoc_nil _ _ (Nat.le_refl _)
theorem moved_len (n : Nat) (Q : List (List UInt8)) : (moved n Q).length ≤ (n + 1) * (Q.map fun q => q.length + 1).sum := by
  induction Q with
  | nil => simp [moved]
  | cons q t ih =>
    have e : moved n (q :: t) = rp n q ++ 10 :: moved n t := by unfold moved; rw [List.flatMap_cons]; simp
    rw [e, List.length_append, List.length_cons, rp_len, List.map_cons, List.sum_cons, Nat.mul_add]
    have : n + q.length + 1 ≤ (n + 1) * (q.length + 1) := by
      rw [Nat.add_mul, Nat.mul_add]; omega
    omega
theorem moved_snoc (n : Nat) (Q : List (List UInt8)) (q : List UInt8) : moved n (Q ++ [q]) = moved n Q ++ (rp n q ++ [10]) := by
  unfold moved
  rw [List.flatMap_append]; simp
/-! marks -/
theorem index_some (s sub : List UInt8) : ∀ k, sub.isPrefixOf (s.drop k) = true → k < s.length → 0 ≤ Lib.index s sub := by
  induction s with
  | nil => intro k _ h; simp at h
  | cons x t ih =>
    intro k hk hl
    have st : Lib.index (x :: t) sub = if List.isPrefixOf sub (x :: t) then 0 else if Lib.index t sub == -1 then -1 else Lib.index t sub + 1 := rfl
    rw [st]
    split
    · omega
    · rename_i hn
      cases k with
      | zero => exact absurd hk hn
      | succ k =>
        have := ih k hk (by simpa using hl)
        rw [if_neg (by simp; omega)]
        omega
/-- where a piece stands: behind a break -/
theorem piece_at (l : List UInt8) : ∀ q ∈ pieces l, ∃ k rest, (10 :: l).drop k = 10 :: (q ++ rest) := by
  have key : ∀ l : List UInt8, (∃ q qs rest, pieces l = q :: qs ∧ l = q ++ rest) ∧ ∀ q ∈ (pieces l).tail, ∃ k rest, l.drop k = 10 :: (q ++ rest) := by
    intro l
    induction l with
    | nil => exact ⟨⟨[], [], [], rfl, rfl⟩, fun q hq => by cases hq⟩
    | cons b t ih =>
      obtain ⟨⟨q, qs, rest, h1, h2⟩, h3⟩ := ih
      unfold pieces
      rw [h1]
      by_cases hb : b = 10
      · rw [if_pos hb]
        refine ⟨⟨[], q :: qs, b :: t, rfl, rfl⟩, fun p hp => ?_⟩
        have hp : p ∈ q :: qs := hp
        rcases List.mem_cons.1 hp with rfl | hp
        · exact ⟨0, rest, by rw [hb]; show 10 :: t = _; rw [h2]⟩
        · obtain ⟨k, r, hk⟩ := h3 p (by rw [h1]; exact hp)
          exact ⟨k + 1, r, by simpa using hk⟩
      · rw [if_neg hb]
        refine ⟨⟨b :: q, qs, rest, rfl, by rw [h2]; rfl⟩, fun p hp => ?_⟩
        obtain ⟨k, r, hk⟩ := h3 p (by rw [h1]; exact hp)
        exact ⟨k + 1, r, by simpa using hk⟩
  intro q hq
  obtain ⟨⟨p, ps, rest, h1, h2⟩, h3⟩ := key l
  rw [h1] at hq h3
  rcases List.mem_cons.1 hq with rfl | hq
  · exact ⟨0, rest, by rw [List.drop_zero, h2]⟩
  · obtain ⟨k, r, hk⟩ := h3 q hq
    exact ⟨k + 1, r, by simpa using hk⟩
theorem no_mark (l : List UInt8) (h1 : Lib.contains (10 :: l) [10, 45, 45, 45] = false) (h2 : Lib.contains (10 :: l) [10, 46, 46, 46] = false) : ∀ q ∈ pieces l, markOf q = 0 := by
  intro q hq
  obtain ⟨k, rest, hk⟩ := piece_at l q hq
  have hlt : k < (10 :: l).length := by
    rcases Nat.lt_or_ge k (10 :: l).length with h | h
    · exact h
    · rw [List.drop_of_length_le h] at hk; cases hk
  have no : ∀ c : UInt8, Lib.contains (10 :: l) [10, c, c, c] = false → Lib.hasPrefix q [c, c, c] = false := by
    intro c hc
    cases hp : Lib.hasPrefix q [c, c, c] with
    | false => rfl
    | true =>
      exfalso
      unfold Lib.hasPrefix at hp
      rw [List.isPrefixOf_iff_prefix] at hp
      obtain ⟨r, rfl⟩ := hp
      have := index_some (10 :: l) [10, c, c, c] k (by rw [hk, List.isPrefixOf_iff_prefix]; exact ⟨r ++ rest, by simp⟩) hlt
      unfold Lib.contains at hc
      simp at hc; omega
  have n1 := no 45 h1
  have n2 := no 46 h2
  unfold markOf isMark
  rw [n1, n2]
  simp
theorem rd_marks : ∀ (m : Nat) (Q : List (List UInt8)) (ls : List Ln), Q.length ≤ m → (∀ p ∈ Q, markOf p = 0) → rd Q = .ok ls → ∀ x ∈ ls, x.mark = 0
  | _, [], ls, _, _, h => by cases h; intro x hx; cases hx
  | 0, _ :: _, _, h, _, _ => by simp at h
  | m + 1, p :: t, ls, hm, hQ, h => by
    simp only [List.length_cons] at hm
    have ht : ∀ q ∈ t, markOf q = 0 := fun q hq => hQ q (List.mem_cons_of_mem _ hq)
    have cons : ∀ (y : Ln) (r : Except Nat (List Ln)) (ls : List Ln), consL y r = .ok ls → ∃ zs, r = .ok zs ∧ ls = y :: zs := by
      intro y r ls h
      cases r with
      | error e => cases h
      | ok zs => cases h; exact ⟨zs, rfl, rfl⟩
    rw [rd_cons] at h
    cases hl : lineOf p with
    | error e => rw [hl] at h; cases h
    | ok x =>
      rw [hl] at h
      have hx : x.mark = 0 := by
        unfold lineOf at hl
        rw [if_pos (hQ p (List.mem_cons_self ..))] at hl
        split at hl
        · cases hl
        · cases hl; rfl
      simp only at h
      split at h
      · split at h
        · cases h
        · obtain ⟨zs, hz, rfl⟩ := cons _ _ _ h
          intro y hy
          rcases List.mem_cons.1 hy with rfl | hy
          · exact hx
          · exact rd_marks m _ zs (by rw [List.length_drop]; omega) (fun q hq => ht q (List.mem_of_mem_drop hq)) hz y hy
      · split at h
        · obtain ⟨zs, hz, rfl⟩ := cons _ _ _ h
          intro y hy
          rcases List.mem_cons.1 hy with rfl | hy
          · exact hx
          · exact rd_marks m t zs (by omega) ht hz y hy
        · exact rd_marks m t ls (by omega) ht h
end Lx
namespace Px
theorem text_shift (n : Nat) (l : List UInt8) (h1 : Lib.contains (10 :: l) [10, 45, 45, 45] = false) (h2 : Lib.contains (10 :: l) [10, 46, 46, 46] = false)
    (h3 : Lib.contains (10 :: Lx.moved n (Lx.sp l)) [10, 45, 45, 45] = false) (h4 : Lib.contains (10 :: Lx.moved n (Lx.sp l)) [10, 46, 46, 46] = false) : text (Lx.moved n (Lx.sp l)) = text l := by
  have m1 := Lx.no_mark l h1 h2
  have m2 := Lx.no_mark _ h3 h4
  rw [Lx.moved_pieces n _ (Lx.sp_no10 l)] at m2
  obtain ⟨e, he, hp⟩ := Lx.sp_pieces l
  have q1 : ∀ p ∈ Lx.sp l, Lx.markOf p = 0 := fun p hq => m1 p (by rw [hp]; exact List.mem_append_left _ hq)
  have q2 : ∀ p ∈ Lx.sp l, Lx.markOf p = 0 ∧ Lx.markOf (Lx.rp n p) = 0 := fun p hq => ⟨q1 p hq, m2 _ (List.mem_append_left _ (List.mem_map_of_mem hq))⟩
  unfold text
  rw [Lx.moved_read n _ (Lx.sp_no10 l), Lx.sp_read, Lx.rp_rd n _ _ (Nat.le_refl _) q2]
  cases hr : Lx.rd (Lx.sp l) with
  | error e => rfl
  | ok ls => exact events_shift n ls (Lx.rd_marks _ _ ls (Nat.le_refl _) q1 hr)
end Px
end Go.Proofs.YtjcfmghijfnehaaGreatDoor
