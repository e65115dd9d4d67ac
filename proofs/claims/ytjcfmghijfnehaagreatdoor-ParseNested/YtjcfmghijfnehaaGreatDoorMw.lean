/-
  Plain mathematics, no program's run in it: what each line of a text is (LinesWords).
-/
import Derived.Test.YtjcfmghijfnehaaGreatDoorLu
namespace Go.Proofs.YtjcfmghijfnehaaGreatDoor
namespace Lx
theorem wordAt_at (l : List UInt8) (k : Nat) (d : Bool) (x : Wd) (z : Nat) (h : wordAt l k d = .ok (x, z)) : x.at_ = k := by
  unfold wordAt at h
  simp only at h
  split at h
  · cases h
  · split at h
    · split at h
      · cases h; rfl
      · cases h
    · cases h
theorem wordsGo_first (l : List UInt8) (n k : Nat) (d : Bool) (x : Wd) (t : List Wd) (h : wordsGo l n k d = .ok (x :: t)) : x.at_ = k := by
  cases n with
  | zero => cases h
  | succ n =>
    unfold wordsGo at h
    split at h
    · cases h
    · split at h
      · cases h
      · rename_i y z hy
        split at h
        · cases h
        · cases h; exact wordAt_at _ _ _ _ _ hy
theorem words_first (l : List UInt8) (x : Wd) (t : List Wd) (h : words l = .ok (x :: t)) : x.at_ = blanks l := by
  unfold words at h
  split at h
  · have := wordsGo_first _ _ _ _ _ _ h
    rw [this]; unfold past; simp
  · cases h
/-- what a line is -/
def Good (x : Ln) : Prop :=
  (x.mark ≠ 0 → (x.mark = 1 ∨ x.mark = 2) ∧ x.words = [] ∧ x.text = [] ∧ x.indent = 0) ∧
  (x.mark = 0 → (∃ y t, x.words = y :: t ∧ y.at_ = x.indent) ∧ (x.text ≠ [] → lastBar x.words = true ∧ x.text.getLast? = some 10))
theorem markOf_le (p : List UInt8) : markOf p = 0 ∨ markOf p = 1 ∨ markOf p = 2 := by
  unfold markOf
  split
  · exact .inr (.inl rfl)
  · split
    · exact .inr (.inr rfl)
    · exact .inl rfl
theorem lineOf_good (p : List UInt8) (x : Ln) (h : lineOf p = .ok x) : x.text = [] ∧ (x.mark ≠ 0 → (x.mark = 1 ∨ x.mark = 2) ∧ x.words = [] ∧ x.indent = 0) ∧ (∀ y t, x.words = y :: t → x.mark = 0 ∧ y.at_ = x.indent) := by
  unfold lineOf at h
  split at h
  · split at h
    · cases h
    · rename_i ws hw
      cases h
      exact ⟨rfl, fun h => absurd rfl h, fun y t ht => ⟨rfl, words_first _ _ _ (by rw [hw]; simp only at ht; rw [ht])⟩⟩
  · cases h
    rename_i hm
    have h12 : markOf p = 1 ∨ markOf p = 2 := by
      rcases markOf_le p with h | h | h
      · exact absurd h hm
      · exact .inl h
      · exact .inr h
    exact ⟨rfl, fun _ => ⟨h12, rfl, rfl⟩, fun y t ht => by cases ht⟩
theorem textGo_last (off : Nat) (ps : List (List UInt8)) : ∀ x, textGo off ps = .ok x → x = [] ∨ x.getLast? = some 10 := by
  induction ps with
  | nil => intro x h; cases h; exact .inl rfl
  | cons p t ih =>
    intro x h
    have key : ∀ (a y : List UInt8), (y = [] ∨ y.getLast? = some 10) → (a ++ 10 :: y).getLast? = some 10 := by
      intro a y hy
      rw [List.getLast?_append]
      cases y with
      | nil => rfl
      | cons b u =>
        rcases hy with hy | hy
        · cases hy
        · rw [List.getLast?_cons_cons, hy]; rfl
    unfold textGo at h
    split at h
    · cases h
    · split at h
      · split at h
        · rename_i y hy; cases h; exact .inr (key [] y (ih y hy))
        · cases h
      · split at h
        · cases h
        · split at h
          · rename_i y hy; cases h; exact .inr (key _ y (ih y hy))
          · cases h
theorem readGo_good : ∀ (n : Nat) (ps : List (List UInt8)) (ls : List Ln), readGo n ps = .ok ls → ∀ x ∈ ls, Good x
  | 0, _, ls, h => by cases h; intro x hx; cases hx
  | n + 1, [], ls, h => by cases h; intro x hx; cases hx
  | n + 1, p :: t, ls, h => by
    have cons : ∀ (y : Ln) (r : Except Nat (List Ln)) (ls : List Ln), consL y r = .ok ls → ∃ zs, r = .ok zs ∧ ls = y :: zs := by
      intro y r ls h
      cases r with
      | error e => cases h
      | ok zs => cases h; exact ⟨zs, rfl, rfl⟩
    unfold readGo at h
    split at h
    · cases h
    · rename_i x hx
      obtain ⟨h1, h2, h3⟩ := lineOf_good p x hx
      split at h
      · rename_i hbar
        split at h
        · cases h
        · rename_i y hy
          obtain ⟨zs, hz, rfl⟩ := cons _ _ _ h
          intro u hu
          rcases List.mem_cons.1 hu with rfl | hu
          · cases hw : x.words with
            | nil => rw [hw] at hbar; cases hbar
            | cons a b =>
              obtain ⟨m0, ma⟩ := h3 a b hw
              refine ⟨fun hm => absurd m0 hm, fun _ => ⟨⟨a, b, rfl, ma⟩, fun hne => ⟨by rw [← hw]; exact hbar, ?_⟩⟩⟩
              rcases textGo_last _ _ _ (by unfold textOf at hy; exact hy) with e | e
              · exact absurd e hne
              · exact e
          · exact readGo_good n _ zs hz u hu
      · split at h
        · rename_i hsay
          obtain ⟨zs, hz, rfl⟩ := cons _ _ _ h
          intro u hu
          rcases List.mem_cons.1 hu with rfl | hu
          · refine ⟨fun hm => ⟨(h2 hm).1, (h2 hm).2.1, h1, (h2 hm).2.2⟩, fun hm => ?_⟩
            cases hw : u.words with
            | nil => exfalso; unfold says at hsay; rw [hw, hm] at hsay; simp at hsay
            | cons a b => exact ⟨⟨a, b, rfl, (h3 a b hw).2⟩, fun hne => absurd h1 hne⟩
          · exact readGo_good n _ zs hz u hu
        · exact readGo_good n _ ls h
theorem read_good (l : List UInt8) (ls : List Ln) (h : read l = .ok ls) : ∀ x ∈ ls, Good x := readGo_good _ _ _ h
theorem readGo_err : ∀ (n : Nat) (ps : List (List UInt8)) (e : Nat), readGo n ps = .error e → e ≠ 0
  | 0, _, _, h => by cases h
  | n + 1, [], _, h => by cases h
  | n + 1, p :: t, e, h => by
    have cons : ∀ (y : Ln) (r : Except Nat (List Ln)) (e : Nat), consL y r = .error e → r = .error e := by
      intro y r e h
      cases r with
      | error f => cases h; rfl
      | ok zs => cases h
    unfold readGo at h
    split at h
    · rename_i he; cases h; exact lineOf_err _ _ he
    · split at h
      · split at h
        · rename_i he; cases h; exact textGo_err _ _ _ (by unfold textOf at he; exact he)
        · exact readGo_err n _ _ (cons _ _ _ h)
      · split at h
        · exact readGo_err n _ _ (cons _ _ _ h)
        · exact readGo_err n _ _ h
theorem read_err (l : List UInt8) (e : Nat) (h : read l = .error e) : e ≠ 0 := readGo_err _ _ _ h

/-! ### how much there is -/
def tot (ps : List (List UInt8)) : Nat := (ps.map fun p => p.length + 1).sum
theorem tot_cons (p : List UInt8) (t : List (List UInt8)) : tot (p :: t) = p.length + 1 + tot t := by simp [tot]
theorem tot_take (ps : List (List UInt8)) : ∀ k, tot (ps.take k) ≤ tot ps := by
  induction ps with
  | nil => intro k; simp
  | cons p t ih =>
    intro k
    cases k with
    | zero => simp [tot]
    | succ k => rw [List.take_succ_cons, tot_cons, tot_cons]; have := ih k; omega
theorem tot_drop (ps : List (List UInt8)) : ∀ k, tot (ps.drop k) ≤ tot ps := by
  induction ps with
  | nil => intro k; simp
  | cons p t ih =>
    intro k
    cases k with
    | zero => simp
    | succ k => rw [List.drop_succ_cons, tot_cons]; have := ih k; omega
theorem tot_pieces (l : List UInt8) : tot (pieces l) = l.length + 1 := by
  induction l with
  | nil => rfl
  | cons b t ih =>
    unfold pieces
    split
    · rw [tot_cons, ih]; simp; omega
    · cases hp : pieces t with
      | nil => exact absurd hp (pieces_ne t)
      | cons p ps =>
        rw [hp, tot_cons] at ih
        simp only [tot_cons, List.length_cons]
        omega
theorem textGo_len (off : Nat) (ps : List (List UInt8)) : ∀ x, textGo off ps = .ok x → x.length ≤ tot ps := by
  induction ps with
  | nil => intro x h; cases h; simp
  | cons p t ih =>
    intro x h
    rw [tot_cons]
    unfold textGo at h
    split at h
    · cases h
    · split at h
      · split at h
        · rename_i y hy; cases h; have := ih y hy; simp only [List.length_cons]; omega
        · cases h
      · split at h
        · cases h
        · split at h
          · rename_i y hy; cases h; have := ih y hy; simp only [List.length_append, List.length_cons, List.length_drop]; omega
          · cases h
theorem wordsGo_len (l : List UInt8) : ∀ (n k : Nat) (d : Bool) (ws : List Wd), wordsGo l n k d = .ok ws → ws.length ≤ n
  | 0, _, _, ws, h => by cases h; simp
  | n + 1, k, d, ws, h => by
    unfold wordsGo at h
    split at h
    · cases h; simp
    · split at h
      · cases h
      · split at h
        · cases h
        · rename_i xs hx; cases h; have := wordsGo_len l n _ _ xs hx; simp only [List.length_cons]; omega
theorem lineOf_len (p : List UInt8) (x : Ln) (h : lineOf p = .ok x) : x.words.length ≤ p.length + 1 := by
  unfold lineOf at h
  split at h
  · split at h
    · cases h
    · rename_i ws hw
      cases h
      unfold words at hw
      split at hw
      · exact wordsGo_len _ _ _ _ _ hw
      · cases hw
  · cases h; simp
/-- how much a line has -/
def Few (N : Nat) (ls : List Ln) : Prop := ls.length ≤ N ∧ ∀ x ∈ ls, x.words.length ≤ N ∧ x.text.length ≤ N
theorem readGo_few : ∀ (n : Nat) (ps : List (List UInt8)) (ls : List Ln), readGo n ps = .ok ls → Few (tot ps) ls
  | 0, _, ls, h => by cases h; exact ⟨by simp, fun x hx => by cases hx⟩
  | n + 1, [], ls, h => by cases h; exact ⟨by simp, fun x hx => by cases hx⟩
  | n + 1, p :: t, ls, h => by
    have cons : ∀ (y : Ln) (r : Except Nat (List Ln)) (ls : List Ln), consL y r = .ok ls → ∃ zs, r = .ok zs ∧ ls = y :: zs := by
      intro y r ls h
      cases r with
      | error e => cases h
      | ok zs => cases h; exact ⟨zs, rfl, rfl⟩
    rw [tot_cons]
    unfold readGo at h
    split at h
    · cases h
    · rename_i x hx
      have hxl := lineOf_len p x hx
      have hxt := (lineOf_text p x hx).1
      split at h
      · split at h
        · cases h
        · rename_i y hy
          obtain ⟨zs, hz, rfl⟩ := cons _ _ _ h
          obtain ⟨i1, i2⟩ := readGo_few n _ zs hz
          have hd := tot_drop t (textSize x.indent t)
          have hyl := textGo_len _ _ _ (by unfold textOf at hy; exact hy)
          have ht1 := tot_take (t.take (textSize x.indent t)) (withoutTail (t.take (textSize x.indent t)))
          have ht2 := tot_take t (textSize x.indent t)
          refine ⟨by simp only [List.length_cons]; omega, fun u hu => ?_⟩
          rcases List.mem_cons.1 hu with rfl | hu
          · exact ⟨by simp only; omega, by simp only; omega⟩
          · have := i2 u hu; omega
      · split at h
        · obtain ⟨zs, hz, rfl⟩ := cons _ _ _ h
          obtain ⟨i1, i2⟩ := readGo_few n _ zs hz
          refine ⟨by simp only [List.length_cons]; omega, fun u hu => ?_⟩
          rcases List.mem_cons.1 hu with rfl | hu
          · exact ⟨by omega, by rw [hxt]; simp⟩
          · have := i2 u hu; omega
        · obtain ⟨i1, i2⟩ := readGo_few n _ ls h
          exact ⟨by omega, fun u hu => by have := i2 u hu; omega⟩
theorem read_few (l : List UInt8) (ls : List Ln) (h : read l = .ok ls) : Few (l.length + 1) ls := by
  have := readGo_few _ _ _ h
  rwa [tot_pieces] at this
end Lx
end Go.Proofs.YtjcfmghijfnehaaGreatDoor
