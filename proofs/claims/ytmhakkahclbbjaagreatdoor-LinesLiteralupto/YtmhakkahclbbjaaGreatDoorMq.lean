/-
  Plain mathematics, no program's run in it: pieces that say nothing (LinesBlanks), and what stands below a bar (LinesLiteral).
-/
import Derived.Test.YtmhakkahclbbjaaGreatDoorMp
import Derived.Lib.Repeat
namespace Go.Proofs.YtmhakkahclbbjaaGreatDoor
namespace Lx
/-- texts, a byte 10 behind each -/
def flat (l : List (List UInt8)) : List UInt8 := l.flatMap (· ++ [10])
theorem flat_nil : flat [] = [] := rfl
theorem flat_cons (p : List UInt8) (l : List (List UInt8)) : flat (p :: l) = p ++ 10 :: flat l := by simp [flat]
theorem flat_app (a b : List (List UInt8)) : flat (a ++ b) = flat a ++ flat b := by simp [flat]
theorem flat_snoc (a : List (List UInt8)) (p : List UInt8) : flat (a ++ [p]) = flat a ++ (p ++ [10]) := by rw [flat_app, flat_cons, flat_nil]
/-- no byte 10 -/
def No10 (l : List (List UInt8)) : Prop := ∀ p ∈ l, ∀ b ∈ p, b ≠ 10
theorem pieces_flat (l : List (List UInt8)) (h : No10 l) (t : List UInt8) : pieces (flat l ++ t) = l ++ pieces t := by
  induction l with
  | nil => rfl
  | cons p r ih =>
    have e : flat (p :: r) ++ t = p ++ 10 :: (flat r ++ t) := by rw [flat_cons]; simp
    rw [e, pieces_ten, pieces_one p (h p (List.mem_cons_self ..)), ih (fun q hq => h q (List.mem_cons_of_mem _ hq))]
    rfl
theorem ite_ne {c : Prop} [Decidable c] {a b n : Nat} (h : (if c then a else b) = n) (ha : a ≠ n) : b = n := by
  by_cases hc : c
  · rw [if_pos hc] at h; exact absurd h ha
  · rw [if_neg hc] at h; exact h
theorem kind_bar (r : List UInt8) (d : Bool) (h : kindOf r d = 13) : isB (r.getD 0 0) 124 = true := by
  unfold kindOf at h
  dsimp only at h
  iterate 12 (replace h := ite_ne h (by decide))
  by_cases hb : bar r = true
  · unfold bar at hb
    exact (Bool.and_eq_true_iff.1 hb).1
  · rw [if_neg hb] at h; exact absurd h (by decide)
theorem isB_mem (l : List UInt8) (k : Nat) (h : isB (l.getD k 0) 124 = true) : (124 : UInt8) ∈ l := by
  rcases Nat.lt_or_ge k l.length with hk | hk
  · rw [List.getD_eq_getElem?_getD, List.getElem?_eq_getElem hk] at h
    simp only [Option.getD_some] at h
    have h2 : l[k] = 124 := Sc.u8_eq 124 (by unfold isB at h; have := beq_iff_eq.1 h; omega)
    rw [← h2]; exact List.getElem_mem hk
  · rw [List.getD_eq_getElem?_getD, List.getElem?_eq_none hk] at h
    exact absurd h (by decide)
theorem wordsGo_bar (l : List UInt8) : ∀ (n k : Nat) (d : Bool) (ws : List Wd), wordsGo l n k d = .ok ws → ∀ x ∈ ws, x.kind = 13 → (124 : UInt8) ∈ l
  | 0, _, _, ws, h => by cases h; intro x hx; cases hx
  | n + 1, k, d, ws, h => by
    unfold wordsGo at h
    split at h
    · cases h; intro x hx; cases hx
    · split at h
      · cases h
      · rename_i y z hy
        split at h
        · cases h
        · rename_i xs hxs
          cases h
          intro x hx hk
          rcases List.mem_cons.1 hx with rfl | hx
          · have e : x.kind = kindOf (l.drop k) d := by
              unfold wordAt at hy
              simp only at hy
              split at hy
              · cases hy
              · split at hy
                · split at hy
                  · cases hy; rfl
                  · cases hy
                · cases hy
            have hb := kind_bar (l.drop k) d (e.symm.trans hk)
            rw [List.getD_eq_getElem?_getD, List.getElem?_drop, ← List.getD_eq_getElem?_getD] at hb
            exact isB_mem l _ hb
          · exact wordsGo_bar l n _ _ xs hxs x hx hk
theorem words_bar (l : List UInt8) (ws : List Wd) (h : words l = .ok ws) : ∀ x ∈ ws, x.kind = 13 → (124 : UInt8) ∈ l := by
  unfold words at h
  split at h
  · exact wordsGo_bar _ _ _ _ _ h
  · cases h
/-- no line has a bar -/
def NoBar (P : List (List UInt8)) : Prop := ∀ p ∈ P, ∀ x, lineOf p = .ok x → lastBar x.words = false
theorem noBar_of (P : List (List UInt8)) (h : ∀ p ∈ P, (124 : UInt8) ∉ p) : NoBar P := by
  intro p hp x hx
  unfold lineOf at hx
  split at hx
  · split at hx
    · cases hx
    · rename_i ws hw
      cases hx
      show lastBar ws = false
      unfold lastBar
      split
      · rename_i y hy
        exact decide_eq_false fun hk => h p hp (words_bar p ws hw y (List.mem_of_getLast? hy) hk)
      · rfl
  · cases hx; rfl
def thenL : Except Nat (List Ln) → Except Nat (List Ln) → Except Nat (List Ln)
  | .ok xs, r => joinL xs r
  | .error e, _ => .error e
theorem consL_thenL (x : Ln) (a b : Except Nat (List Ln)) : consL x (thenL a b) = thenL (consL x a) b := by
  cases a with
  | error e => rfl
  | ok xs => cases b <;> rfl
theorem rd_app (P Q : List (List UInt8)) (h : NoBar P) : rd (P ++ Q) = thenL (rd P) (rd Q) := by
  induction P with
  | nil => show rd Q = joinL [] (rd Q); cases rd Q <;> rfl
  | cons p t ih =>
    have e : (p :: t) ++ Q = p :: (t ++ Q) := rfl
    have ih := ih (fun q hq => h q (List.mem_cons_of_mem _ hq))
    rw [e, rd_cons, rd_cons]
    cases hl : lineOf p with
    | error f => rfl
    | ok x =>
      have hb := h p (List.mem_cons_self ..) x hl
      simp only
      have hb' : ¬ lastBar x.words = true := by rw [hb]; decide
      rw [if_neg hb', if_neg hb']
      by_cases hs : says x = true
      · rw [if_pos hs, if_pos hs, ih, consL_thenL]
      · rw [if_neg hs, if_neg hs, ih]
theorem rd_skip (p : List UInt8) (i : Nat) (Q : List (List UInt8)) (h : lineOf p = .ok ⟨0, i, [], []⟩) : rd (p :: Q) = rd Q := by
  rw [rd_cons, h]; rfl
def nothingL : List UInt8 := [32, 35, 32, 110, 111, 116, 104, 105, 110, 103]
theorem line_nothing : lineOf nothingL = .ok ⟨0, 1, [], []⟩ := by kernel_rfl
theorem line_blank (n : Nat) (h : n < 9) : lineOf (Lib.repeatL [32] n) = .ok ⟨0, n, [], []⟩ := by
  match n, h with
  | 0, _ => exact (show lineOf (Lib.repeatL [32] 0) = .ok ⟨0, 0, [], []⟩ from by kernel_rfl)
  | 1, _ => exact (show lineOf (Lib.repeatL [32] 1) = .ok ⟨0, 1, [], []⟩ from by kernel_rfl)
  | 2, _ => exact (show lineOf (Lib.repeatL [32] 2) = .ok ⟨0, 2, [], []⟩ from by kernel_rfl)
  | 3, _ => exact (show lineOf (Lib.repeatL [32] 3) = .ok ⟨0, 3, [], []⟩ from by kernel_rfl)
  | 4, _ => exact (show lineOf (Lib.repeatL [32] 4) = .ok ⟨0, 4, [], []⟩ from by kernel_rfl)
  | 5, _ => exact (show lineOf (Lib.repeatL [32] 5) = .ok ⟨0, 5, [], []⟩ from by kernel_rfl)
  | 6, _ => exact (show lineOf (Lib.repeatL [32] 6) = .ok ⟨0, 6, [], []⟩ from by kernel_rfl)
  | 7, _ => exact (show lineOf (Lib.repeatL [32] 7) = .ok ⟨0, 7, [], []⟩ from by kernel_rfl)
  | 8, _ => exact (show lineOf (Lib.repeatL [32] 8) = .ok ⟨0, 8, [], []⟩ from by kernel_rfl)
theorem rep_ne (n : Nat) : ∀ b ∈ Lib.repeatL [32] n, b = 32 := by
  induction n with
  | zero => intro b hb; cases hb
  | succ n ih =>
    intro b hb
    have e : Lib.repeatL [32] (n + 1) = 32 :: Lib.repeatL [32] n := rfl
    rw [e] at hb
    rcases List.mem_cons.1 hb with rfl | hb
    · rfl
    · exact ih b hb
/-- LinesBlanks, as mathematics -/
theorem read_blanks (l : List (List UInt8)) (k n : Nat) (hn : n < 9) (h10 : No10 l) (hbar : ∀ p ∈ l, (124 : UInt8) ∉ p) :
    read (flat (l.take k) ++ (Lib.repeatL [32] n ++ 10 :: (nothingL ++ 10 :: flat (l.drop k)))) = read (flat l) := by
  have h1 : No10 (l.take k) := fun p hp => h10 p (List.mem_of_mem_take hp)
  have h2 : No10 (l.drop k) := fun p hp => h10 p (List.mem_of_mem_drop hp)
  have e1 : pieces (Lib.repeatL [32] n ++ 10 :: (nothingL ++ 10 :: flat (l.drop k))) = Lib.repeatL [32] n :: nothingL :: (l.drop k ++ [[]]) := by
    rw [pieces_ten, pieces_ten, pieces_one _ (fun b hb e => by rw [rep_ne n b hb] at e; cases e), pieces_one nothingL (by decide)]
    have := pieces_flat (l.drop k) h2 []
    rw [List.append_nil] at this
    rw [this]; rfl
  have e2 : pieces (flat l) = l ++ [[]] := by
    have := pieces_flat l h10 []
    rw [List.append_nil] at this
    rw [this]; rfl
  rw [read_rd, read_rd, pieces_flat _ h1, e1, e2]
  have hA : NoBar (l.take k) := noBar_of _ fun p hp => hbar p (List.mem_of_mem_take hp)
  rw [rd_app _ _ hA, rd_skip _ n _ (line_blank n hn), rd_skip _ 1 _ line_nothing, ← rd_app _ _ hA, ← List.append_assoc, List.take_append_drop]

/-! ### below a bar -/
def barL : List UInt8 := [97, 58, 32, 124]
def endL : List UInt8 := [98, 58, 32, 99]
theorem line_bar (i : Nat) (h : i < 6) : lineOf (Lib.repeatL [32] i ++ barL) = .ok ⟨0, i, [⟨0, [97], i⟩, ⟨11, [], i + 1⟩, ⟨13, [], i + 3⟩], []⟩ := by
  match i, h with
  | 0, _ => exact (show lineOf (Lib.repeatL [32] 0 ++ barL) = .ok ⟨0, 0, [⟨0, [97], 0⟩, ⟨11, [], 1⟩, ⟨13, [], 3⟩], []⟩ from by kernel_rfl)
  | 1, _ => exact (show lineOf (Lib.repeatL [32] 1 ++ barL) = .ok ⟨0, 1, [⟨0, [97], 1⟩, ⟨11, [], 2⟩, ⟨13, [], 4⟩], []⟩ from by kernel_rfl)
  | 2, _ => exact (show lineOf (Lib.repeatL [32] 2 ++ barL) = .ok ⟨0, 2, [⟨0, [97], 2⟩, ⟨11, [], 3⟩, ⟨13, [], 5⟩], []⟩ from by kernel_rfl)
  | 3, _ => exact (show lineOf (Lib.repeatL [32] 3 ++ barL) = .ok ⟨0, 3, [⟨0, [97], 3⟩, ⟨11, [], 4⟩, ⟨13, [], 6⟩], []⟩ from by kernel_rfl)
  | 4, _ => exact (show lineOf (Lib.repeatL [32] 4 ++ barL) = .ok ⟨0, 4, [⟨0, [97], 4⟩, ⟨11, [], 5⟩, ⟨13, [], 7⟩], []⟩ from by kernel_rfl)
  | 5, _ => exact (show lineOf (Lib.repeatL [32] 5 ++ barL) = .ok ⟨0, 5, [⟨0, [97], 5⟩, ⟨11, [], 6⟩, ⟨13, [], 8⟩], []⟩ from by kernel_rfl)
theorem line_end (i : Nat) (h : i < 6) : lineOf (Lib.repeatL [32] i ++ endL) = .ok ⟨0, i, [⟨0, [98], i⟩, ⟨11, [], i + 1⟩, ⟨0, [99], i + 3⟩], []⟩ := by
  match i, h with
  | 0, _ => exact (show lineOf (Lib.repeatL [32] 0 ++ endL) = .ok ⟨0, 0, [⟨0, [98], 0⟩, ⟨11, [], 1⟩, ⟨0, [99], 3⟩], []⟩ from by kernel_rfl)
  | 1, _ => exact (show lineOf (Lib.repeatL [32] 1 ++ endL) = .ok ⟨0, 1, [⟨0, [98], 1⟩, ⟨11, [], 2⟩, ⟨0, [99], 4⟩], []⟩ from by kernel_rfl)
  | 2, _ => exact (show lineOf (Lib.repeatL [32] 2 ++ endL) = .ok ⟨0, 2, [⟨0, [98], 2⟩, ⟨11, [], 3⟩, ⟨0, [99], 5⟩], []⟩ from by kernel_rfl)
  | 3, _ => exact (show lineOf (Lib.repeatL [32] 3 ++ endL) = .ok ⟨0, 3, [⟨0, [98], 3⟩, ⟨11, [], 4⟩, ⟨0, [99], 6⟩], []⟩ from by kernel_rfl)
  | 4, _ => exact (show lineOf (Lib.repeatL [32] 4 ++ endL) = .ok ⟨0, 4, [⟨0, [98], 4⟩, ⟨11, [], 5⟩, ⟨0, [99], 7⟩], []⟩ from by kernel_rfl)
  | 5, _ => exact (show lineOf (Lib.repeatL [32] 5 ++ endL) = .ok ⟨0, 5, [⟨0, [98], 5⟩, ⟨11, [], 6⟩, ⟨0, [99], 8⟩], []⟩ from by kernel_rfl)
theorem blanks_repm (n : Nat) (l : List UInt8) : blanks (Lib.repeatL [32] n ++ l) = n + blanks l := by
  induction n with
  | zero => simp [Lib.repeatL]
  | succ n ih =>
    have e : Lib.repeatL [32] (n + 1) ++ l = 32 :: (Lib.repeatL [32] n ++ l) := rfl
    rw [e]
    have : blanks (32 :: (Lib.repeatL [32] n ++ l)) = blanks (Lib.repeatL [32] n ++ l) + 1 := rfl
    rw [this, ih]; omega
theorem rep_len (n : Nat) : (Lib.repeatL [32] n).length = n := by rw [Lib.repeatL_length]; simp
theorem rep_drop (n : Nat) (l : List UInt8) : (Lib.repeatL [32] n ++ l).drop n = l := by
  rw [List.drop_append_of_le_length (by rw [rep_len]; exact Nat.le_refl _), List.drop_of_length_le (by rw [rep_len]; exact Nat.le_refl _)]; rfl
/-- a text that begins with no blank -/
def Firm (s : List UInt8) : Prop := ∃ b t, s = b :: t ∧ b ≠ 32
theorem firm_blanks (s : List UInt8) (h : Firm s) : blanks s = 0 ∧ 0 < s.length := by
  obtain ⟨b, t, rfl, hb⟩ := h
  refine ⟨?_, by simp⟩
  have e : isB b 32 = false := by
    unfold isB
    exact beq_eq_false_iff_ne.2 fun h => hb (Sc.u8_eq 32 (by omega))
  show (if isB b 32 then blanks t + 1 else 0) = 0
  rw [e]; rfl
theorem firm_at (n : Nat) (s : List UInt8) (h : Firm s) : blanks (Lib.repeatL [32] n ++ s) = n ∧ blank (Lib.repeatL [32] n ++ s) = false := by
  obtain ⟨h1, h2⟩ := firm_blanks s h
  have e : blanks (Lib.repeatL [32] n ++ s) = n := by rw [blanks_repm, h1]; rfl
  refine ⟨e, ?_⟩
  unfold blank
  rw [e, List.length_append, rep_len]
  exact beq_eq_false_iff_ne.2 (by omega)
theorem right_rep (n : Nat) (s : List UInt8) (h : isLine s = true) : right (Lib.repeatL [32] n ++ s) = true := by
  unfold isLine at h
  obtain ⟨hv, ha⟩ := Bool.and_eq_true_iff.1 h
  have ha' : (Sc.rns s).all (fun r => Sc.mayB r) = true := by
    rw [List.all_eq_true] at ha ⊢
    intro r hr
    have := ha r hr
    unfold lineR at this
    exact (Bool.and_eq_true_iff.1 this).2
  induction n with
  | zero => show right s = true; unfold right; rw [hv, ha']; rfl
  | succ n ih =>
    have e : Lib.repeatL [32] (n + 1) ++ s = Sc.enc 32 ++ (Lib.repeatL [32] n ++ s) := by rw [Sc.enc1 32 (by omega)]; rfl
    have hc : Sc.isCh 32 := .inl (by omega)
    unfold right at ih ⊢
    rw [e, Sc.valid_enc _ _ hc, Sc.rns_enc _ _ hc]
    obtain ⟨i1, i2⟩ := Bool.and_eq_true_iff.1 ih
    rw [i1, List.all_cons, i2]; rfl
theorem textGo_firm (m : Nat) (l : List (List UInt8)) (hf : ∀ s ∈ l, Firm s ∧ isLine s = true) : textGo m (l.map (Lib.repeatL [32] m ++ ·)) = .ok (flat l) := by
  induction l with
  | nil => rfl
  | cons s t ih =>
    obtain ⟨h1, h2⟩ := hf s (List.mem_cons_self ..)
    obtain ⟨h3, h4⟩ := firm_at m s h1
    have ih := ih (fun q hq => hf q (List.mem_cons_of_mem _ hq))
    rw [List.map_cons]
    unfold textGo
    rw [right_rep m s h2, if_neg (by decide), h4, if_neg (by decide), h3, if_neg (by omega), ih, rep_drop, flat_cons]
theorem tailGo_blank (ps : List (List UInt8)) (n : Nat) (h : blank (ps.getD n []) = true) : tailGo ps (n + 1) = tailGo ps n := by
  rw [tailGo, if_pos h]
theorem tailGo_firm (ps : List (List UInt8)) (n : Nat) (h : blank (ps.getD n []) = false) : tailGo ps (n + 1) = n + 1 := by
  rw [tailGo, if_neg (by rw [h]; decide)]
theorem textOf_firm (m : Nat) (l : List (List UInt8)) (hf : ∀ s ∈ l, Firm s ∧ isLine s = true) : textOf (l.map (Lib.repeatL [32] m ++ ·) ++ [[], []]) = .ok (flat l) := by
  obtain ⟨L, hL⟩ : ∃ L, l.map (Lib.repeatL [32] m ++ ·) = L := ⟨_, rfl⟩
  have hLl : L.length = l.length := by rw [← hL, List.length_map]
  rw [hL]
  have hw : withoutTail (L ++ [[], []]) = L.length := by
    unfold withoutTail
    rw [List.length_append]
    show tailGo _ (L.length + 1 + 1) = _
    rw [tailGo_blank _ _ (by rw [List.getD_eq_getElem?_getD, List.getElem?_append_right (by omega)]; simp; rfl), tailGo_blank _ _ (by rw [List.getD_eq_getElem?_getD, List.getElem?_append_right (by omega)]; simp; rfl)]
    rcases Nat.eq_zero_or_pos L.length with h0 | h0
    · rw [h0]; rfl
    · obtain ⟨n, hn⟩ : ∃ n, L.length = n + 1 := ⟨L.length - 1, by omega⟩
      rw [hn]
      refine tailGo_firm _ _ ?_
      rw [List.getD_eq_getElem?_getD, List.getElem?_append_left (by omega), List.getElem?_eq_getElem (by omega)]
      show blank L[n] = false
      have hmem : L[n] ∈ L := List.getElem_mem _
      generalize L[n] = q at hmem
      rw [← hL] at hmem
      obtain ⟨s, hs, rfl⟩ := List.mem_map.1 hmem
      exact (firm_at m s (hf s hs).1).2
  unfold textOf
  rw [hw, List.take_append_of_le_length (Nat.le_refl _), List.take_of_length_le (Nat.le_refl _)]
  cases hl : l with
  | nil =>
    have : L = [] := by rw [← hL, hl]; rfl
    rw [this]; rfl
  | cons s t =>
    have hfi : firstIndent L = m := by
      rw [← hL, hl, List.map_cons]
      obtain ⟨h3, h4⟩ := firm_at m s (hf s (by rw [hl]; exact List.mem_cons_self ..)).1
      unfold firstIndent firstFrom
      rw [h4]
      exact h3
    rw [hfi, ← hl, ← hL]
    exact textGo_firm m l hf
theorem textSize_firm (i m : Nat) (hm : i < m) (l : List (List UInt8)) (hf : ∀ s ∈ l, Firm s) (R : List (List UInt8)) : textSize i (l.map (Lib.repeatL [32] m ++ ·) ++ R) = l.length + textSize i R := by
  induction l with
  | nil => simp
  | cons s t ih =>
    have ih := ih (fun q hq => hf q (List.mem_cons_of_mem _ hq))
    obtain ⟨h3, h4⟩ := firm_at m s (hf s (List.mem_cons_self ..))
    rw [List.map_cons, List.cons_append]
    have hu : ∀ p t, textSize i (p :: t) = if !blank p && decide (blanks p ≤ i) then 0 else textSize i t + 1 := fun _ _ => rfl
    rw [hu, h3, if_neg (by simp; intro _; omega), ih, List.length_cons]
    omega
/-- LinesLiteral, as mathematics -/
theorem read_literal (i m : Nat) (hi : i < 6) (hm : i < m) (l : List (List UInt8)) (hf : ∀ s ∈ l, Firm s ∧ isLine s = true) (h10 : No10 l) :
    read ((Lib.repeatL [32] i ++ barL) ++ 10 :: (flat (l.map (Lib.repeatL [32] m ++ ·)) ++ ([10, 10] ++ (Lib.repeatL [32] i ++ endL ++ [10])))) =
      .ok [⟨0, i, [⟨0, [97], i⟩, ⟨11, [], i + 1⟩, ⟨13, [], i + 3⟩], flat l⟩, ⟨0, i, [⟨0, [98], i⟩, ⟨11, [], i + 1⟩, ⟨0, [99], i + 3⟩], []⟩] := by
  have n1 : ∀ (q : List UInt8), (∀ b ∈ q, b ≠ 10) → ∀ b ∈ Lib.repeatL [32] i ++ q, b ≠ 10 := by
    intro q hq b hb
    rcases List.mem_append.1 hb with hb | hb
    · intro e; rw [rep_ne i b hb] at e; cases e
    · exact hq b hb
  have n2 : No10 (l.map (Lib.repeatL [32] m ++ ·)) := by
    intro p hp
    obtain ⟨s, hs, rfl⟩ := List.mem_map.1 hp
    intro b hb
    rcases List.mem_append.1 hb with hb | hb
    · intro e; rw [rep_ne m b hb] at e; cases e
    · exact h10 s hs b hb
  have e1 : pieces ([10, 10] ++ (Lib.repeatL [32] i ++ endL ++ [10])) = [[], [], Lib.repeatL [32] i ++ endL, []] := by
    show pieces (10 :: 10 :: ((Lib.repeatL [32] i ++ endL) ++ 10 :: [])) = _
    have e2 : ∀ t, pieces (10 :: t) = [] :: pieces t := fun t => by rw [pieces, if_pos rfl]
    rw [e2, e2, pieces_ten, pieces_one _ (n1 endL (by decide))]
    rfl
  rw [read_rd, pieces_ten, pieces_one _ (n1 barL (by decide)), pieces_flat _ n2, e1]
  show rd ((Lib.repeatL [32] i ++ barL) :: (l.map (Lib.repeatL [32] m ++ ·) ++ [[], [], Lib.repeatL [32] i ++ endL, []])) = _
  rw [rd_cons, line_bar i hi]
  simp only
  rw [if_pos (by rfl)]
  have hts : textSize i (l.map (Lib.repeatL [32] m ++ ·) ++ [[], [], Lib.repeatL [32] i ++ endL, []]) = l.length + 2 := by
    rw [textSize_firm i m hm l (fun s hs => (hf s hs).1)]
    have hfe := firm_at i endL ⟨98, [58, 32, 99], rfl, by decide⟩
    have : textSize i [[], [], Lib.repeatL [32] i ++ endL, []] = 2 := by
      show textSize i [Lib.repeatL [32] i ++ endL, []] + 1 + 1 = 2
      unfold textSize
      rw [hfe.1, hfe.2, if_pos (by simp)]
    rw [this]
  rw [hts]
  have e3 : l.map (Lib.repeatL [32] m ++ ·) ++ [[], [], Lib.repeatL [32] i ++ endL, []] = (l.map (Lib.repeatL [32] m ++ ·) ++ [[], []]) ++ [Lib.repeatL [32] i ++ endL, []] := by simp
  have e4 : l.length + 2 = (l.map (Lib.repeatL [32] m ++ ·) ++ [[], []]).length := by simp
  rw [e3, e4, List.take_left, List.drop_left, textOf_firm m l hf]
  simp only
  rw [rd_cons, line_end i hi]
  simp only
  rw [if_neg (show ¬ lastBar [⟨0, [98], i⟩, ⟨11, [], i + 1⟩, ⟨0, [99], i + 3⟩] = true from fun h => by cases h), if_pos (by rfl), rd_empty]
  rfl
end Lx
end Go.Proofs.YtmhakkahclbbjaaGreatDoor
