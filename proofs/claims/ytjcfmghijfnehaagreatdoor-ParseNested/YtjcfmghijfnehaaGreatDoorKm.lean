/-
  Plain mathematics: the words and lines of a text whose lines are moved to the right.
-/
import Derived.Test.YtjcfmghijfnehaaGreatDoorKe
namespace Go.Proofs.YtjcfmghijfnehaaGreatDoor
namespace Lx
/-- so many blanks, and that -/
def rp (n : Nat) (l : List UInt8) : List UInt8 := Lib.repeatL [32] n ++ l
theorem rp_zero (l : List UInt8) : rp 0 l = l := rfl
theorem rp_succ (n : Nat) (l : List UInt8) : rp (n + 1) l = 32 :: rp n l := rfl
theorem rp_len (n : Nat) (l : List UInt8) : (rp n l).length = n + l.length := by
  induction n with
  | zero => simp [rp_zero]
  | succ n ih => rw [rp_succ, List.length_cons, ih]; omega
theorem rp_drop (n : Nat) (l : List UInt8) : ∀ k, (rp n l).drop (k + n) = l.drop k := by
  induction n with
  | zero => intro k; rfl
  | succ n ih => intro k; rw [rp_succ, show k + (n + 1) = (k + n) + 1 by omega, List.drop_succ_cons, ih]
theorem rp_getD (n : Nat) (l : List UInt8) (k : Nat) : (rp n l).getD (k + n) 0 = l.getD k 0 := by
  have h := congrArg (fun x : List UInt8 => x.getD 0 0) (rp_drop n l k)
  simp only [List.getD_eq_getElem?_getD, List.getElem?_drop, Nat.add_zero] at h ⊢
  exact h
theorem rp_at (n : Nat) (l : List UInt8) : ∀ i, i < n → (rp n l).getD i 0 = 32 := by
  induction n with
  | zero => intro i h; omega
  | succ n ih =>
    intro i h
    rw [rp_succ]
    cases i with
    | zero => rfl
    | succ i => simpa using ih i (by omega)
theorem rp_blanks (n : Nat) (l : List UInt8) : blanks (rp n l) = n + blanks l := by
  induction n with
  | zero => simp [rp_zero]
  | succ n ih =>
    have : blanks (rp (n + 1) l) = blanks (rp n l) + 1 := rfl
    rw [this, ih]; omega
theorem rp_blank (n : Nat) (l : List UInt8) : blank (rp n l) = blank l := by
  unfold blank
  rw [rp_blanks, rp_len]
  rw [Bool.eq_iff_iff]; simp
theorem rp_valid (n : Nat) (l : List UInt8) : Lib.validD (rp n l) = Lib.validD l := by
  induction n with
  | zero => rfl
  | succ n ih => rw [rp_succ, Lib.validD_cons 32 _ (by decide), ih]
theorem rp_rns (n : Nat) (l : List UInt8) (p : Nat → Bool) (h : p 32 = true) : (Sc.rns (rp n l)).all p = (Sc.rns l).all p := by
  induction n with
  | zero => rfl
  | succ n ih =>
    have e : rp (n + 1) l = Sc.enc 32 ++ rp n l := by rw [Sc.enc1 32 (by decide)]; rfl
    rw [e, Sc.rns_enc 32 _ (by unfold Sc.isCh; decide), List.all_cons, h, ih, Bool.true_and]
theorem rp_isLine (n : Nat) (l : List UInt8) : isLine (rp n l) = isLine l := by
  unfold isLine
  rw [rp_valid, rp_rns n l lineR (by decide)]
theorem rp_right (n : Nat) (l : List UInt8) : right (rp n l) = right l := by
  unfold right
  rw [rp_valid]
  rw [rp_rns n l (fun r => Sc.mayB r) (by decide)]
theorem rp_over (n : Nat) (l : List UInt8) (k : Nat) : over (rp n l) (k + n) = over l k := by
  unfold over
  have h1 : (k + n == (rp n l).length) = (k == l.length) := by rw [rp_len, Bool.eq_iff_iff]; simp; omega
  rw [h1]
  congr 1
  unfold remarkAt
  rw [rp_getD]
  congr 1
  cases k with
  | zero =>
    have : (0 + n == 0 || isB ((rp n l).getD (0 + n - 1) 0) 32) = true := by
      cases n with
      | zero => rfl
      | succ n => rw [rp_at (n + 1) l (0 + (n + 1) - 1) (by omega)]; simp [isB]
    rw [this]; rfl
  | succ k =>
    have h0 : (k + 1 + n == 0) = false := by simp
    have h2 : (k + 1 == 0) = false := by simp
    rw [h0, h2, Bool.false_or, Bool.false_or, show k + 1 + n - 1 = k + n by omega, rp_getD, Nat.add_sub_cancel]
theorem rp_past (n : Nat) (l : List UInt8) (k : Nat) : past (rp n l) (k + n) = past l k + n := by
  unfold past
  rw [rp_drop]; omega
/-- a word, so far to the right -/
def shW (n : Nat) (x : Wd) : Wd := ⟨x.kind, x.text, x.at_ + n⟩
def mapE {α β : Type} (f : α → β) : Except Nat α → Except Nat β
  | .ok x => .ok (f x)
  | .error e => .error e
theorem rp_wordAt (n : Nat) (l : List UInt8) (k : Nat) (d : Bool) : wordAt (rp n l) (k + n) d = mapE (fun p => (shW n p.1, p.2)) (wordAt l k d) := by
  unfold wordAt
  rw [rp_drop]
  simp only
  split
  · rfl
  · split
    · split <;> rfl
    · rfl
theorem over_lt (l : List UInt8) (k : Nat) (hk : k ≤ l.length) (h : ¬ over l k = true) : k < l.length := by
  rcases Nat.lt_or_ge k l.length with h1 | h1
  · exact h1
  · exfalso; apply h
    have : k = l.length := by omega
    unfold over; rw [this]; simp
theorem wordsGo_fuel (l : List UInt8) : ∀ (m n k : Nat) (d : Bool), k ≤ l.length → (k < l.length → isB (l.getD k 0) 32 = false) → l.length < k + m → l.length < k + n → wordsGo l m k d = wordsGo l n k d
  | 0, _, k, d, h0, _, h, _ => by omega
  | m + 1, 0, k, d, h0, _, _, h => by omega
  | m + 1, n + 1, k, d, h0, hb, h1, h2 => by
    unfold wordsGo
    split
    · rfl
    · rename_i ho
      have hk := over_lt l k h0 ho
      cases hw : wordAt l k d with
      | error e => rfl
      | ok y =>
        obtain ⟨x, z⟩ := y
        obtain ⟨z1, z2, _, _⟩ := wordAt_size l k d x z hk (hb hk) hw
        simp only
        have p1 := past_ge l (k + z)
        have p2 := past_le l (k + z) z2
        rw [wordsGo_fuel l m n (past l (k + z)) _ p2 (past_not l (k + z)) (by omega) (by omega)]
theorem rp_wordsGo (n : Nat) (l : List UInt8) : ∀ (m k : Nat) (d : Bool), wordsGo (rp n l) m (k + n) d = mapE (List.map (shW n)) (wordsGo l m k d)
  | 0, _, _ => rfl
  | m + 1, k, d => by
    unfold wordsGo
    rw [rp_over, rp_wordAt]
    split
    · rfl
    · cases wordAt l k d with
      | error e => rfl
      | ok y =>
        obtain ⟨x, z⟩ := y
        simp only [mapE]
        have e1 : past (rp n l) (k + n + z) = past l (k + z) + n := by rw [show k + n + z = (k + z) + n by omega, rp_past]
        have e2 : (shW n x).kind = x.kind := rfl
        rw [e1, e2, rp_wordsGo n l m]
        cases wordsGo l m (past l (k + z)) (d && decide (x.kind = 12)) <;> rfl
theorem rp_words (n : Nat) (l : List UInt8) : words (rp n l) = mapE (List.map (shW n)) (words l) := by
  unfold words
  rw [rp_isLine]
  split
  · have e1 : past (rp n l) 0 = past l 0 + n := by
      unfold past
      simp only [List.drop_zero, Nat.zero_add]
      rw [rp_blanks]; omega
    rw [e1, rp_wordsGo, rp_len]
    congr 1
    have p2 := past_le l 0 (Nat.zero_le _)
    exact wordsGo_fuel l _ _ _ _ p2 (past_not l 0) (by omega) (by omega)
  · rfl
def shL (n : Nat) (x : Ln) : Ln := ⟨x.mark, x.indent + n, x.words.map (shW n), x.text⟩
theorem rp_lineOf (n : Nat) (p : List UInt8) (h1 : markOf p = 0) (h2 : markOf (rp n p) = 0) : lineOf (rp n p) = mapE (shL n) (lineOf p) := by
  unfold lineOf
  rw [if_pos h1, if_pos h2, rp_words]
  cases words p with
  | error e => rfl
  | ok ws => simp only [mapE, shL, rp_blanks]; rw [Nat.add_comm]
theorem sh_lastBar (n : Nat) (ws : List Wd) : lastBar (ws.map (shW n)) = lastBar ws := by
  unfold lastBar
  rw [List.getLast?_map]
  cases ws.getLast? <;> rfl
theorem sh_says (n : Nat) (x : Ln) : says (shL n x) = says x := by
  unfold says shL
  simp
theorem rp_textSize (n ind : Nat) : ∀ ps : List (List UInt8), textSize (ind + n) (ps.map (rp n)) = textSize ind ps
  | [] => rfl
  | p :: t => by
    rw [List.map_cons]
    unfold textSize
    rw [rp_blank, rp_blanks, rp_textSize n ind t]
    have : decide (n + blanks p ≤ ind + n) = decide (blanks p ≤ ind) := by rw [Bool.eq_iff_iff]; simp; omega
    rw [this]
theorem map_getD (n : Nat) (ps : List (List UInt8)) (k : Nat) (h : k < ps.length) : (ps.map (rp n)).getD k [] = rp n (ps.getD k []) := by
  simp [List.getD, List.getElem?_map, h]
theorem rp_tailGo (n : Nat) (ps : List (List UInt8)) : ∀ m, m ≤ ps.length → tailGo (ps.map (rp n)) m = tailGo ps m
  | 0, _ => rfl
  | m + 1, h => by
    unfold tailGo
    rw [map_getD n ps m (by omega), rp_blank, rp_tailGo n ps m (by omega)]
theorem rp_firstFrom (n : Nat) : ∀ (ps : List (List UInt8)) (k : Nat), firstFrom (ps.map (rp n)) k = firstFrom ps k
  | [], _ => rfl
  | p :: t, k => by
    rw [List.map_cons]
    unfold firstFrom
    rw [rp_blank, rp_firstFrom n t]
theorem firstFrom_bd : ∀ (ps : List (List UInt8)) (k i : Nat), firstFrom ps k = some i → k ≤ i ∧ i < k + ps.length
  | [], _, _, h => by cases h
  | p :: t, k, i, h => by
    unfold firstFrom at h
    split at h
    · cases h; simp
    · have := firstFrom_bd t (k + 1) i h
      simp only [List.length_cons]; omega
/-- where there is none that says something the offset is of no matter -/
theorem firstFrom_none : ∀ (ps : List (List UInt8)) (k : Nat), firstFrom ps k = none → ∀ p ∈ ps, blank p = true
  | [], _, _, p, hp => by cases hp
  | q :: t, k, h, p, hp => by
    unfold firstFrom at h
    split at h
    · cases h
    · rename_i hq
      rcases List.mem_cons.1 hp with rfl | hp
      · simpa using hq
      · exact firstFrom_none t (k + 1) h p hp
theorem rp_textGo (n : Nat) (off : Nat) : ∀ ps : List (List UInt8), textGo (off + n) (ps.map (rp n)) = textGo off ps
  | [] => rfl
  | p :: t => by
    rw [List.map_cons]
    unfold textGo
    rw [rp_right, rp_blank, rp_blanks, rp_textGo n off t]
    have e1 : (n + blanks p < off + n) = (blanks p < off) := propext (by omega)
    have e2 : (rp n p).drop (off + n) = p.drop off := rp_drop n p off
    simp only [e1, e2]
theorem textGo_blank (o1 o2 : Nat) : ∀ ps : List (List UInt8), (∀ p ∈ ps, blank p = true) → textGo o1 ps = textGo o2 ps
  | [], _ => rfl
  | p :: t, h => by
    unfold textGo
    rw [h p (List.mem_cons_self ..), textGo_blank o1 o2 t fun q hq => h q (List.mem_cons_of_mem _ hq)]
    simp
theorem rp_textOf (n : Nat) (ps : List (List UInt8)) : textOf (ps.map (rp n)) = textOf ps := by
  unfold textOf
  have e1 : withoutTail (ps.map (rp n)) = withoutTail ps := by
    unfold withoutTail
    rw [List.length_map]; exact rp_tailGo n ps _ (Nat.le_refl _)
  rw [e1, ← List.map_take]
  generalize ps.take (withoutTail ps) = Q
  unfold firstIndent
  rw [rp_firstFrom]
  cases h : firstFrom Q 0 with
  | none =>
    simp only
    have := firstFrom_none Q 0 h
    rw [← rp_textGo n 0 Q]
    exact textGo_blank _ _ _ fun p hp => by
      obtain ⟨q, hq, rfl⟩ := List.mem_map.1 hp
      rw [rp_blank]; exact this q hq
  | some k =>
    simp only
    have := firstFrom_bd Q 0 k h
    rw [map_getD n Q k (by omega), rp_blanks, Nat.add_comm, rp_textGo]
theorem mapE_consL (n : Nat) (x : Ln) (r : Except Nat (List Ln)) : consL (shL n x) (mapE (List.map (shL n)) r) = mapE (List.map (shL n)) (consL x r) := by
  cases r <;> rfl
theorem rp_rd (n : Nat) : ∀ (m : Nat) (ps : List (List UInt8)), ps.length ≤ m → (∀ p ∈ ps, markOf p = 0 ∧ markOf (rp n p) = 0) → rd (ps.map (rp n)) = mapE (List.map (shL n)) (rd ps)
  | 0, ps, h, _ => by
    have : ps = [] := List.length_eq_zero_iff.1 (by omega)
    subst this; rfl
  | m + 1, [], _, _ => rfl
  | m + 1, p :: t, h, hm => by
    simp only [List.length_cons] at h
    have ht : ∀ q ∈ t, markOf q = 0 ∧ markOf (rp n q) = 0 := fun q hq => hm q (List.mem_cons_of_mem _ hq)
    obtain ⟨m1, m2⟩ := hm p (List.mem_cons_self ..)
    rw [List.map_cons, rd_cons, rd_cons, rp_lineOf n p m1 m2]
    cases hl : lineOf p with
    | error e => rfl
    | ok x =>
      simp only [mapE]
      have e1 : (shL n x).words = x.words.map (shW n) := rfl
      have e2 : (shL n x).indent = x.indent + n := rfl
      rw [e1, e2, sh_lastBar, sh_says, rp_textSize, ← List.map_take, ← List.map_drop, rp_textOf]
      split
      · cases textOf (t.take (textSize x.indent t)) with
        | error e => rfl
        | ok y =>
          simp only
          rw [rp_rd n m (t.drop (textSize x.indent t)) (by rw [List.length_drop]; omega) fun q hq => ht q (List.mem_of_mem_drop hq)]
          exact mapE_consL n ⟨x.mark, x.indent, x.words, y⟩ _
      · split
        · rw [rp_rd n m t (by omega) ht]
          exact mapE_consL n x _
        · exact rp_rd n m t (by omega) ht
/-! a piece of nothing at the end says nothing -/
theorem textSize_nil (ind : Nat) : ∀ P : List (List UInt8), (textSize ind (P ++ [[]]) = textSize ind P ∧ textSize ind P < P.length) ∨ (textSize ind P = P.length ∧ textSize ind (P ++ [[]]) = P.length + 1) := by
  intro P
  have h1 := textSize_app ind P [[]]
  have h2 : textSize ind [[]] = 1 := rfl
  rcases h1 with ⟨a, b⟩ | ⟨a, b⟩
  · left; exact ⟨b, a⟩
  · right; rw [h2] at b; exact ⟨a, b⟩
theorem tailGo_app (P Q : List (List UInt8)) : ∀ m, m ≤ P.length → tailGo (P ++ Q) m = tailGo P m
  | 0, _ => rfl
  | m + 1, h => by
    unfold tailGo
    have e : (P ++ Q).getD m [] = P.getD m [] := by simp [List.getD, List.getElem?_append_left (show m < P.length by omega)]
    rw [e, tailGo_app P Q m (by omega)]
theorem tailGo_bd (P : List (List UInt8)) : ∀ m, tailGo P m ≤ m
  | 0 => Nat.le_refl _
  | m + 1 => by
    unfold tailGo
    split
    · have := tailGo_bd P m; omega
    · exact Nat.le_refl _
theorem textOf_nil (P : List (List UInt8)) : textOf (P ++ [[]]) = textOf P := by
  unfold textOf
  have e : withoutTail (P ++ [[]]) = withoutTail P := by
    unfold withoutTail
    rw [List.length_append, List.length_singleton]
    have e2 : (P ++ [[]]).getD P.length [] = [] := by simp [List.getD]
    show (if blank ((P ++ [[]]).getD P.length []) then tailGo (P ++ [[]]) P.length else P.length + 1) = _
    rw [e2, if_pos (show blank [] = true from rfl)]
    exact tailGo_app P [[]] _ (Nat.le_refl _)
  have hle : withoutTail P ≤ P.length := tailGo_bd P _
  rw [e, List.take_append_of_le_length hle]
theorem rd_one_nil : rd [[]] = .ok [] := by kernel_rfl
theorem rd_snoc_nil : ∀ (m : Nat) (P : List (List UInt8)), P.length ≤ m → rd (P ++ [[]]) = rd P
  | 0, P, h => by
    have : P = [] := List.length_eq_zero_iff.1 (by omega)
    subst this; exact rd_one_nil
  | m + 1, [], _ => rd_one_nil
  | m + 1, p :: t, h => by
    simp only [List.length_cons] at h
    rw [List.cons_append, rd_cons, rd_cons]
    cases lineOf p with
    | error e => rfl
    | ok x =>
      simp only
      split
      · rcases textSize_nil x.indent t with ⟨a, b⟩ | ⟨a, b⟩
        · rw [a, List.take_append_of_le_length (by omega), List.drop_append_of_le_length (by omega)]
          cases textOf (t.take (textSize x.indent t)) with
          | error e => rfl
          | ok y =>
            simp only
            rw [rd_snoc_nil m _ (by rw [List.length_drop]; omega)]
        · rw [a, b]
          have e1 : (t ++ [[]]).take (t.length + 1) = t ++ [[]] := List.take_of_length_le (by simp)
          have e2 : (t ++ [[]]).drop (t.length + 1) = ([] : List (List UInt8)) := List.drop_of_length_le (by simp)
          rw [e1, e2, List.take_of_length_le (Nat.le_refl _), List.drop_of_length_le (Nat.le_refl _), textOf_nil]
      · rw [rd_snoc_nil m t (by omega)]
end Lx
end Go.Proofs.YtjcfmghijfnehaaGreatDoor
