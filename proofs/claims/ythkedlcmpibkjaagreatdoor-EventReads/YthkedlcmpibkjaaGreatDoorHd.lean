/-
  Plain mathematics, no program's run in it: what event the document takes a line for; its lines of a text; that events come back from their lines so, too.
  Walks of the document's kind, word.
  The walk of the document's guess.
  The walk of the document's Parse; the walk of EventReads.
-/
import Derived.Test.YthkedlcmpibkjaaGreatDoorMr
import Derived.BigQuiet
import Derived.Test.YthkedlcmpibkjaaGreatDoorMk
import Derived.Test.YthkedlcmpibkjaaGreatDoorTb
import Derived.Test.YthkedlcmpibkjaaGreatDoorGf
import Derived.Test.YthkedlcmpibkjaaGreatDoorEy
import Derived.Test.YthkedlcmpibkjaaGreatDoorEq
namespace Go.Proofs.YthkedlcmpibkjaaGreatDoor
namespace Ev
/-- the kind that a line begins with -/
def kindF (s : List UInt8) : Nat → Int
  | 0 => -1
  | n + 1 => if s.take 4 = sign (7 - n) then ((7 - n : Nat) : Int) else kindF s n
def kindD (s : List UInt8) : Int := kindF s 8
theorem kindF_step (s : List UInt8) (j : Nat) (h : j < 8) : kindF s (8 - j) = if s.take 4 = sign j then (j : Int) else kindF s (8 - (j + 1)) := by
  obtain ⟨n, hn⟩ : ∃ n, 8 - j = n + 1 := ⟨7 - j, by omega⟩
  rw [hn]
  have e1 : 7 - n = j := by omega
  have e2 : 8 - (j + 1) = n := by omega
  simp only [kindF]
  rw [e1, e2]
/-- what stands up to the next blank; and what is behind it -/
def wordD : List UInt8 → List UInt8 × List UInt8
  | [] => ([], [])
  | b :: t => if b = 32 then ([], t) else (b :: (wordD t).1, (wordD t).2)
theorem wordD_le (l : List UInt8) : (wordD l).1.length ≤ l.length ∧ (wordD l).2.length ≤ l.length - 1 := by
  induction l with
  | nil => simp [wordD]
  | cons b t ih =>
    unfold wordD
    split
    · simp
    · simp only [List.length_cons]; omega
theorem wordD_lt (l : List UInt8) (h : l ≠ []) : (wordD l).2.length < l.length := by
  have := wordD_le l
  have : 0 < l.length := List.length_pos_iff.2 h
  omega
theorem wordD_app (a r : List UInt8) (h : (32 : UInt8) ∉ a) : wordD (a ++ 32 :: r) = (a, r) := by
  induction a with
  | nil => simp [wordD]
  | cons b t ih =>
    have hb : ¬ b = 32 := fun e => h (by simp [e])
    have ih := ih fun e => h (by simp [e])
    rw [List.cons_append]
    unfold wordD
    rw [if_neg hb, ih]
theorem wordD_all (a : List UInt8) (h : (32 : UInt8) ∉ a) : wordD a = (a, []) := by
  induction a with
  | nil => rfl
  | cons b t ih =>
    have hb : ¬ b = 32 := fun e => h (by simp [e])
    have ih := ih fun e => h (by simp [e])
    unfold wordD
    rw [if_neg hb, ih]
/-- the first byte of a word -/
def fst (w : List UInt8) : Nat := (w.headD 0).toNat
/-- the fields that the rest of a line tells -/
def guessG (k : Int) (an tg rest : List UInt8) : E :=
  if _h : rest = [] then ⟨k, an, tg, [], false⟩
  else if k = 6 ∧ (wordD rest).1 ≠ [] ∧ (fst (wordD rest).1 = 58 ∨ fst (wordD rest).1 = 34) then
    ⟨k, an, tg, (unquoteOf (if fst (wordD rest).1 = 58 then rest.drop 1 else rest)).getD [], decide (fst (wordD rest).1 = 58)⟩
  else if (wordD rest).1 ≠ [] ∧ (fst (wordD rest).1 = 38 ∨ fst (wordD rest).1 = 42) then guessG k ((wordD rest).1.drop 1) tg (wordD rest).2
  else if (wordD rest).1 ≠ [] then guessG k an ((Tg.read (wordD rest).1).getD []) (wordD rest).2
  else guessG k an tg (wordD rest).2
termination_by rest.length
decreasing_by all_goals exact wordD_lt rest _h
theorem guessG_nil (k : Int) (an tg : List UInt8) : guessG k an tg [] = ⟨k, an, tg, [], false⟩ := by unfold guessG; rw [dif_pos rfl]
theorem guessG_step (k : Int) (an tg rest : List UInt8) (h : rest ≠ []) : guessG k an tg rest =
  if k = 6 ∧ (wordD rest).1 ≠ [] ∧ (fst (wordD rest).1 = 58 ∨ fst (wordD rest).1 = 34) then
    ⟨k, an, tg, (unquoteOf (if fst (wordD rest).1 = 58 then rest.drop 1 else rest)).getD [], decide (fst (wordD rest).1 = 58)⟩
  else if (wordD rest).1 ≠ [] ∧ (fst (wordD rest).1 = 38 ∨ fst (wordD rest).1 = 42) then guessG k ((wordD rest).1.drop 1) tg (wordD rest).2
  else if (wordD rest).1 ≠ [] then guessG k an ((Tg.read (wordD rest).1).getD []) (wordD rest).2
  else guessG k an tg (wordD rest).2 := by
  conv => lhs; unfold guessG
  rw [dif_neg h]
def guessD (l : List UInt8) : E := guessG (kindD l) [] [] (wordD l).2
/-- the lines of a text; what stands behind the last break is none -/
def scanD : List UInt8 → List UInt8 → List (List UInt8)
  | _, [] => []
  | cur, b :: t => if b = 10 then cur :: scanD [] t else scanD (cur ++ [b]) t
def evsD (s : List UInt8) : List E := (scanD [] s).map guessD

theorem scanD_cons (cur : List UInt8) (b : UInt8) (t : List UInt8) : scanD cur (b :: t) = if b = 10 then cur :: scanD [] t else scanD (cur ++ [b]) t := rfl
theorem scanD_line (a : List UInt8) (h : (10 : UInt8) ∉ a) (r : List UInt8) : ∀ cur, scanD cur (a ++ 10 :: r) = (cur ++ a) :: scanD [] r := by
  induction a with
  | nil => intro cur; simp [scanD]
  | cons b t ih =>
    intro cur
    have hb : ¬ b = 10 := fun e => h (by simp [e])
    rw [List.cons_append, scanD_cons, if_neg hb, ih (fun e => h (by simp [e]))]
    simp
theorem scanD_print (es : List E) (h : ∀ x ∈ es, (10 : UInt8) ∉ line x) : scanD [] (es.flatMap lineN) = es.map line := by
  induction es with
  | nil => simp [scanD]
  | cons x t ih =>
    have e : (x :: t).flatMap lineN = line x ++ 10 :: t.flatMap lineN := by rw [List.flatMap_cons]; unfold lineN; simp
    rw [e, scanD_line _ (h x (by simp)), ih fun y hy => h y (by simp [hy])]
    simp
theorem scanD_mem : ∀ (s cur l : List UInt8), l ∈ scanD cur s → l.length ≤ cur.length + s.length
  | [], cur, l, h => by cases h
  | b :: t, cur, l, h => by
    unfold scanD at h
    split at h
    · rcases List.mem_cons.1 h with rfl | h
      · simp
      · have := scanD_mem t [] l h
        simp only [List.length_nil, List.length_cons] at this ⊢; omega
    · have := scanD_mem t _ l h
      simp only [List.length_append, List.length_cons, List.length_nil] at this ⊢; omega
theorem scanD_len : ∀ (s cur : List UInt8), (scanD cur s).length ≤ s.length
  | [], cur => by simp [scanD]
  | b :: t, cur => by
    unfold scanD
    split
    · have := scanD_len t []
      simp only [List.length_cons]; omega
    · have := scanD_len t (cur ++ [b])
      simp only [List.length_cons]; omega
theorem numOf_two (c : UInt8) (t : List UInt8) (d r z : Nat) (hd : 2 ≤ d) (h : numOf (c :: t) d = (r, z)) : z = 0 ∨ 2 ≤ z := by
  unfold numOf at h
  split at h
  · cases h; exact .inl rfl
  · split at h
    · cases h; exact .inl rfl
    · split at h
      · cases h; exact .inr (by omega)
      · cases h; exact .inl rfl
/-- what is read between quotes is no longer than half as much more -/
theorem escOf_len (l : List UInt8) (r z : Nat) (hp : escOf l = (r, z)) (h : z ≠ 0) : 2 * (Sc.enc r).length ≤ 3 * (z + 1) := by
  have h4 := Sc.enc_len r
  by_cases h2 : 2 ≤ z
  · omega
  · cases l with
    | nil => simp only [escOf] at hp; cases hp; exact absurd rfl h
    | cons c t =>
      have no : ∀ d, 2 ≤ d → numOf (c :: t) d = (r, z) → False := fun d hd he => by
        rcases numOf_two c t d r z hd he with e | e
        · exact h e
        · exact h2 e
      simp only [escOf] at hp
      split at hp
      · cases hp; decide
      · split at hp
        · exact absurd hp (no 2 (by omega))
        · split at hp
          · exact absurd hp (no 4 (by omega))
          · split at hp
            · exact absurd hp (no 8 (by omega))
            · cases hn : charFrom 0 c.toNat with
              | none => rw [hn] at hp; cases hp; exact absurd rfl h
              | some x =>
                rw [hn] at hp
                cases hp
                unfold charFrom at hn
                obtain ⟨p, hq, rfl⟩ := Option.map_eq_some_iff.1 hn
                have hm : p ∈ namedTab := List.mem_of_find?_eq_some hq
                have : ∀ q ∈ namedTab, (Sc.enc q.1).length ≤ 3 := by decide
                have := this p hm
                omega
theorem unq_len3 : ∀ (n : Nat) (l t : List UInt8), l.length ≤ n → unq l = some t → 2 * t.length ≤ 3 * l.length
  | 0, l, t, h, ht => by
    have : l = [] := List.eq_nil_of_length_eq_zero (by omega)
    subst this
    rw [unq_nil] at ht; cases ht; simp
  | n + 1, [], t, _, ht => by rw [unq_nil] at ht; cases ht; simp
  | n + 1, b :: l, t, h, ht => by
    simp only [List.length_cons] at h
    rw [unq_cons] at ht
    split at ht
    · cases ht
    · split at ht
      · split at ht
        · cases ht
        · rename_i hz
          obtain ⟨t', ht', rfl⟩ := Option.map_eq_some_iff.1 ht
          have ih := unq_len3 n _ t' (by rw [List.length_drop]; omega) ht'
          have h3 := escOf_len l (escOf l).1 (escOf l).2 rfl hz
          have g2 := (escOf_good l (escOf l).1 (escOf l).2 rfl hz).2.1
          rw [List.length_drop] at ih
          simp only [List.length_append, List.length_cons]
          omega
      · obtain ⟨t', ht', rfl⟩ := Option.map_eq_some_iff.1 ht
        have ih := unq_len3 n l t' (by omega) ht'
        simp only [List.length_append, List.length_cons, List.length_nil]
        omega
theorem unq_le3 (l : List UInt8) : 2 * ((unquoteOf l).getD []).length ≤ 3 * l.length := by
  unfold unquoteOf
  split
  · cases h : unq ((l.drop 1).take (l.length - 2)) with
    | none => simp
    | some t =>
      have := unq_len3 _ _ t (Nat.le_refl _) h
      rw [List.length_take, List.length_drop] at this
      simp only [Option.getD_some]
      omega
  · simp
/-- what a guess is made of is no longer than half as much more than its line -/
theorem guessG_le : ∀ (n : Nat) (k : Int) (an tg rest : List UInt8) (M : Nat), rest.length ≤ n → an.length ≤ M → tg.length ≤ M → rest.length ≤ M →
    (guessG k an tg rest).anchor.length ≤ M ∧ (guessG k an tg rest).tag.length ≤ M ∧ 2 * (guessG k an tg rest).text.length ≤ 3 * M
  | 0, k, an, tg, rest, M, hn, ha, ht, _ => by
    have : rest = [] := List.eq_nil_of_length_eq_zero (by omega)
    subst this
    rw [guessG_nil]; exact ⟨ha, ht, by simp⟩
  | n + 1, k, an, tg, rest, M, hn, ha, ht, hr => by
    by_cases h : rest = []
    · subst h
      rw [guessG_nil]; exact ⟨ha, ht, by simp⟩
    · have hw := wordD_le rest
      have hlt := wordD_lt rest h
      rw [guessG_step k an tg rest h]
      split
      · refine ⟨ha, ht, ?_⟩
        have := unq_le3 (if fst (wordD rest).1 = 58 then rest.drop 1 else rest)
        have h2 : (if fst (wordD rest).1 = 58 then rest.drop 1 else rest).length ≤ rest.length := by split <;> simp
        simp only
        omega
      · split
        · exact guessG_le n k _ _ _ M (by omega) (by rw [List.length_drop]; omega) ht (by omega)
        · split
          · exact guessG_le n k _ _ _ M (by omega) ha (by have := read_le (wordD rest).1; omega) (by omega)
          · exact guessG_le n k _ _ _ M (by omega) ha ht (by omega)
theorem guessD_le (l : List UInt8) (h : l.length ≤ 3000) : (guessD l).anchor.length ≤ 3000 ∧ (guessD l).tag.length ≤ 3000 ∧ (guessD l).text.length ≤ 4500 := by
  have hw := wordD_le l
  have := guessG_le (wordD l).2.length (kindD l) [] [] (wordD l).2 3000 (Nat.le_refl _) (by simp) (by simp) (by omega)
  exact ⟨this.1, this.2.1, by have := this.2.2; unfold guessD; omega⟩
theorem evsD_small (s : List UInt8) (h : s.length ≤ 3000) : (evsD s).length ≤ 3000 ∧ ∀ x ∈ evsD s, x.anchor.length ≤ 3000 ∧ x.tag.length ≤ 3000 ∧ x.text.length ≤ 4500 := by
  unfold evsD
  refine ⟨by rw [List.length_map]; have := scanD_len s []; omega, fun x hx => ?_⟩
  obtain ⟨l, hl, rfl⟩ := List.mem_map.1 hx
  have := scanD_mem s [] l hl
  simp only [List.length_nil, Nat.zero_add] at this
  exact guessD_le l (by omega)

theorem kindD_sign (k : Nat) (hk : k < 8) (r : List UInt8) : kindD (sign k ++ r) = k := by
  match k, hk with
  | 0, _ | 1, _ | 2, _ | 3, _ | 4, _ | 5, _ | 6, _ | 7, _ => simp [kindD, kindF, sign, signL]
theorem sign_blank (k : Nat) : (32 : UInt8) ∉ sign k := by
  unfold sign signL
  match k with
  | 0 | 1 | 2 | 3 | 4 | 5 | 6 | 7 => decide
  | n + 8 => simp
/-- behind the sign: nothing, or a blank and more -/
theorem guessD_sign (k : Nat) (hk : k < 8) (r : List UInt8) : guessD (sign k ++ 32 :: r) = guessG k [] [] r := by
  unfold guessD
  rw [kindD_sign k hk, wordD_app _ _ (sign_blank k)]
theorem guessD_bare (k : Nat) (hk : k < 8) : guessD (sign k) = ⟨k, [], [], [], false⟩ := by
  unfold guessD
  have := kindD_sign k hk []
  rw [List.append_nil] at this
  rw [this, wordD_all _ (sign_blank k), guessG_nil]
/-- a blank and more, or nothing -/
def tailOf (l : List UInt8) : List UInt8 := l.drop 1
def Led (l : List UInt8) : Prop := l = [] ∨ ∃ t, l = 32 :: t
theorem word_led (a r : List UInt8) (ha : (32 : UInt8) ∉ a) (hr : Led r) : wordD (a ++ r) = (a, tailOf r) := by
  rcases hr with rfl | ⟨t, rfl⟩
  · rw [List.append_nil, wordD_all a ha]; rfl
  · rw [wordD_app a t ha]; rfl
theorem guess_anchor (k : Int) (a tg r : List UInt8) (ha : (32 : UInt8) ∉ a) (hr : Led r) (c : UInt8) (hc : c = 38 ∨ c = 42) : guessG k [] tg (c :: (a ++ r)) = guessG k a tg (tailOf r) := by
  have hw : wordD (c :: (a ++ r)) = (c :: a, tailOf r) := by
    rw [← List.cons_append]
    refine word_led (c :: a) r (fun h => ?_) hr
    rcases List.mem_cons.1 h with h | h
    · subst h; rcases hc with h | h <;> cases h
    · exact ha h
  rw [guessG_step _ _ _ _ (by simp), hw]
  have hf : fst (c :: a) = 38 ∨ fst (c :: a) = 42 := by
    rcases hc with rfl | rfl
    · exact .inl rfl
    · exact .inr rfl
  simp only
  rw [if_neg (by rintro ⟨_, _, h⟩; omega), if_pos ⟨by simp, hf⟩]
  rfl
theorem guess_tag (k : Int) (an t r : List UInt8) (ht : Tg.right t = true) (hr : Led r) : guessG k an [] (Tg.word t ++ r) = guessG k an t (tailOf r) := by
  obtain ⟨u, hu, hne, h32, _⟩ := Tg.word_form t ht
  have hb : (32 : UInt8) ∉ Tg.word t := by
    rw [hu]
    intro h
    rcases List.mem_cons.1 h with h | h
    · cases h
    · exact h32 h
  have hw := word_led (Tg.word t) r hb hr
  have hf : fst (Tg.word t) = 33 := by rw [hu]; rfl
  have hnil : Tg.word t ≠ [] := by rw [hu]; simp
  rw [guessG_step _ _ _ _ (by rw [hu]; simp), hw]
  simp only
  rw [if_neg (by rintro ⟨_, _, h⟩; omega), if_neg (by rintro ⟨_, h⟩; omega), if_pos hnil, Tg.back_word t ht]
  rfl
theorem guess_text (an tg t : List UInt8) (pl : Bool) (hv : Lib.validD t = true) : guessG 6 an tg ((if pl then [58] else []) ++ quoteOf t) = ⟨6, an, tg, t, pl⟩ := by
  obtain ⟨r, hr⟩ := quote_form t hv
  have hU := unquote_quote t hv
  cases pl with
  | true =>
    have e : (if true = true then [58] else []) ++ quoteOf t = 58 :: quoteOf t := rfl
    rw [e, guessG_step _ _ _ _ (by simp)]
    have hw : (wordD (58 :: quoteOf t)).1 = 58 :: (wordD (quoteOf t)).1 := by
      conv => lhs; unfold wordD
      rw [if_neg (by decide)]
    rw [hw]
    have hf : fst (58 :: (wordD (quoteOf t)).1) = 58 := rfl
    rw [if_pos ⟨rfl, by simp, .inl hf⟩, if_pos hf, hf, List.drop_succ_cons, List.drop_zero, hU]
    rfl
  | false =>
    have e : (if false = true then [58] else []) ++ quoteOf t = quoteOf t := rfl
    have hn : quoteOf t ≠ [] := by rw [hr]; simp
    rw [e, guessG_step _ _ _ _ hn]
    obtain ⟨u, hw⟩ : ∃ u, (wordD (quoteOf t)).1 = 34 :: u := by
      rw [hr]; unfold wordD; rw [if_neg (by decide)]; exact ⟨_, rfl⟩
    rw [hw]
    have hf : fst (34 :: u) = 34 := rfl
    rw [if_pos ⟨rfl, by simp, .inr hf⟩, if_neg (by omega), hU, hf]
    rfl
theorem led_text (x : E) : Led (textW x) := by
  unfold textW
  split
  · exact .inr ⟨_, rfl⟩
  · exact .inl rfl
theorem led_tag (x : E) : Led (tagW x ++ textW x) := by
  unfold tagW
  split
  · rw [List.nil_append]; exact led_text x
  · exact .inr ⟨_, rfl⟩
theorem guess_fill (x : E) (h : filled x = true) (h0 : 0 ≤ x.kind) (h8 : x.kind < 8) : guessD (line x) = x := by
  have hrest := fill_rest x h
  clear hrest
  obtain ⟨k, an, tg, tx, pl⟩ := x
  simp only at h0 h8
  obtain ⟨n, rfl⟩ : ∃ n : Nat, k = n := ⟨k.toNat, by omega⟩
  have hn : n < 8 := by omega
  have eL : line ⟨n, an, tg, tx, pl⟩ = sign n ++ (if (n : Int) = 7 then [32, 42] ++ an else anchorW ⟨n, an, tg, tx, pl⟩ ++ (tagW ⟨n, an, tg, tx, pl⟩ ++ textW ⟨n, an, tg, tx, pl⟩)) := rfl
  rw [eL]
  by_cases k7 : (n : Int) = 7
  · rw [if_pos k7]
    obtain rfl : n = 7 := by omega
    change filled ⟨7, an, tg, tx, pl⟩ = true at h
    unfold filled at h
    simp only [show ¬ ((7 : Int) = 2 ∨ (7 : Int) = 4) by decide, if_false, show ¬ (7 : Int) = 6 by decide, if_true, Bool.and_eq_true, List.isEmpty_iff, Bool.not_eq_true'] at h
    obtain ⟨⟨⟨rfl, rfl⟩, rfl⟩, hnm⟩ := h
    have := Lx.name_form an hnm
    have e : sign 7 ++ ([32, 42] ++ an) = sign 7 ++ 32 :: (42 :: (an ++ [])) := by simp
    rw [e, guessD_sign 7 (by decide), guess_anchor _ an [] [] this.2.1 (.inl rfl) 42 (.inr rfl)]
    exact guessG_nil _ _ _
  · rw [if_neg k7]
    have hm : mayName an = true ∧ mayTag tg = true ∧ Lib.validD tx = true ∧ ((n : Int) ≠ 6 → tx = [] ∧ pl = false) := by
      unfold filled at h
      simp only at h
      split at h
      · simp only [Bool.and_eq_true, List.isEmpty_iff, Bool.not_eq_true'] at h
        obtain ⟨⟨⟨rfl, rfl⟩, h1⟩, h2⟩ := h
        exact ⟨h1, h2, rfl, fun _ => ⟨rfl, rfl⟩⟩
      · split at h
        · rename_i h6
          simp only [Bool.and_eq_true] at h
          exact ⟨h.1.1, h.1.2, h.2, fun hn => absurd h6 hn⟩
        · simp only [Bool.and_eq_true, List.isEmpty_iff, Bool.not_eq_true'] at h
          obtain ⟨⟨⟨rfl, rfl⟩, rfl⟩, rfl⟩ := h
          exact ⟨rfl, rfl, rfl, fun _ => ⟨rfl, rfl⟩⟩
    obtain ⟨ha, ht, hv, hp⟩ := hm
    have hE : ∀ (a g : List UInt8), guessG n a g (tailOf (textW ⟨n, an, tg, tx, pl⟩)) = ⟨n, a, g, tx, pl⟩ := by
      intro a g
      unfold textW
      by_cases k6 : (n : Int) = 6
      · rw [if_pos k6, k6]
        have e : tailOf ([32] ++ ((if pl = true then [58] else []) ++ quoteOf tx)) = (if pl = true then [58] else []) ++ quoteOf tx := rfl
        simp only
        rw [e, guess_text a g tx pl hv]
      · rw [if_neg k6]
        obtain ⟨rfl, rfl⟩ := hp k6
        exact guessG_nil _ _ _
    have hT : ∀ (a : List UInt8), guessG n a [] (tailOf (tagW ⟨n, an, tg, tx, pl⟩ ++ textW ⟨n, an, tg, tx, pl⟩)) = ⟨n, a, tg, tx, pl⟩ := by
      intro a
      cases he : tg.isEmpty with
      | true =>
        have : tagW ⟨n, an, tg, tx, pl⟩ = [] := by unfold tagW; simp only; rw [he]; rfl
        rw [this, List.nil_append, hE]
        rw [List.isEmpty_iff.1 he]
      | false =>
        have e : tagW ⟨n, an, tg, tx, pl⟩ = 32 :: Tg.word tg := by unfold tagW; simp only; rw [he]; rfl
        have hr : Tg.right tg = true := by
          unfold mayTag at ht
          rw [he, Bool.false_or] at ht; exact ht
        rw [e]
        have e2 : tailOf (32 :: Tg.word tg ++ textW ⟨n, an, tg, tx, pl⟩) = Tg.word tg ++ textW ⟨n, an, tg, tx, pl⟩ := rfl
        rw [e2, guess_tag _ a tg _ hr (led_text _), hE]
    cases he : an.isEmpty with
    | true =>
      have e : anchorW ⟨n, an, tg, tx, pl⟩ = [] := by unfold anchorW; simp only; rw [he]; rfl
      rw [e, List.nil_append]
      have hl := led_tag ⟨n, an, tg, tx, pl⟩
      have h2 := hT []
      have ean := List.isEmpty_iff.1 he
      rcases hl with hl | ⟨t, hl⟩
      · rw [hl] at h2 ⊢
        rw [List.append_nil, guessD_bare n hn]
        have h3 : guessG n [] [] (tailOf []) = ⟨n, [], [], [], false⟩ := guessG_nil _ _ _
        rw [h3] at h2
        rw [h2, ean]
      · rw [hl] at h2 ⊢
        rw [guessD_sign n hn]
        have h3 : tailOf (32 :: t) = t := rfl
        rw [h3] at h2
        rw [h2, ean]
    | false =>
      have e : anchorW ⟨n, an, tg, tx, pl⟩ = 32 :: 38 :: an := by unfold anchorW; simp only; rw [he]; rfl
      have hnm : Lx.name an = true := by
        unfold mayName at ha
        rw [he, Bool.false_or] at ha; exact ha
      have hf := Lx.name_form an hnm
      rw [e]
      have e2 : sign n ++ (32 :: 38 :: an ++ (tagW ⟨n, an, tg, tx, pl⟩ ++ textW ⟨n, an, tg, tx, pl⟩)) = sign n ++ 32 :: (38 :: (an ++ (tagW ⟨n, an, tg, tx, pl⟩ ++ textW ⟨n, an, tg, tx, pl⟩))) := by simp
      rw [e2, guessD_sign n hn, guess_anchor _ an [] _ hf.2.1 (led_tag _) 38 (.inl rfl), hT]
/-- the document's reading of printed events -/
theorem evsD_print (es : List E) (h : right es = true) : evsD (print es) = es := by
  have hp : print es = es.flatMap lineN := if_pos h
  unfold evsD
  rw [hp, scanD_print es fun x hx => line_no x (right_fill es h x hx), List.map_map]
  have : ∀ x ∈ es, (guessD ∘ line) x = x := fun x hx => guess_fill x (right_fill es h x hx) (right_kinds es h x hx).1 (right_kinds es h x hx).2
  rw [List.map_congr_left this, List.map_id']
/-- THE DOCUMENT's Parse IS THE PROGRAM's: what it might be, if that prints as it -/
theorem parse_doc (s : List UInt8) : parse s = if print (evsD s) = s then some (evsD s) else none := by
  by_cases h : print (evsD s) = s
  · rw [if_pos h]
    cases hr : right (evsD s) with
    | true =>
      have := parse_print (evsD s) hr
      rw [h] at this; exact this
    | false =>
      have hp : print (evsD s) = [] := by unfold print; rw [hr]; rfl
      rw [hp] at h
      subst h
      exact absurd hr (by decide)
  · rw [if_neg h]
    cases hp : parse s with
    | none => rfl
    | some es =>
      have h1 := print_parse s es hp
      cases hr : right es with
      | true =>
        have := evsD_print es hr
        rw [h1] at this
        rw [this] at h
        exact absurd h1 h
      | false =>
        have hp2 : print es = [] := by unfold print; rw [hr]; rfl
        rw [hp2] at h1
        subst h1
        exact absurd rfl h
end Ev
end Go.Proofs.YthkedlcmpibkjaaGreatDoor
namespace Go.Proofs.YthkedlcmpibkjaaGreatDoor
namespace Ev
theorem take4_short (s : List UInt8) (h : s.length < 4) (j : Nat) (hj : j < 8) : s.take 4 ≠ sign j := by
  intro e
  have hl : (sign j).length = 4 := by
    match j, hj with
    | 0, _ | 1, _ | 2, _ | 3, _ | 4, _ | 5, _ | 6, _ | 7, _ => rfl
  have := congrArg List.length e
  rw [List.length_take, hl] at this
  omega
theorem wordD_at (l : List UInt8) (k : Nat) (h : k < l.length) : wordD (l.drop k) = if l[k] = 32 then ([], l.drop (k + 1)) else (l[k] :: (wordD (l.drop (k + 1))).1, (wordD (l.drop (k + 1))).2) := by
  rw [List.drop_eq_getElem_cons h]
  conv => lhs; unfold wordD
end Ev
open Go.RowKit
theorem below_drewD {B : Nat} {w w1 : World} (h : Below B w w1) (n : Nat) : Below B w (w1.drewN n) := ⟨h.os, h.tape, h.output, h.size, h.block⟩
theorem sign_one (w : World) (k : Nat) (hk : k < 8) : (w.alloc (.cells #[.string ⟨#[43, 100, 111, 99]⟩, .string ⟨#[45, 100, 111, 99]⟩, .string ⟨#[43, 115, 101, 113]⟩, .string ⟨#[45, 115, 101, 113]⟩, .string ⟨#[43, 109, 97, 112]⟩, .string ⟨#[45, 109, 97, 112]⟩, .string ⟨#[61, 118, 97, 108]⟩, .string ⟨#[61, 97, 108, 105]⟩] 9)).cell? ⟨w.heap.size, k, none⟩ = some (.string (str (Ev.sign k))) :=
  cell_blk (alloc_blk w (.cells signCells 9)) k _ (sign_cell ⟨k, hk⟩)

set_option maxHeartbeats 2000000 in
set_option maxRecDepth 100000 in
theorem kindR_any (s : ByteArray) (w : World) (hs : s.size ≤ 1000000) :
    Calls Tryz.prog 24 #[.string s] w fun e w' => e = .returned (.int .i64 (Ev.kindD s.data.toList)) ∧ Below w.heap.size w w' := by
  obtain ⟨ANS, hANS⟩ : ∃ ANS, Ev.kindD s.data.toList = ANS := ⟨_, rfl⟩
  rw [hANS]
  have HA : Hid (Ev.kindF s.data.toList (8 - 0) = ANS) := hANS
  clear hANS
  have HS := Lib.hid (fun k hk => sign_one w k hk)
  have hbn := bnew w (.cells #[.string ⟨#[43, 100, 111, 99]⟩, .string ⟨#[45, 100, 111, 99]⟩, .string ⟨#[43, 115, 101, 113]⟩, .string ⟨#[45, 115, 101, 113]⟩, .string ⟨#[43, 109, 97, 112]⟩, .string ⟨#[45, 109, 97, 112]⟩, .string ⟨#[61, 118, 97, 108]⟩, .string ⟨#[61, 97, 108, 105]⟩] 9)
  have HE4 : Hid ((s.extract 0 4).toList = s.data.toList.take 4) := by show _ = _; rw [Lib.toList_data, Lib.extract_data]; rfl
  go_enter Tryz.func24, Tryz.ntmps24
  go_wp2
  generalize w.alloc (.cells #[.string ⟨#[43, 100, 111, 99]⟩, .string ⟨#[45, 100, 111, 99]⟩, .string ⟨#[43, 115, 101, 113]⟩, .string ⟨#[45, 115, 101, 113]⟩, .string ⟨#[43, 109, 97, 112]⟩, .string ⟨#[45, 109, 97, 112]⟩, .string ⟨#[61, 118, 97, 108]⟩, .string ⟨#[61, 97, 108, 105]⟩] 9) = W1 at *
  go_loopw [4] (fun i wr => ∃ j n : Nat, j ≤ 8 ∧ i = .int .i64 j ∧ Hid (Ev.kindF s.data.toList (8 - j) = ANS) ∧ wr = W1.drewN n) (fun i _ => 8 - (intOf i).toNat)
  case atStart => exact ⟨0, 0, by omega, rfl, HA, rfl⟩
  case round =>
    obtain ⟨j, n, hj, rfl, HK, rfl⟩ := hrel
    clear HA
    by_cases hlt : j < 8
    · have c0 := HS.out j hlt
      have hi0 : (0 : Int) ≤ (j : Int) := Int.natCast_nonneg _
      have hi1 : (j : Int) < 8 := by omega
      have hK := HK.out
      rw [Ev.kindF_step _ j hlt] at hK
      clear HK
      by_cases h4 : 4 ≤ s.size
      · have g4 : (4 : Int) ≤ (s.size : Int) := by omega
        have d4 : decide ((4 : Int) ≤ (s.size : Int)) = true := decide_eq_true g4
        by_cases he : s.data.toList.take 4 = Ev.sign j
        · rw [if_pos he] at hK
          have HF := Lib.hid hK
          have b1 : ((s.extract 0 4).toList == (str (Ev.sign j)).toList) = true := by rw [HE4.out, str_toL]; exact beq_iff_eq.2 he
          clear hK he
          generalize str (Ev.sign j) = SG at *
          go_wp2
          go_quiet (fail)
          go_wp2
          go_ret
          exact ⟨ret_int HF.out, by first | exact below_drewD (below_drewD hbn _) _ | exact below_drewD hbn _⟩
        · rw [if_neg he] at hK
          have HN : Hid (Ev.kindF s.data.toList (8 - (j + 1)) = ANS) := hK
          have b1 : ((s.extract 0 4).toList == (str (Ev.sign j)).toList) = false := by rw [HE4.out, str_toL]; exact beq_eq_false_iff_ne.2 he
          clear hK he
          generalize str (Ev.sign j) = SG at *
          go_wp2
          go_quiet (fail)
          go_wp2
          go_roundw
          case rel => exact ⟨j + 1, _, by omega, by go_num, HN, rfl⟩
          case measure => simp [intOf]; omega
      · have d4 : decide ((4 : Int) ≤ (s.size : Int)) = false := decide_eq_false (by omega)
        rw [if_neg (Ev.take4_short _ (by rw [← Lib.size_eq]; omega) j hlt)] at hK
        have HN : Hid (Ev.kindF s.data.toList (8 - (j + 1)) = ANS) := hK
        clear hK
        go_wp2
        go_quiet (fail)
        go_wp2
        go_roundw
        case rel => exact ⟨j + 1, _, by omega, by go_num, HN, rfl⟩
        case measure => simp [intOf]; omega
    · obtain rfl : j = 8 := by omega
      have HF : Hid ((-1 : Int) = ANS) := HK.out
      clear HK
      go_wp2
      go_ret
      exact ⟨ret_int HF.out, by first | exact below_drewD (below_drewD hbn _) _ | exact below_drewD hbn _⟩

set_option maxHeartbeats 2000000 in
set_option maxRecDepth 100000 in
theorem wordD_any (s : ByteArray) (w : World) (hs : s.size ≤ 1000000) :
    Calls Tryz.prog 25 #[.string s] w fun e w' => e = pairE (Ev.wordD s.data.toList).1 (Ev.wordD s.data.toList).2 ∧ ∃ n, w' = w.drewN n := by
  obtain ⟨A, hA⟩ : ∃ A, (Ev.wordD s.data.toList).1 = A := ⟨_, rfl⟩
  obtain ⟨B, hB⟩ : ∃ B, (Ev.wordD s.data.toList).2 = B := ⟨_, rfl⟩
  rw [hA, hB]
  have HI : Hid (s.data.toList.take 0 ++ (Ev.wordD (s.data.toList.drop 0)).1 = A ∧ (Ev.wordD (s.data.toList.drop 0)).2 = B) := ⟨by rw [List.take_zero, List.nil_append, List.drop_zero]; exact hA, by rw [List.drop_zero]; exact hB⟩
  clear hA hB
  go_enter Tryz.func25, Tryz.ntmps25
  go_wp2
  go_loop [4] (fun i => ∃ k : Nat, k ≤ s.size ∧ i = .int .i64 k ∧ Hid (s.data.toList.take k ++ (Ev.wordD (s.data.toList.drop k)).1 = A ∧ (Ev.wordD (s.data.toList.drop k)).2 = B)) (fun i => s.size - (intOf i).toNat)
  case atStart => exact ⟨0, by omega, rfl, HI⟩
  case round =>
    obtain ⟨k, hk, rfl, HK⟩ := hrel
    clear HI
    by_cases hlt : k < s.size
    · have hkl : k < s.data.toList.length := by rw [← Lib.size_eq]; exact hlt
      have hgk : s.data.toList[k] = s[k] := rfl
      obtain ⟨h1, h2⟩ := HK.out
      rw [Ev.wordD_at _ k hkl, hgk] at h1 h2
      clear HK
      by_cases hc : s[k] = 32
      · have b1 : ((s[k].toNat : Int) == 32) = true := by rw [hc]; rfl
        rw [if_pos hc] at h1 h2
        simp only [List.append_nil] at h1 h2
        have H1 : Hid ((s.extract 0 k).data.toList = A) := by show _ = _; rw [Lib.extract_data, ← h1]; rfl
        have H2 : Hid ((s.extract (k + 1) s.size).data.toList = B) := by show _ = _; rw [Lib.extract_to_end, h2]
        clear h1 h2 hc hgk
        have i1 : (0 : Int) ≤ (k : Int) := Int.natCast_nonneg _
        have i2 : (k : Int) ≤ (s.size : Int) := by omega
        have i3 : (k : Int) + 1 ≤ (s.size : Int) := by omega
        have i4 : (0 : Int) ≤ (k : Int) + 1 := by omega
        have i5 : IntKind.i64.wrap ((k : Int) + 1) = k + 1 := IntWalk.i64_in _ (by omega)
        have i6 : ((k : Int) + 1).toNat = k + 1 := by omega
        go_wp2
        go_quiet (fail)
        go_wp2
        go_ret2
        exact ⟨pairE_of H1.out H2.out, _, rfl⟩
      · have b1 : ((s[k].toNat : Int) == 32) = false := beq_eq_false_iff_ne.2 (fun e => hc (UInt8.toNat_inj.1 (by have : (32 : UInt8).toNat = 32 := rfl; omega)))
        rw [if_neg hc] at h1 h2
        simp only at h1 h2
        have HN : Hid (s.data.toList.take (k + 1) ++ (Ev.wordD (s.data.toList.drop (k + 1))).1 = A ∧ (Ev.wordD (s.data.toList.drop (k + 1))).2 = B) := ⟨by rw [List.take_succ_eq_append_getElem hkl, List.append_assoc, hgk]; exact h1, h2⟩
        clear h1 h2 hc hgk
        go_wp2
        go_round
        case rel => exact ⟨k + 1, by omega, by go_num, HN⟩
        case measure => simp [intOf]; omega
    · obtain rfl : k = s.size := by omega
      obtain ⟨h1, h2⟩ := HK.out
      rw [Tag.drop_nil s s.size (Nat.le_refl _)] at h1 h2
      have hE : s.data.toList.take s.size = s.data.toList := List.take_of_length_le (by rw [← Lib.size_eq]; exact Nat.le_refl _)
      rw [hE] at h1
      have H1 : Hid (s.data.toList = A) := by show _ = _; rw [← h1]; unfold Ev.wordD; simp
      have H2 : Hid ([] = B) := by show _ = _; rw [← h2]; unfold Ev.wordD; rfl
      clear HK h1 h2 hE
      go_wp2
      go_ret2
      exact ⟨pairE_of H1.out H2.out, 0, rfl⟩
theorem kindS (l : List UInt8) (w : World) (h : l.length ≤ 1000000) : Calls Tryz.prog 24 #[.string (str l)] w fun e w' => e = .returned (.int .i64 (Ev.kindD l)) ∧ Below w.heap.size w w' := kindR_any (str l) w (by rw [str_len]; exact h)
theorem wordS (l : List UInt8) (w : World) (h : l.length ≤ 1000000) : Calls Tryz.prog 25 #[.string (str l)] w fun e w' => e = .returned (.tuple #[.string (str (Ev.wordD l).1), .string (str (Ev.wordD l).2)]) ∧ Below w.heap.size w w' :=
  (wordD_any (str l) w (by rw [str_len]; exact h)).mono fun _ _ h => ⟨h.1, by obtain ⟨n, hn⟩ := h.2; exact below_same hn⟩
end Go.Proofs.YthkedlcmpibkjaaGreatDoor
namespace Go.Proofs.YthkedlcmpibkjaaGreatDoor
open Go.RowKit
theorem unqD (s : ByteArray) (w : World) (h : s.size ≤ 10000) : Calls Tryz.prog 26 #[.string s] w fun e w' => e = .returned (.tuple #[.string (str ((unquoteOf s.data.toList).getD [])), .int .i64 (if (unquoteOf s.data.toList).isSome then 0 else 10)]) ∧ Below w.heap.size w w' := by
  rw [← unquote_same]; exact unquoteR_any s w h
theorem readD (s : ByteArray) (w : World) (h : s.size ≤ 1000000) : Calls Tryz.prog 27 #[.string s] w fun e w' => e = .returned (.tuple #[.string (str ((Tg.read s.data.toList).getD [])), .int .i64 (if (Tg.read s.data.toList).isSome then 0 else 14)]) ∧ Below w.heap.size w w' := by
  rw [Tg.read_eq]; exact Tag.readR_any s w h
theorem evV_eq (x : Ev.E) (k : Int) (a t u : List UInt8) (p : Bool) (h : (⟨k, a, t, u, p⟩ : Ev.E) = x) : Ending.returned (.agg #[.int .i64 k, .string (str a), .string (str t), .string (str u), .bool p]) = .returned (evV x) := by subst h; rfl
theorem str_pos (l : List UInt8) (h : l ≠ []) : 0 < (str l).size := by rw [str_len]; exact List.length_pos_iff.2 h
theorem byte_ne (b : UInt8) (n : Nat) (h : b.toNat ≠ n) : ((b.toNat : Int) == (n : Int)) = false := beq_eq_false_iff_ne.2 (by omega)
theorem byte_eq (b : UInt8) (n : Nat) (h : b.toNat = n) : ((b.toNat : Int) == (n : Int)) = true := beq_iff_eq.2 (by omega)
theorem fst_at (W : ByteArray) (h : 0 < W.size) : Ev.fst W.data.toList = (W[0]'h).toNat := by
  have e : W.data.toList = W[0] :: W.data.toList.drop 1 := by
    have := Sc.drop_cons W 0 h
    rw [List.drop_zero] at this
    exact this
  rw [e]; rfl
def zeroE : Array Value := #[.int .i64 0, .string ⟨#[]⟩, .string ⟨#[]⟩, .string ⟨#[]⟩, .bool false]

set_option maxHeartbeats 4000000 in
set_option maxRecDepth 100000 in
theorem guess_any (l : List UInt8) (w : World) (hl : l.length ≤ 3000) :
    Calls Tryz.prog 15 #[.string (str l)] w fun e w' => e = .returned (evV (Ev.guessD l)) ∧ Below w.heap.size w w' := by
  obtain ⟨ANS, hANS⟩ : ∃ ANS, Ev.guessD l = ANS := ⟨_, rfl⟩
  rw [hANS]
  unfold Ev.guessD at hANS
  have cK := fun w => kindS l w (by omega)
  have cW := fun w => wordS l w (by omega)
  have hwl := Ev.wordD_le l
  generalize Ev.kindD l = k at *
  generalize Ev.wordD l = P at *
  obtain ⟨p1, p2⟩ := P
  simp only at cW hwl hANS
  have HA := Lib.hid hANS
  have CK := Lib.hid cK
  have CW := Lib.hid cW
  clear hANS cK cW
  go_enter Tryz.func15, Tryz.ntmps15
  go_wp2_with (first
    | (go_at_call 24; refine (CK.out _).mono ?_; rintro e w1 ⟨rfl, hb1⟩; have hR1 := blk_below (alloc_blk w (.cells zeroE 42)) hb1; unfold zeroE at hR1; have HB1 := Lib.hid (bthen (bnew w _) hb1); have hz1 := hb1.size; rw [World.size_alloc] at hz1)
    | (go_at_call 25; refine (CW.out _).mono ?_; rintro e w2 ⟨rfl, hb2⟩; have hE2 := blk_below (alloc_blk w1 _) hb2; have hR2 := blk_below (blk_below hR1 (bnew w1 _)) hb2; have HB2 := Lib.hid (bthen (bthen HB1.out (bnew w1 _)) hb2)))
  clear hR1 hb1 hb2 CK CW
  generalize w1.heap.size = B1 at *
  have hne : ¬ w.heap.size = B1 := by omega
  have hle : w.heap.size ≤ B1 := by omega
  go_loopw [5] (fun rest wr => ∃ an tg r : List UInt8, rest = .string (str r) ∧ r.length ≤ 3000 ∧ Hid (Ev.guessG k an tg r = ANS) ∧ wr.heap[B1]? = some (.cells #[.int .i64 k, .string (str an), .string (str tg), .string ⟨#[]⟩, .bool false] 42) ∧ wr.heap[w.heap.size]? = some (.cells #[.int .i64 0, .string ⟨#[]⟩, .string ⟨#[]⟩, .string ⟨#[]⟩, .bool false] 42) ∧ Below w.heap.size w wr) (fun rest _ => sizeV rest)
  case atStart => exact ⟨[], [], p2, rfl, by omega, HA, hE2, hR2, HB2.out⟩
  case round =>
    obtain ⟨an, tg, r, rfl, hr, HK, hE, hR, hbw⟩ := hrel
    clear HA hE2 hR2 HB2 hz1 hwl hl
    by_cases h0 : r = []
    · subst h0
      have HF : Hid ((⟨k, an, tg, [], false⟩ : Ev.E) = ANS) := by have h := HK.out; rw [Ev.guessG_nil] at h; exact h
      clear HK
      rw [str_nil]
      obtain ⟨⟨d0, d1, d2, d3, d4⟩, f0, f1, f2, f3, f4⟩ := five hE
      obtain ⟨⟨r0, r1, r2, r3, r4⟩, q0, q1, q2, q3, q4⟩ := five hR
      go_wp2
      refine bodyPost_ret (v := .agg #[.int .i64 k, .string (str an), .string (str tg), .string ⟨#[]⟩, .bool false]) (by simp [results, go_sem, r0, r1, r2, r3, r4]) rfl ?_
      refine ⟨evV_eq ANS k an tg [] false HF.out, ?_⟩
      repeat (refine Below.setCell ?_ (by exact Nat.le_refl _) _)
      exact hbw
    · have hz := str_pos r h0
      have e1 := ba_isEmpty _ hz
      have n1 := ba_notnil _ hz
      have hst := Ev.guessG_step k an tg r h0
      have wl := Ev.wordD_le r
      have wlt := Ev.wordD_lt r h0
      have cW := fun w => wordS r w (by omega)
      have hK := HK.out
      rw [hst] at hK
      have zr := str_len r
      have zx : ((str r).extract 1 (str r).size).data.toList = r.drop 1 := Lib.extract_to_end (str r) 1
      clear HK hst h0
      generalize Ev.wordD r = P at *
      obtain ⟨a, nx⟩ := P
      simp only at cW wl wlt hK
      have hms : (str nx).size < (str r).size := by rw [str_len, zr]; exact wlt
      cases a with
      | nil =>
        rw [str_nil] at cW
        rw [if_neg (by simp), if_neg (by simp), if_neg (by simp)] at hK
        have HN := Lib.hid hK
        have CW3 := Lib.hid cW
        clear hK cW zx zr
        generalize str r = RS at *
        by_cases h6 : k = 6
        · subst h6
          go_wp2_with (go_at_call 25; refine (CW3.out _).mono ?_; rintro e w3 ⟨rfl, hb3⟩; have hE3 := blk_below hE hb3; have hR3 := blk_below hR hb3; obtain ⟨⟨d0, d1, d2, d3, d4⟩, f0, f1, f2, f3, f4⟩ := five hE3; have HB3 := Lib.hid (bthen hbw hb3))
          go_roundw
          case rel => exact ⟨an, tg, nx, rfl, by omega, HN, hE3, hR3, HB3.out⟩
          case measure => simp only [sizeV]; exact hms
        · have b6 : (k == 6) = false := beq_eq_false_iff_ne.2 h6
          go_wp2_with (go_at_call 25; refine (CW3.out _).mono ?_; rintro e w3 ⟨rfl, hb3⟩; have hE3 := blk_below hE hb3; have hR3 := blk_below hR hb3; obtain ⟨⟨d0, d1, d2, d3, d4⟩, f0, f1, f2, f3, f4⟩ := five hE3; have HB3 := Lib.hid (bthen hbw hb3))
          go_roundw
          case rel => exact ⟨an, tg, nx, rfl, by omega, HN, hE3, hR3, HB3.out⟩
          case measure => simp only [sizeV]; exact hms
      | cons c u =>
        obtain ⟨W, hW⟩ : ∃ W, str (c :: u) = W := ⟨_, rfl⟩
        have hWd : W.data.toList = c :: u := by rw [← hW]; rfl
        have hWs : 0 < W.size := by rw [← hW, str_len]; simp
        have hWl : W.size ≤ 3000 := by rw [← hW, str_len]; omega
        have hx : W[0] = c := by subst hW; rfl
        have hx0 : (0 : Int) < (W.size : Int) := by omega
        have hx1 : (1 : Int) ≤ (W.size : Int) := by omega
        have hz1 : (1 : Int) ≤ ((str r).size : Int) := by omega
        have e2 := ba_isEmpty W hWs
        have n2 := ba_notnil W hWs
        have hf : Ev.fst (c :: u) = c.toNat := rfl
        rw [hW] at cW
        rw [hf] at hK
        have HX : Hid ((W.extract 1 W.size).data.toList = (c :: u).drop 1) := by show _ = _; rw [Lib.extract_to_end, hWd]
        have CW3 := Lib.hid cW
        clear cW hW hf
        by_cases h6 : k = 6
        · subst h6
          by_cases c58 : c.toNat = 58
          · have x58 : ((W[0].toNat : Int) == 58) = true := by rw [hx]; exact byte_eq c 58 c58
            rw [if_pos ⟨rfl, by simp, .inl c58⟩, if_pos c58, decide_eq_true c58] at hK
            clear hx
            have CU := Lib.hid (fun w => unqD ((str r).extract 1 (str r).size) w (by rw [Lib.size_eq, zx, List.length_drop]; omega))
            rw [zx] at CU
            generalize (unquoteOf (r.drop 1)).getD [] = X at *
            generalize (if (unquoteOf (r.drop 1)).isSome = true then (0 : Int) else 10) = XE at *
            have HF : Hid ((⟨6, an, tg, X, true⟩ : Ev.E) = ANS) := hK
            clear hK zx wlt hms HX zr
            generalize str r = RS at *
            go_wp2_with (first
              | (go_at_call 25; refine (CW3.out _).mono ?_; rintro e w3 ⟨rfl, hb3⟩; have hE3 := blk_below hE hb3; have hR3 := blk_below hR hb3; obtain ⟨⟨d0, d1, d2, d3, d4⟩, f0, f1, f2, f3, f4⟩ := five hE3; have HB3 := Lib.hid (bthen hbw hb3))
              | (go_at_call 26; refine (CU.out _).mono ?_; rintro e w4 ⟨rfl, hb4⟩; clear d0 d1 d2 d3 d4 f0 f1 f2 f3 f4; have hE4 := blk_below (blk_set hE3 4 (.bool true)) hb4; have hR4 := blk_below (other_set hR3 ⟨B1, 4, none⟩ (.bool true) hne) hb4; simp only [List.setIfInBounds_toArray, List.set_cons_succ, List.set_cons_zero] at hE4; obtain ⟨⟨d0, d1, d2, d3, d4⟩, f0, f1, f2, f3, f4⟩ := five hE4; obtain ⟨⟨r0, r1, r2, r3', r4'⟩, q0, q1, q2, q3, q4⟩ := five hR4; have HB4 := Lib.hid (bthen (HB3.out.setCell (p := ⟨B1, 4, none⟩) hle (.bool true)) hb4)))
            refine bodyPost_ret (v := .agg #[.int .i64 6, .string (str an), .string (str tg), .string (str X), .bool true]) (by simp [results, go_sem, r0, r1, r2, r3', r4']) rfl ?_
            refine ⟨evV_eq ANS 6 an tg X true HF.out, ?_⟩
            repeat (refine Below.setCell ?_ (by first | exact Nat.le_refl _ | exact hle) _)
            exact HB4.out
          · have x58 : ((W[0].toNat : Int) == 58) = false := by rw [hx]; exact byte_ne c 58 c58
            by_cases c34 : c.toNat = 34
            · have x34 : ((W[0].toNat : Int) == 34) = true := by rw [hx]; exact byte_eq c 34 c34
              rw [if_pos ⟨rfl, by simp, .inr c34⟩, if_neg c58, decide_eq_false c58] at hK
              clear hx
              have CU := Lib.hid (fun w => unqD (str r) w (by omega))
              rw [str_dat] at CU
              generalize (unquoteOf (r)).getD [] = X at *
              generalize (if (unquoteOf (r)).isSome = true then (0 : Int) else 10) = XE at *
              have HF : Hid ((⟨6, an, tg, X, false⟩ : Ev.E) = ANS) := hK
              clear hK zx wlt hms HX zr
              generalize str r = RS at *
              go_wp2_with (first
                | (go_at_call 25; refine (CW3.out _).mono ?_; rintro e w3 ⟨rfl, hb3⟩; have hE3 := blk_below hE hb3; have hR3 := blk_below hR hb3; obtain ⟨⟨d0, d1, d2, d3, d4⟩, f0, f1, f2, f3, f4⟩ := five hE3; have HB3 := Lib.hid (bthen hbw hb3))
                | (go_at_call 26; refine (CU.out _).mono ?_; rintro e w4 ⟨rfl, hb4⟩; clear d0 d1 d2 d3 d4 f0 f1 f2 f3 f4; have hE4 := blk_below (blk_set hE3 4 (.bool false)) hb4; have hR4 := blk_below (other_set hR3 ⟨B1, 4, none⟩ (.bool false) hne) hb4; simp only [List.setIfInBounds_toArray, List.set_cons_succ, List.set_cons_zero] at hE4; obtain ⟨⟨d0, d1, d2, d3, d4⟩, f0, f1, f2, f3, f4⟩ := five hE4; obtain ⟨⟨r0, r1, r2, r3', r4'⟩, q0, q1, q2, q3, q4⟩ := five hR4; have HB4 := Lib.hid (bthen (HB3.out.setCell (p := ⟨B1, 4, none⟩) hle (.bool false)) hb4)))
              refine bodyPost_ret (v := .agg #[.int .i64 6, .string (str an), .string (str tg), .string (str X), .bool false]) (by simp [results, go_sem, r0, r1, r2, r3', r4']) rfl ?_
              refine ⟨evV_eq ANS 6 an tg X false HF.out, ?_⟩
              repeat (refine Below.setCell ?_ (by first | exact Nat.le_refl _ | exact hle) _)
              exact HB4.out
            · have x34 : ((W[0].toNat : Int) == 34) = false := by rw [hx]; exact byte_ne c 34 c34
              rw [if_neg (by rintro ⟨_, _, h⟩; omega)] at hK
              by_cases c38 : c.toNat = 38
              · have x38 : ((W[0].toNat : Int) == 38) = true := by rw [hx]; exact byte_eq c 38 c38
                rw [if_pos ⟨by simp, .inl c38⟩] at hK
                clear hx
                have HN : Hid (Ev.guessG 6 (W.extract 1 W.size).data.toList tg nx = ANS) := by show _ = _; rw [HX.out]; exact hK
                clear hK zx HX zr
                generalize str r = RS at *
                go_wp2_with (go_at_call 25; refine (CW3.out _).mono ?_; rintro e w3 ⟨rfl, hb3⟩; have hE3 := blk_below hE hb3; have hR3 := blk_below hR hb3; obtain ⟨⟨d0, d1, d2, d3, d4⟩, f0, f1, f2, f3, f4⟩ := five hE3; have HB3 := Lib.hid (bthen hbw hb3))
                go_roundw
                case rel =>
                  refine ⟨(W.extract 1 W.size).data.toList, tg, nx, rfl, by omega, HN, ?_, other_set hR3 ⟨B1, 1, none⟩ _ hne, HB3.out.setCell (p := ⟨B1, 1, none⟩) hle _⟩
                  have h := blk_set hE3 1 (.string (W.extract 1 W.size))
                  simp only [List.setIfInBounds_toArray, List.set_cons_succ, List.set_cons_zero] at h
                  rw [str_eq]; exact h
                case measure => simp only [sizeV]; exact hms
              · have x38 : ((W[0].toNat : Int) == 38) = false := by rw [hx]; exact byte_ne c 38 c38
                by_cases c42 : c.toNat = 42
                · have x42 : ((W[0].toNat : Int) == 42) = true := by rw [hx]; exact byte_eq c 42 c42
                  rw [if_pos ⟨by simp, .inr c42⟩] at hK
                  clear hx
                  have HN : Hid (Ev.guessG 6 (W.extract 1 W.size).data.toList tg nx = ANS) := by show _ = _; rw [HX.out]; exact hK
                  clear hK zx HX zr
                  generalize str r = RS at *
                  go_wp2_with (go_at_call 25; refine (CW3.out _).mono ?_; rintro e w3 ⟨rfl, hb3⟩; have hE3 := blk_below hE hb3; have hR3 := blk_below hR hb3; obtain ⟨⟨d0, d1, d2, d3, d4⟩, f0, f1, f2, f3, f4⟩ := five hE3; have HB3 := Lib.hid (bthen hbw hb3))
                  go_roundw
                  case rel =>
                    refine ⟨(W.extract 1 W.size).data.toList, tg, nx, rfl, by omega, HN, ?_, other_set hR3 ⟨B1, 1, none⟩ _ hne, HB3.out.setCell (p := ⟨B1, 1, none⟩) hle _⟩
                    have h := blk_set hE3 1 (.string (W.extract 1 W.size))
                    simp only [List.setIfInBounds_toArray, List.set_cons_succ, List.set_cons_zero] at h
                    rw [str_eq]; exact h
                  case measure => simp only [sizeV]; exact hms
                · have x42 : ((W[0].toNat : Int) == 42) = false := by rw [hx]; exact byte_ne c 42 c42
                  rw [if_neg (by rintro ⟨_, h⟩; omega), if_pos (by simp)] at hK
                  clear hx
                  have CR := Lib.hid (fun w => readD W w (by omega))
                  rw [hWd] at CR
                  generalize (Tg.read (c :: u)).getD [] = T at *
                  generalize (if (Tg.read (c :: u)).isSome = true then (0 : Int) else 14) = TE at *
                  have HN := Lib.hid hK
                  clear hK zx HX zr
                  generalize str r = RS at *
                  go_wp2_with (first
                    | (go_at_call 25; refine (CW3.out _).mono ?_; rintro e w3 ⟨rfl, hb3⟩; have hE3 := blk_below hE hb3; have hR3 := blk_below hR hb3; obtain ⟨⟨d0, d1, d2, d3, d4⟩, f0, f1, f2, f3, f4⟩ := five hE3; have HB3 := Lib.hid (bthen hbw hb3))
                    | (go_at_call 27; refine (CR.out _).mono ?_; rintro e w4 ⟨rfl, hb4⟩; clear d0 d1 d2 d3 d4 f0 f1 f2 f3 f4; have hE4 := blk_below hE3 hb4; have hR4 := blk_below hR3 hb4; obtain ⟨⟨d0, d1, d2, d3, d4⟩, f0, f1, f2, f3, f4⟩ := five hE4; have HB4 := Lib.hid (bthen HB3.out hb4)))
                  go_roundw
                  case rel =>
                    refine ⟨an, T, nx, rfl, by omega, HN, ?_, other_set hR4 ⟨B1, 2, none⟩ _ hne, HB4.out.setCell (p := ⟨B1, 2, none⟩) hle _⟩
                    have h := blk_set hE4 2 (.string (str T))
                    simp only [List.setIfInBounds_toArray, List.set_cons_succ, List.set_cons_zero] at h
                    exact h
                  case measure => simp only [sizeV]; exact hms
        · have b6 : (k == 6) = false := beq_eq_false_iff_ne.2 h6
          rw [if_neg (fun h => h6 h.1)] at hK
          by_cases c38 : c.toNat = 38
          · have x38 : ((W[0].toNat : Int) == 38) = true := by rw [hx]; exact byte_eq c 38 c38
            rw [if_pos ⟨by simp, .inl c38⟩] at hK
            clear hx
            have HN : Hid (Ev.guessG k (W.extract 1 W.size).data.toList tg nx = ANS) := by show _ = _; rw [HX.out]; exact hK
            clear hK zx HX zr
            generalize str r = RS at *
            go_wp2_with (go_at_call 25; refine (CW3.out _).mono ?_; rintro e w3 ⟨rfl, hb3⟩; have hE3 := blk_below hE hb3; have hR3 := blk_below hR hb3; obtain ⟨⟨d0, d1, d2, d3, d4⟩, f0, f1, f2, f3, f4⟩ := five hE3; have HB3 := Lib.hid (bthen hbw hb3))
            go_roundw
            case rel =>
              refine ⟨(W.extract 1 W.size).data.toList, tg, nx, rfl, by omega, HN, ?_, other_set hR3 ⟨B1, 1, none⟩ _ hne, HB3.out.setCell (p := ⟨B1, 1, none⟩) hle _⟩
              have h := blk_set hE3 1 (.string (W.extract 1 W.size))
              simp only [List.setIfInBounds_toArray, List.set_cons_succ, List.set_cons_zero] at h
              rw [str_eq]; exact h
            case measure => simp only [sizeV]; exact hms
          · have x38 : ((W[0].toNat : Int) == 38) = false := by rw [hx]; exact byte_ne c 38 c38
            by_cases c42 : c.toNat = 42
            · have x42 : ((W[0].toNat : Int) == 42) = true := by rw [hx]; exact byte_eq c 42 c42
              rw [if_pos ⟨by simp, .inr c42⟩] at hK
              clear hx
              have HN : Hid (Ev.guessG k (W.extract 1 W.size).data.toList tg nx = ANS) := by show _ = _; rw [HX.out]; exact hK
              clear hK zx HX zr
              generalize str r = RS at *
              go_wp2_with (go_at_call 25; refine (CW3.out _).mono ?_; rintro e w3 ⟨rfl, hb3⟩; have hE3 := blk_below hE hb3; have hR3 := blk_below hR hb3; obtain ⟨⟨d0, d1, d2, d3, d4⟩, f0, f1, f2, f3, f4⟩ := five hE3; have HB3 := Lib.hid (bthen hbw hb3))
              go_roundw
              case rel =>
                refine ⟨(W.extract 1 W.size).data.toList, tg, nx, rfl, by omega, HN, ?_, other_set hR3 ⟨B1, 1, none⟩ _ hne, HB3.out.setCell (p := ⟨B1, 1, none⟩) hle _⟩
                have h := blk_set hE3 1 (.string (W.extract 1 W.size))
                simp only [List.setIfInBounds_toArray, List.set_cons_succ, List.set_cons_zero] at h
                rw [str_eq]; exact h
              case measure => simp only [sizeV]; exact hms
            · have x42 : ((W[0].toNat : Int) == 42) = false := by rw [hx]; exact byte_ne c 42 c42
              rw [if_neg (by rintro ⟨_, h⟩; omega), if_pos (by simp)] at hK
              clear hx
              have CR := Lib.hid (fun w => readD W w (by omega))
              rw [hWd] at CR
              generalize (Tg.read (c :: u)).getD [] = T at *
              generalize (if (Tg.read (c :: u)).isSome = true then (0 : Int) else 14) = TE at *
              have HN := Lib.hid hK
              clear hK zx HX zr
              generalize str r = RS at *
              go_wp2_with (first
                | (go_at_call 25; refine (CW3.out _).mono ?_; rintro e w3 ⟨rfl, hb3⟩; have hE3 := blk_below hE hb3; have hR3 := blk_below hR hb3; obtain ⟨⟨d0, d1, d2, d3, d4⟩, f0, f1, f2, f3, f4⟩ := five hE3; have HB3 := Lib.hid (bthen hbw hb3))
                | (go_at_call 27; refine (CR.out _).mono ?_; rintro e w4 ⟨rfl, hb4⟩; clear d0 d1 d2 d3 d4 f0 f1 f2 f3 f4; have hE4 := blk_below hE3 hb4; have hR4 := blk_below hR3 hb4; obtain ⟨⟨d0, d1, d2, d3, d4⟩, f0, f1, f2, f3, f4⟩ := five hE4; have HB4 := Lib.hid (bthen HB3.out hb4)))
              go_roundw
              case rel =>
                refine ⟨an, T, nx, rfl, by omega, HN, ?_, other_set hR4 ⟨B1, 2, none⟩ _ hne, HB4.out.setCell (p := ⟨B1, 2, none⟩) hle _⟩
                have h := blk_set hE4 2 (.string (str T))
                simp only [List.setIfInBounds_toArray, List.set_cons_succ, List.set_cons_zero] at h
                exact h
              case measure => simp only [sizeV]; exact hms
end Go.Proofs.YthkedlcmpibkjaaGreatDoor
namespace Go.Proofs.YthkedlcmpibkjaaGreatDoor
namespace Ev
theorem scan_at (s : ByteArray) (j : Nat) (h : j < s.size) (cur : List UInt8) : scanD cur (s.data.toList.drop j) = if s[j] = 10 then cur :: scanD [] (s.data.toList.drop (j + 1)) else scanD (cur ++ [s[j]]) (s.data.toList.drop (j + 1)) := by
  rw [Sc.drop_cons s j h, scanD_cons]
theorem extract_one (s : ByteArray) (j : Nat) (h : j < s.size) : (s.extract j (j + 1)).data.toList = [s[j]] := by
  have e : j + 1 - j = 1 := by omega
  rw [Lib.extract_data, e, Sc.drop_cons s j h]; rfl
end Ev
open Go.RowKit
/-- what the document's Parse answers -/
def ParseD (B : Nat) (o : Option (List Ev.E)) (e : Ending) (w' : World) : Prop := match o with
  | none => e = .returned (.tuple #[.slice none 0 0, .int .i64 5])
  | some es => ∃ v, e = .returned (.tuple #[v, .int .i64 0]) ∧ OwnR w' B v es
theorem rdE_nil (w : World) (B : Nat) : RdE w B (.slice none 0 0) [] := ⟨none, 0, rfl, Nat.le_refl _, fun h => absurd h (by decide)⟩

set_option maxHeartbeats 4000000 in
set_option maxRecDepth 100000 in
theorem parseD_any (s : ByteArray) (w : World) (hs : s.size ≤ 3000) :
    Calls Tryz.prog 6 #[.string s] w fun e w' => ParseD w.heap.size (Ev.parse s.data.toList) e w' ∧ Below w.heap.size w w' := by
  rw [Ev.parse_doc]
  obtain ⟨XS, hXS⟩ : ∃ XS, Ev.evsD s.data.toList = XS := ⟨_, rfl⟩
  have hsm := Ev.evsD_small s.data.toList (by rw [← Lib.size_eq]; exact hs)
  rw [hXS] at hsm ⊢
  obtain ⟨hx1, hx2⟩ := hsm
  have hA : [] ++ (Ev.scanD [] (s.data.toList.drop 0)).map Ev.guessD = XS := by rw [List.drop_zero, List.nil_append]; exact hXS
  have HA := Lib.hid hA
  have HX2 : Hid (∀ x ∈ XS, x.anchor.length ≤ 5000 ∧ x.tag.length ≤ 5000 ∧ x.text.length ≤ 5000) := fun x hx => by have := hx2 x hx; exact ⟨by omega, by omega, by omega⟩
  obtain ⟨ANS, hANS⟩ : ∃ ANS, (if Ev.print XS = s.data.toList then some XS else none) = ANS := ⟨_, rfl⟩
  rw [hANS]
  have HANS := Lib.hid hANS
  clear hXS hA hx2 hANS
  go_enter Tryz.func6, Tryz.ntmps6
  go_wp2
  go_loopw [4, 5, 6] (fun ov lv i wr => ∃ (j : Nat) (xs : List Ev.E) (cur : List UInt8), j ≤ s.size ∧ i = .int .i64 j ∧ lv = .string (str cur) ∧ cur.length ≤ j ∧ xs.length ≤ j ∧ OwnR wr w.heap.size ov xs ∧ Hid (xs ++ (Ev.scanD cur (s.data.toList.drop j)).map Ev.guessD = XS) ∧ Below w.heap.size w wr) (fun _ _ i _ => s.size - (intOf i).toNat)
  case atStart => exact ⟨0, [], [], by omega, rfl, rfl, by simp, by simp, World.ownsRow_nil _ _ _ _, HA, Below.refl _ _⟩
  case round =>
    obtain ⟨j, xs, cur, hj, rfl, rfl, hcl, hxl, hown, HK, hbw⟩ := hrel
    clear HA
    have hBr := hbw.size
    by_cases hlt : j < s.size
    · have hK := HK.out
      rw [Ev.scan_at s j hlt] at hK
      clear HK
      have zc := str_len cur
      by_cases hc : s[j] = 10
      · have b1 : ((s[j].toNat : Int) != 10) = false := by rw [hc]; rfl
        rw [if_pos hc, List.map_cons] at hK
        have HN : Hid ((xs ++ [Ev.guessD cur]) ++ (Ev.scanD [] (s.data.toList.drop (j + 1))).map Ev.guessD = XS) := by show _ = _; rw [List.append_assoc]; exact hK
        have CG := Lib.hid (fun w => guess_any cur w (by omega))
        obtain ⟨va, vc, rfl⟩ := own_slice hown
        have HO := Lib.hid hown
        clear hK hc hown zc
        generalize Ev.guessD cur = x at *
        go_wp2_with (first
          | (go_at_call 15; refine (CG.out _).mono ?_; rintro e w2 ⟨rfl, hb2⟩; unfold evV; have hz2 := hb2.size)
          | (at_builtin; refine wpList_pushR rfl (.tmp 24) (.tmp 27) rfl w.heap.size _ xs x w2 _ _ rfl _ rfl ?ga ?hC ?hown ?hl ?hB ?_; (case ga => rfl); (case hC => rfl); (case hown => exact OwnR.below HO.out hb2); (case hl => omega); (case hB => omega); intro v' w4 ho4 hb4 hB4))
        go_roundw
        case rel => exact ⟨j + 1, xs ++ [x], [], by omega, by go_num, rfl, by simp, by rw [List.length_append]; simp; omega, ho4, HN, (bthen hbw hb2).trans hb4⟩
        case measure => simp [intOf]; omega
      · have b1 : ((s[j].toNat : Int) != 10) = true := bne_iff_ne.2 (fun e => hc (UInt8.toNat_inj.1 (by have : (10 : UInt8).toNat = 10 := rfl; omega)))
        rw [if_neg hc] at hK
        have HT : Hid (str cur ++ s.extract j (j + 1) = str (cur ++ [s[j]])) := Tag.to_str (by rw [Tag.app_data, str_dat, Ev.extract_one s j hlt])
        have HN : Hid (xs ++ (Ev.scanD (cur ++ [s[j]]) (s.data.toList.drop (j + 1))).map Ev.guessD = XS) := hK
        have hcl2 : (cur ++ [s[j]]).length ≤ j + 1 := by rw [List.length_append]; simp; omega
        have i1 : (0 : Int) ≤ (j : Int) := Int.natCast_nonneg _
        have i2 : (j : Int) ≤ (j : Int) + 1 := by omega
        have i3 : (j : Int) + 1 ≤ (s.size : Int) := by omega
        have i6 : ((j : Int) + 1).toNat = j + 1 := by omega
        have z1 : (str cur).size ≤ 3000 := by omega
        have z2 : (s.extract j (j + 1)).size ≤ 3000 := by rw [ByteArray.size_extract]; omega
        generalize cur ++ [s[j]] = cur2 at *
        clear hK hc zc
        generalize str cur = SC at *
        go_wp2
        go_roundw
        case rel => exact ⟨j + 1, xs, cur2, by omega, by go_num, by rw [← HT.out], hcl2, by omega, hown, HN, hbw⟩
        case measure => simp [intOf]; omega
    · obtain rfl : j = s.size := by omega
      have hK := HK.out
      rw [Tag.drop_nil s s.size (Nat.le_refl _)] at hK
      have hK2 : xs = XS := by have h : xs ++ [] = XS := hK; rw [List.append_nil] at h; exact h
      subst hK2
      clear HK hK
      have HR := Lib.hid (rowE_rd hown)
      have HO := Lib.hid hown
      obtain ⟨va, vc, rfl⟩ := own_slice hown
      have CP := Lib.hid (printR_any _ xs wr HR.out (by omega) HX2.out)
      by_cases hp : Ev.print xs = s.data.toList
      · have hA := HANS.out
        rw [if_pos hp] at hA
        subst hA
        have b1 : ((str (Ev.print xs)).toList == s.toList) = true := by rw [str_toL, Lib.toList_data]; exact beq_iff_eq.2 hp
        clear hp hown
        generalize str (Ev.print xs) = SP at *
        go_wp2_with (go_at_call 16; refine CP.out.mono ?_; rintro e w2 ⟨rfl, hb2⟩)
        go_ret2
        exact ⟨⟨_, rfl, OwnR.below HO.out hb2⟩, bthen hbw hb2⟩
      · have hA := HANS.out
        rw [if_neg hp] at hA
        subst hA
        have b1 : ((str (Ev.print xs)).toList == s.toList) = false := by rw [str_toL, Lib.toList_data]; exact beq_eq_false_iff_ne.2 hp
        clear hp hown
        generalize str (Ev.print xs) = SP at *
        go_wp2_with (go_at_call 16; refine CP.out.mono ?_; rintro e w2 ⟨rfl, hb2⟩)
        go_ret2
        exact ⟨rfl, bthen hbw hb2⟩

set_option maxHeartbeats 4000000 in
set_option maxRecDepth 100000 in
theorem reads_any (s : ByteArray) (w : World) (hs : s.size ≤ 9223372036854775807) (hE : Env w) :
    Calls Tryz.prog 3 #[.string s] w fun e w' => e = .returned (.bool true) ∧ Below w.heap.size w w' := by
  obtain ⟨l, rfl⟩ : ∃ l, s = str l := ⟨s.data.toList, (str_eq s).symm⟩
  have hsl := str_len l
  have cA := Lib.hid (alive_any w hE)
  have HE := Lib.hid hE
  clear hE
  by_cases hl3 : l.length ≤ 3000
  · have hlI : ¬ (3000 : Int) < ((str l).size : Int) := by rw [hsl]; omega
    have cP := Lib.hid (fun W (hE : Env W) => parse_any l W (by omega) (by have := Ev.linesF_len l.length l; omega) (Ev.fine_short l hl3) hE)
    have cD := Lib.hid (fun W => parseD_any (str l) W (by omega))
    have HPS := Lib.hid (Ev.parse_small l hl3)
    rw [str_dat] at cD
    cases hps : Ev.parse l with
    | none =>
      rw [hps] at cP cD
      have cO := Lib.hid (fun v W (h : RdE W W.heap.size v []) => ours_any v [] W h (by simp))
      have cS := Lib.hid (fun v u W (h : RdE W W.heap.size v []) (h' : RdE W W.heap.size u []) => sameE_any v u [] W h h' (by simp))
      clear hps HPS hsl
      generalize str l = S at *
      go_enter Tryz.func3, Tryz.ntmps3
      go_wp2_with (first
        | (go_at_call 4; refine cA.out.mono ?_; rintro e w1 ⟨rfl, hb1⟩)
        | (go_at_call 5; go_fit (cP.out _ (HE.out.below hb1)); rintro e w2 ⟨rfl, hb2⟩; have HB2 := Lib.hid (bthen hb1 hb2))
        | (go_at_call 6; go_fit (cD.out _); rintro e w3 ⟨rfl, hb3⟩; have HB3 := Lib.hid (bthen HB2.out hb3))
        | (go_at_call 8; go_fit (cO.out _ _ (rdE_nil _ _)); rintro e w4 ⟨⟨ov, rfl, hoo⟩, hb4⟩; obtain ⟨oa, oc, rfl⟩ := own_slice hoo; have HO4 := Lib.hid (rowE_rd hoo); have HB4 := Lib.hid (bthen HB3.out hb4); clear hoo)
        | (go_at_call 7; go_fit (cS.out _ _ _ HO4.out (rdE_nil _ _)); rintro e w5 ⟨rfl, hb5⟩))
      go_ret
      exact ⟨rfl, bthen HB4.out (by obtain ⟨n, hn⟩ := hb5; exact below_same hn)⟩
    | some es =>
      rw [hps] at cP cD
      obtain ⟨hm1, hm2⟩ := HPS.out es hps
      have cO := Lib.hid (fun v W (h : RdE W W.heap.size v es) => ours_any v es W h (by omega))
      have cS := Lib.hid (fun v u W (h : RdE W W.heap.size v es) (h' : RdE W W.heap.size u es) => sameE_any v u es W h h' (by omega))
      clear hps HPS hm2 hsl
      generalize str l = S at *
      go_enter Tryz.func3, Tryz.ntmps3
      go_wp2_with (first
        | (go_at_call 4; refine cA.out.mono ?_; rintro e w1 ⟨rfl, hb1⟩)
        | (go_at_call 5; go_fit (cP.out _ (HE.out.below hb1)); rintro e w2 ⟨⟨mv, rfl, hmo⟩, hb2⟩; obtain ⟨ma, mc, rfl⟩ := own_slice hmo; have HM2 := Lib.hid (rowE_rd hmo); have HB2 := Lib.hid (bthen hb1 hb2); clear hmo)
        | (go_at_call 6; go_fit (cD.out _); rintro e w3 ⟨⟨nv, rfl, hno⟩, hb3⟩; obtain ⟨na, nc, rfl⟩ := own_slice hno; have HN3 := Lib.hid (rowE_rd hno); have HB3 := Lib.hid (bthen HB2.out hb3); have HM3 := Lib.hid ((HM2.out.below hb3).mono hb3.size); clear hno)
        | (go_at_call 8; go_fit (cO.out _ _ HM3.out); rintro e w4 ⟨⟨ov, rfl, hoo⟩, hb4⟩; obtain ⟨oa, oc, rfl⟩ := own_slice hoo; have HO4 := Lib.hid (rowE_rd hoo); have HB4 := Lib.hid (bthen HB3.out hb4); have HN4 := Lib.hid ((HN3.out.below hb4).mono hb4.size); clear hoo)
        | (go_at_call 7; go_fit (cS.out _ _ _ HO4.out HN4.out); rintro e w5 ⟨rfl, hb5⟩))
      go_ret
      exact ⟨rfl, bthen HB4.out (by obtain ⟨n, hn⟩ := hb5; exact below_same hn)⟩
  · have hlI : (3000 : Int) < ((str l).size : Int) := by rw [hsl]; omega
    clear hsl
    generalize str l = S at *
    go_enter Tryz.func3, Tryz.ntmps3
    go_wp2_with (go_at_call 4; refine cA.out.mono ?_; rintro e w1 ⟨rfl, hb1⟩)
    go_ret
    exact ⟨rfl, hb1⟩
end Go.Proofs.YthkedlcmpibkjaaGreatDoor
