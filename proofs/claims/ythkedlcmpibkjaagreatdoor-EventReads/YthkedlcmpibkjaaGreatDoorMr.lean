/-
  Plain mathematics, no program's run in it: events come back from their lines.
-/
import Derived.Test.YthkedlcmpibkjaaGreatDoorEr
namespace Go.Proofs.YthkedlcmpibkjaaGreatDoor
namespace Tg
theorem in_name (l : List UInt8) (h : isName l = true) : ∀ b ∈ l, inName b = true := by
  unfold isName at h
  simp only [Bool.and_eq_true, List.all_eq_true] at h
  exact h.2
theorem inName_no (b : UInt8) (h : inName b = true) : b ≠ 10 ∧ b ≠ 32 ∧ b ≠ 33 := by
  unfold inName at h
  simp only [Bool.or_eq_true, Bool.and_eq_true, decide_eq_true_eq] at h
  refine ⟨?_, ?_, ?_⟩ <;> (rintro rfl; revert h; decide)
theorem own_form (l : List UInt8) (h : isOwn l = true) : ∃ t, l = 33 :: t ∧ isName t = true ∧ t ≠ [] := by
  unfold isOwn at h
  simp only [Bool.and_eq_true] at h
  cases l with
  | nil => simp [Lib.hasPrefix] at h
  | cons b t =>
    have hb : b = 33 := by
      have := h.1
      simp [Lib.hasPrefix, List.isPrefixOf] at this
      exact this.symm
    subst hb
    refine ⟨t, rfl, h.2, ?_⟩
    rintro rfl
    have := h.2
    simp [isName] at this
/-- a tag's word: it begins so, and has no blank and no break -/
theorem word_form (t : List UInt8) (h : right t = true) : ∃ r, word t = 33 :: r ∧ r ≠ [] ∧ (32 : UInt8) ∉ r ∧ (10 : UInt8) ∉ r := by
  unfold word
  split
  · rename_i hc
    refine ⟨33 :: t, rfl, by simp, ?_, ?_⟩
    · unfold core cores at hc
      simp only [List.contains_eq_mem, List.mem_cons, List.not_mem_nil, or_false, decide_eq_true_eq] at hc
      rcases hc with rfl | rfl | rfl | rfl | rfl | rfl | rfl <;> decide
    · unfold core cores at hc
      simp only [List.contains_eq_mem, List.mem_cons, List.not_mem_nil, or_false, decide_eq_true_eq] at hc
      rcases hc with rfl | rfl | rfl | rfl | rfl | rfl | rfl <;> decide
  · rename_i hc
    have ho : isOwn t = true := by
      unfold right at h
      simp only [Bool.or_eq_true] at h
      exact h.resolve_left hc
    obtain ⟨r, rfl, hr, hne⟩ := own_form t ho
    refine ⟨r, rfl, hne, fun hm => ?_, fun hm => ?_⟩
    · exact (inName_no _ (in_name r hr _ hm)).2.1 rfl
    · exact (inName_no _ (in_name r hr _ hm)).1 rfl
theorem back_word (t : List UInt8) (h : right t = true) : read (word t) = some t := by
  unfold read
  have ht : Lib.trimPrefix (word t) [33, 33] = t := by
    unfold word
    split
    · simp [Lib.trimPrefix, Lib.hasPrefix, List.isPrefixOf]
    · rename_i hc
      have ho : isOwn t = true := by
        unfold right at h
        simp only [Bool.or_eq_true] at h
        exact h.resolve_left hc
      obtain ⟨r, rfl, hr, hne⟩ := own_form t ho
      cases r with
      | nil => exact absurd rfl hne
      | cons b r =>
        have hb : ¬ (33 : UInt8) = b := fun e => (inName_no b (in_name _ hr b (by simp))).2.2 e.symm
        simp [Lib.trimPrefix, Lib.hasPrefix, List.isPrefixOf, hb]
  rw [ht, if_pos ⟨h, rfl⟩]
end Tg
namespace Lx
theorem name_form (l : List UInt8) (h : name l = true) : l ≠ [] ∧ (32 : UInt8) ∉ l ∧ (10 : UInt8) ∉ l := by
  unfold name at h
  simp only [Bool.and_eq_true, List.all_eq_true] at h
  have hin : ∀ b : UInt8, inName b = true → b ≠ 10 ∧ b ≠ 32 := fun b hb => by
    unfold inName at hb
    simp only [Bool.or_eq_true, Bool.and_eq_true, decide_eq_true_eq] at hb
    refine ⟨?_, ?_⟩ <;> (rintro rfl; revert hb; decide)
  refine ⟨?_, fun hm => (hin _ (h.2 _ hm)).2 rfl, fun hm => (hin _ (h.2 _ hm)).1 rfl⟩
  rintro rfl
  simp at h
end Lx
namespace Ev
theorem idx_app (a r : List UInt8) (c : UInt8) (h : c ∉ a) : Lib.indexByte (a ++ c :: r) c = a.length := by
  induction a with
  | nil => simp [Lib.indexByte]
  | cons x t ih =>
    have hx : ¬ x = c := fun e => h (by simp [e])
    have ih := ih fun e => h (by simp [e])
    rw [List.cons_append]
    unfold Lib.indexByte
    have hb : (x == c) = false := beq_eq_false_iff_ne.2 hx
    have hn : ((t.length : Int) == -1) = false := beq_eq_false_iff_ne.2 (by omega)
    rw [hb, ih, hn]
    simp
theorem idx_no (a : List UInt8) (c : UInt8) (h : c ∉ a) : Lib.indexByte a c = -1 := by
  induction a with
  | nil => rfl
  | cons x t ih =>
    have hx : ¬ x = c := fun e => h (by simp [e])
    have ih := ih fun e => h (by simp [e])
    unfold Lib.indexByte
    have hb : (x == c) = false := beq_eq_false_iff_ne.2 hx
    rw [hb, ih]; rfl
/-- a word, and what is behind it -/
theorem cutW_hit (c : UInt8) (a r : List UInt8) (ha : (32 : UInt8) ∉ a) (hr : r = [] ∨ ∃ t, r = 32 :: t) : cutW (32 :: c :: (a ++ r)) [32, c] = (c :: a, r) := by
  have hp : Lib.hasPrefix (32 :: c :: (a ++ r)) [32, c] = true := by simp [Lib.hasPrefix, List.isPrefixOf]
  have hd : (32 :: c :: (a ++ r)).drop 2 = a ++ r := rfl
  unfold cutW
  rw [if_pos hp, hd]
  rcases hr with rfl | ⟨t, rfl⟩
  · rw [List.append_nil, idx_no a 32 ha]
    rfl
  · rw [idx_app a t 32 ha, if_pos (by omega)]
    have e : ((a.length : Int)).toNat = a.length := by omega
    rw [e]
    have e1 : ((32 :: c :: (a ++ 32 :: t)).drop 1).take (1 + a.length) = c :: a := by
      simp [Nat.add_comm 1]
    have e2 : (32 :: c :: (a ++ 32 :: t)).drop (2 + a.length) = 32 :: t := by
      rw [Nat.add_comm 2]; simp
    rw [e1, e2]
theorem cutW_miss (s p : List UInt8) (h : Lib.hasPrefix s p = false) : cutW s p = ([], s) := by
  unfold cutW
  rw [h]; rfl
theorem quote_form (t : List UInt8) (h : Lib.validD t = true) : ∃ r, quoteOf t = 34 :: r := by unfold quoteOf; rw [if_pos h]; exact ⟨_, rfl⟩
/-- what stands behind the anchor, and behind the tag -/
theorem textW_form (x : E) (h : Lib.validD x.text = true) : textW x = [] ∨ ∃ c t, textW x = 32 :: c :: t ∧ (c = 34 ∨ c = 58) := by
  unfold textW
  split
  · right
    obtain ⟨r, hr⟩ := quote_form x.text h
    rw [hr]
    cases x.plain with
    | true => exact ⟨58, 34 :: r, rfl, .inr rfl⟩
    | false => exact ⟨34, r, rfl, .inl rfl⟩
  · exact .inl rfl
theorem cut_tag (x : E) (ht : mayTag x.tag = true) (hv : Lib.validD x.text = true) : cutW (tagW x ++ textW x) [32, 33] = (if x.tag.isEmpty then [] else Tg.word x.tag, textW x) := by
  have hf := textW_form x hv
  unfold tagW
  cases he : x.tag.isEmpty with
  | true =>
    simp only [if_true, List.nil_append]
    refine cutW_miss _ _ ?_
    rcases hf with e | ⟨c, t, e, hc⟩
    · rw [e]; rfl
    · rw [e]; rcases hc with rfl | rfl <;> simp [Lib.hasPrefix, List.isPrefixOf]
  | false =>
    simp only [Bool.false_eq_true, if_false]
    have hr : Tg.right x.tag = true := by unfold mayTag at ht; rw [he] at ht; exact ht
    obtain ⟨r, hw, _, h32, _⟩ := Tg.word_form x.tag hr
    rw [hw]
    have := cutW_hit 33 r (textW x) h32 (by rcases hf with e | ⟨c, t, e, _⟩; (exact .inl e); (exact .inr ⟨_, e⟩))
    rw [← this]; rfl
theorem cut_anchor (x : E) (hn : mayName x.anchor = true) (ht : mayTag x.tag = true) (hv : Lib.validD x.text = true) : cutW (anchorW x ++ (tagW x ++ textW x)) [32, 38] = (if x.anchor.isEmpty then [] else 38 :: x.anchor, tagW x ++ textW x) := by
  have hf := textW_form x hv
  have hrest : tagW x ++ textW x = [] ∨ ∃ c t, tagW x ++ textW x = 32 :: c :: t ∧ c ≠ 38 := by
    unfold tagW
    cases he : x.tag.isEmpty with
    | true =>
      simp only [if_true, List.nil_append]
      rcases hf with e | ⟨c, t, e, hc⟩
      · exact .inl e
      · exact .inr ⟨c, t, e, by rcases hc with rfl | rfl <;> decide⟩
    | false =>
      simp only [Bool.false_eq_true, if_false]
      have hr : Tg.right x.tag = true := by unfold mayTag at ht; rw [he] at ht; exact ht
      obtain ⟨r, hw, _, _, _⟩ := Tg.word_form x.tag hr
      rw [hw]
      exact .inr ⟨33, r ++ textW x, rfl, by decide⟩
  unfold anchorW
  cases he : x.anchor.isEmpty with
  | true =>
    simp only [if_true, List.nil_append]
    refine cutW_miss _ _ ?_
    rcases hrest with e | ⟨c, t, e, hc⟩
    · rw [e]; rfl
    · rw [e]
      have : ¬ (38 : UInt8) = c := fun e => hc e.symm
      simp [Lib.hasPrefix, List.isPrefixOf, this]
  | false =>
    simp only [Bool.false_eq_true, if_false]
    have hr : Lx.name x.anchor = true := by unfold mayName at hn; rw [he] at hn; exact hn
    obtain ⟨_, h32, _⟩ := Lx.name_form x.anchor hr
    have := cutW_hit 38 x.anchor (tagW x ++ textW x) h32 (by rcases hrest with e | ⟨c, t, e, _⟩; (exact .inl e); (exact .inr ⟨_, e⟩))
    rw [← this]; rfl
theorem read_nil : Tg.read [] = none := by decide
theorem read_back (x : E) (ht : mayTag x.tag = true) : (Tg.read (if x.tag.isEmpty then [] else Tg.word x.tag)).getD [] = x.tag := by
  cases he : x.tag.isEmpty with
  | true =>
    simp only [if_true]
    rw [read_nil, List.isEmpty_iff.1 he]; rfl
  | false =>
    simp only [Bool.false_eq_true, if_false]
    have hr : Tg.right x.tag = true := by unfold mayTag at ht; rw [he] at ht; exact ht
    rw [Tg.back_word x.tag hr]; rfl
theorem trim_anchor (x : E) : Lib.trimPrefix (if x.anchor.isEmpty then [] else 38 :: x.anchor) [38] = x.anchor := by
  cases he : x.anchor.isEmpty with
  | true => simp only [if_true]; rw [List.isEmpty_iff.1 he]; rfl
  | false => simp [Lib.trimPrefix, Lib.hasPrefix, List.isPrefixOf]
/-- what stands behind an event's sign -/
def rest (x : E) : List UInt8 := if x.kind = 7 then [32, 42] ++ x.anchor else anchorW x ++ (tagW x ++ textW x)
theorem fill_rest (x : E) (h : filled x = true) : fill x.kind (rest x) = x := by
  obtain ⟨k, an, tg, tx, pl⟩ := x
  unfold fill rest
  by_cases k7 : k = 7
  · subst k7
    unfold filled at h
    simp only [show ¬ ((7 : Int) = 2 ∨ (7 : Int) = 4) by decide, if_false, show ¬ (7 : Int) = 6 by decide, if_true, Bool.and_eq_true, List.isEmpty_iff, Bool.not_eq_true'] at h
    obtain ⟨⟨⟨rfl, rfl⟩, rfl⟩, _⟩ := h
    simp [Lib.trimPrefix, Lib.hasPrefix, List.isPrefixOf]
  · simp only [if_neg k7]
    have hm : mayName an = true ∧ mayTag tg = true ∧ Lib.validD tx = true ∧ (k ≠ 6 → tx = [] ∧ pl = false) := by
      unfold filled at h
      simp only at h
      split at h
      · rename_i h24
        simp only [Bool.and_eq_true, List.isEmpty_iff, Bool.not_eq_true'] at h
        obtain ⟨⟨⟨rfl, rfl⟩, h1⟩, h2⟩ := h
        exact ⟨h1, h2, rfl, fun _ => ⟨rfl, rfl⟩⟩
      · split at h
        · rename_i h6
          simp only [Bool.and_eq_true] at h
          exact ⟨h.1.1, h.1.2, h.2, fun hn => absurd h6 hn⟩
        · simp only [Bool.and_eq_true, List.isEmpty_iff, Bool.not_eq_true'] at h
          obtain ⟨⟨⟨rfl, rfl⟩, rfl⟩, rfl⟩ := h
          exact ⟨rfl, rfl, rfl, fun _ => ⟨rfl, rfl⟩⟩
    obtain ⟨hn, ht, hv, hp⟩ := hm
    have e1 := cut_anchor ⟨k, an, tg, tx, pl⟩ hn ht hv
    have e2 := cut_tag ⟨k, an, tg, tx, pl⟩ ht hv
    have e3 := trim_anchor ⟨k, an, tg, tx, pl⟩
    have e4 := read_back ⟨k, an, tg, tx, pl⟩ ht
    rw [e1]
    simp only
    rw [e2]
    simp only
    simp only at e3 e4
    rw [e3, e4]
    by_cases k6 : k = 6
    · subst k6
      rw [if_pos rfl]
      have eT : textW ⟨6, an, tg, tx, pl⟩ = 32 :: ((if pl then [58] else []) ++ quoteOf tx) := rfl
      have eU : Lib.trimPrefix (32 :: ((if pl then [58] else []) ++ quoteOf tx)) [32] = (if pl then [58] else []) ++ quoteOf tx := by simp [Lib.trimPrefix, Lib.hasPrefix, List.isPrefixOf]
      rw [eT, eU]
      obtain ⟨r, hr⟩ := quote_form tx hv
      have eV : Lib.trimPrefix ((if pl then [58] else []) ++ quoteOf tx) [58] = quoteOf tx := by
        rw [hr]; cases pl <;> simp [Lib.trimPrefix, Lib.hasPrefix, List.isPrefixOf]
      have eP : Lib.hasPrefix ((if pl then [58] else []) ++ quoteOf tx) [58] = pl := by
        rw [hr]; cases pl <;> simp [Lib.hasPrefix, List.isPrefixOf]
      rw [eV, eP, unquote_quote tx hv]; rfl
    · rw [if_neg k6]
      obtain ⟨rfl, rfl⟩ := hp k6
      rfl
theorem eventOf_sign (k : Nat) (hk : k < 8) (r : List UInt8) : eventOf (sign k ++ r) = some (fill (k : Int) r) := by
  match k, hk with
  | 0, _ => simp [eventOf, eventFrom, sign, signL, Lib.hasPrefix, Lib.trimPrefix, List.isPrefixOf]
  | 1, _ => simp [eventOf, eventFrom, sign, signL, Lib.hasPrefix, Lib.trimPrefix, List.isPrefixOf]
  | 2, _ => simp [eventOf, eventFrom, sign, signL, Lib.hasPrefix, Lib.trimPrefix, List.isPrefixOf]
  | 3, _ => simp [eventOf, eventFrom, sign, signL, Lib.hasPrefix, Lib.trimPrefix, List.isPrefixOf]
  | 4, _ => simp [eventOf, eventFrom, sign, signL, Lib.hasPrefix, Lib.trimPrefix, List.isPrefixOf]
  | 5, _ => simp [eventOf, eventFrom, sign, signL, Lib.hasPrefix, Lib.trimPrefix, List.isPrefixOf]
  | 6, _ => simp [eventOf, eventFrom, sign, signL, Lib.hasPrefix, Lib.trimPrefix, List.isPrefixOf]
  | 7, _ => simp [eventOf, eventFrom, sign, signL, Lib.hasPrefix, Lib.trimPrefix, List.isPrefixOf]
theorem eventOf_line (x : E) (h : filled x = true) (h0 : 0 ≤ x.kind) (h8 : x.kind < 8) : eventOf (line x) = some x := by
  have e : line x = sign x.kind.toNat ++ rest x := rfl
  rw [e, eventOf_sign _ (by omega), show ((x.kind.toNat : Nat) : Int) = x.kind by omega, fill_rest x h]
theorem sign_no : ∀ k, (10 : UInt8) ∉ sign k := by
  intro k
  unfold sign signL
  match k with
  | 0 | 1 | 2 | 3 | 4 | 5 | 6 | 7 => decide
  | n + 8 => simp
theorem line_no (x : E) (h : filled x = true) : (10 : UInt8) ∉ line x := by
  have hm : ((10 : UInt8) ∉ x.anchor) ∧ ((10 : UInt8) ∉ tagW x) := by
    have ha : (mayName x.anchor = true ∨ Lx.name x.anchor = true) → (10 : UInt8) ∉ x.anchor := by
      rintro (h | h)
      · unfold mayName at h
        simp only [Bool.or_eq_true, List.isEmpty_iff] at h
        rcases h with h | h
        · rw [h]; simp
        · exact (Lx.name_form _ h).2.2
      · exact (Lx.name_form _ h).2.2
    have hb : mayTag x.tag = true → (10 : UInt8) ∉ tagW x := by
      intro h
      unfold tagW
      cases he : x.tag.isEmpty with
      | true => simp
      | false =>
        have hr : Tg.right x.tag = true := by unfold mayTag at h; rw [he] at h; exact h
        obtain ⟨r, hw, _, _, h10⟩ := Tg.word_form x.tag hr
        rw [hw]
        simp only [Bool.false_eq_true, if_false, List.cons_append, List.nil_append, List.mem_cons, not_or]
        exact ⟨by decide, by decide, h10⟩
    unfold filled at h
    split at h
    · simp only [Bool.and_eq_true] at h
      exact ⟨ha (.inl h.1.2), hb h.2⟩
    · split at h
      · simp only [Bool.and_eq_true] at h
        exact ⟨ha (.inl h.1.1), hb h.1.2⟩
      · split at h
        · simp only [Bool.and_eq_true, List.isEmpty_iff] at h
          exact ⟨ha (.inr h.2), hb (by rw [h.1.1.1]; rfl)⟩
        · simp only [Bool.and_eq_true, List.isEmpty_iff] at h
          exact ⟨by rw [h.1.1.1]; simp, hb (by rw [h.1.1.2]; rfl)⟩
  have hq := quote_none x.text 10 (.inr rfl)
  unfold line
  have hs := sign_no x.kind.toNat
  intro hm'
  rcases List.mem_append.1 hm' with h1 | h1
  · exact hs h1
  · split at h1
    · simp only [List.cons_append, List.nil_append, List.mem_cons] at h1
      rcases h1 with h1 | h1 | h1
      · revert h1; decide
      · revert h1; decide
      · exact hm.1 h1
    · rcases List.mem_append.1 h1 with h1 | h1
      · unfold anchorW at h1
        split at h1
        · cases h1
        · simp only [List.cons_append, List.nil_append, List.mem_cons] at h1
          rcases h1 with h1 | h1 | h1
          · revert h1; decide
          · revert h1; decide
          · exact hm.1 h1
      · rcases List.mem_append.1 h1 with h1 | h1
        · exact hm.2 h1
        · unfold textW at h1
          split at h1
          · simp only [List.cons_append, List.nil_append, List.mem_cons, List.mem_append] at h1
            rcases h1 with h1 | h1 | h1
            · revert h1; decide
            · split at h1
              · simp only [List.mem_cons, List.not_mem_nil, or_false] at h1; revert h1; decide
              · cases h1
            · exact hq h1
          · cases h1
theorem index_app (a r : List UInt8) (c : UInt8) (h : c ∉ a) : Lib.index (a ++ c :: r) [c] = a.length := by
  induction a with
  | nil => simp [Lib.index, List.isPrefixOf]
  | cons x t ih =>
    have hx : ¬ c = x := fun e => h (by simp [e])
    have ih := ih fun e => h (by simp [e])
    have st : Lib.index (x :: (t ++ c :: r)) [c] = if List.isPrefixOf [c] (x :: (t ++ c :: r)) then 0 else if Lib.index (t ++ c :: r) [c] == -1 then -1 else Lib.index (t ++ c :: r) [c] + 1 := rfl
    have hp : List.isPrefixOf [c] (x :: (t ++ c :: r)) = false := by simp [List.isPrefixOf, hx]
    have hn : ((t.length : Int) == -1) = false := beq_eq_false_iff_ne.2 (by omega)
    rw [List.cons_append, st, hp, ih, hn]
    simp
theorem cut_line (a r : List UInt8) (h : (10 : UInt8) ∉ a) : Lib.cut (a ++ 10 :: r) [10] = (a, r, true) := by
  unfold Lib.cut
  rw [index_app a r 10 h, if_pos (by omega)]
  have e : ((a.length : Int)).toNat = a.length := by omega
  rw [e]
  simp
/-- the lines of printed events -/
theorem lines_print (es : List E) (h : ∀ x ∈ es, (10 : UInt8) ∉ line x) : ∀ n, (es.flatMap lineN).length ≤ n → linesF n (es.flatMap lineN) = es.map line := by
  induction es with
  | nil => intro n _; simp [linesF_nil]
  | cons x t ih =>
    intro n hn
    have e : (x :: t).flatMap lineN = line x ++ 10 :: t.flatMap lineN := by rw [List.flatMap_cons]; unfold lineN; simp
    rw [e] at hn ⊢
    obtain ⟨m, rfl⟩ : ∃ m, n = m + 1 := ⟨n - 1, by simp only [List.length_append, List.length_cons] at hn; omega⟩
    have hne : (line x ++ 10 :: t.flatMap lineN).isEmpty = false := by simp
    simp only [linesF]
    rw [hne, if_neg (by decide), cut_line _ _ (h x (by simp)), ih (fun y hy => h y (by simp [hy])) m (by simp only [List.length_append, List.length_cons] at hn; omega)]
    rfl
theorem evs_lines (es : List E) (h : ∀ x ∈ es, eventOf (line x) = some x) : evsOf (es.map line) = some es := by
  induction es with
  | nil => rfl
  | cons x t ih => simp only [List.map_cons, evsOf, h x (by simp), ih (fun y hy => h y (by simp [hy])), Option.map_some]
theorem right_fill (es : List E) (h : right es = true) : ∀ x ∈ es, filled x = true := by
  obtain ⟨_, h2, _⟩ := right_parts es h
  exact List.all_eq_true.1 h2
theorem print_lines (es : List E) (h : right es = true) : linesF (print es).length (print es) = es.map line := by
  have hp : print es = es.flatMap lineN := if_pos h
  rw [hp]
  exact lines_print es (fun x hx => line_no x (right_fill es h x hx)) _ (Nat.le_refl _)
theorem line_back (es : List E) (h : right es = true) : ∀ x ∈ es, eventOf (line x) = some x := fun x hx =>
  eventOf_line x (right_fill es h x hx) (right_kinds es h x hx).1 (right_kinds es h x hx).2
/-- EVENTS COME BACK FROM THEIR LINES -/
theorem parse_print (es : List E) (h : right es = true) : parse (print es) = some es := by
  unfold parse
  rw [print_lines es h, evs_lines es (line_back es h)]
  unfold keepP
  simp
/-- LINES COME BACK FROM THEIR EVENTS -/
theorem print_parse (s : List UInt8) (es : List E) (h : parse s = some es) : print es = s := by
  unfold parse keepP at h
  split at h
  · cases h
  · split at h
    · rename_i hp; cases h; exact hp
    · cases h
theorem parse_evs (s : List UInt8) (es : List E) (h : parse s = some es) : evsOf (linesF s.length s) = some es := by
  unfold parse keepP at h
  split at h
  · cases h
  · rename_i es' he
    split at h
    · cases h; exact he
    · cases h
theorem linesF_mem (n : Nat) : ∀ (s : List UInt8) (l : List UInt8), l ∈ linesF n s → l.length ≤ s.length := by
  induction n with
  | zero => intro s l h; cases h
  | succ n ih =>
    intro s l h
    simp only [linesF] at h
    split at h
    · cases h
    · rename_i he
      rcases List.mem_cons.1 h with rfl | h
      · exact cut_le s
      · have := ih _ l h
        have hp : 0 < s.length := by
          cases s with
          | nil => exact absurd rfl he
          | cons _ _ => simp
        have := cut_lt s hp
        omega
theorem linesF_len (n : Nat) : ∀ s : List UInt8, (linesF n s).length ≤ n := by
  induction n with
  | zero => intro s; exact Nat.le_refl _
  | succ n ih =>
    intro s
    simp only [linesF]
    split
    · simp
    · have := ih (Lib.cut s [10]).2.1
      simp only [List.length_cons]; omega
theorem read_len (w t : List UInt8) (h : Tg.read w = some t) : t.length ≤ w.length := by
  unfold Tg.read at h
  split at h
  · cases h; exact Lib.trimPrefix_le _ _
  · cases h
theorem read_le (w : List UInt8) : ((Tg.read w).getD []).length ≤ w.length := by
  cases h : Tg.read w with
  | none => simp
  | some t => exact read_len w t h
theorem unq_le (l : List UInt8) : ((unquoteOf l).getD []).length ≤ 4 * l.length := by
  cases h : unquoteOf l with
  | none => simp
  | some t => exact (unquote_valid l t h).2
theorem fill_small (k : Int) (r : List UInt8) (h : r.length ≤ 3000) : (fill k r).anchor.length ≤ 12000 ∧ (fill k r).tag.length ≤ 12000 ∧ (fill k r).text.length ≤ 12000 := by
  have c1 := cutW_le r [32, 38]
  have c2 := cutW_le (cutW r [32, 38]).2 [32, 33]
  have t1 := Lib.trimPrefix_le (cutW r [32, 38]).1 [38]
  have t2 := read_le (cutW (cutW r [32, 38]).2 [32, 33]).1
  have t3 := Lib.trimPrefix_le (cutW (cutW r [32, 38]).2 [32, 33]).2 [32]
  have t4 := Lib.trimPrefix_le (Lib.trimPrefix (cutW (cutW r [32, 38]).2 [32, 33]).2 [32]) [58]
  have t5 := unq_le (Lib.trimPrefix (Lib.trimPrefix (cutW (cutW r [32, 38]).2 [32, 33]).2 [32]) [58])
  have t6 := Lib.trimPrefix_le r [32, 42]
  unfold fill
  split
  · exact ⟨by simp only; omega, by simp, by simp⟩
  · split
    · exact ⟨by simp only; omega, by simp only; omega, by simp only; omega⟩
    · exact ⟨by simp only; omega, by simp only; omega, by simp⟩
theorem eventFrom_small (l : List UInt8) (h : l.length ≤ 3000) : ∀ n x, eventFrom l n = some x → x.anchor.length ≤ 12000 ∧ x.tag.length ≤ 12000 ∧ x.text.length ≤ 12000 := by
  intro n
  induction n with
  | zero => intro x hx; cases hx
  | succ n ih =>
    intro x hx
    unfold eventFrom at hx
    split at hx
    · cases hx
      exact fill_small _ _ (by have := Lib.trimPrefix_le l (sign (7 - n)); omega)
    · exact ih x hx
/-- the lines of a short text can be walked -/
theorem fine_short (s : List UInt8) (h : s.length ≤ 3000) : Fine (linesF s.length s) := fun l hl => by
  have := linesF_mem _ s l hl
  refine ⟨by omega, fun x hx => ?_⟩
  have := eventFrom_small l (by omega) 8 x hx
  exact ⟨by omega, by omega, by omega⟩
theorem evs_mem : ∀ (ls : List (List UInt8)) (es : List E), evsOf ls = some es → es.length = ls.length ∧ ∀ x ∈ es, ∃ l ∈ ls, eventOf l = some x
  | [], es, h => by cases h; exact ⟨rfl, fun x hx => by cases hx⟩
  | l :: t, es, h => by
    simp only [evsOf] at h
    cases hx : eventOf l with
    | none => rw [hx] at h; cases h
    | some y =>
      rw [hx] at h
      cases ht : evsOf t with
      | none => rw [ht] at h; cases h
      | some us =>
        rw [ht] at h
        simp only [Option.map_some, Option.some.injEq] at h
        subst h
        have ih := evs_mem t us ht
        refine ⟨by simp [ih.1], fun x hx' => ?_⟩
        rcases List.mem_cons.1 hx' with rfl | hx'
        · exact ⟨l, by simp, hx⟩
        · obtain ⟨l', hl', he⟩ := ih.2 x hx'
          exact ⟨l', by simp [hl'], he⟩
theorem parse_small (s : List UInt8) (h : s.length ≤ 3000) (es : List E) (hp : parse s = some es) : es.length ≤ 3000 ∧ ∀ x ∈ es, Small x := by
  obtain ⟨h1, h2⟩ := evs_mem _ _ (parse_evs s es hp)
  have := linesF_len s.length s
  refine ⟨by omega, fun x hx => ?_⟩
  obtain ⟨l, hl, he⟩ := h2 x hx
  exact (fine_short s h l hl).2 x he
theorem line_short (x : E) (h : x.anchor.length ≤ 3000 ∧ x.tag.length ≤ 3000 ∧ x.text.length ≤ 3000) : (line x).length ≤ 50000 := by
  obtain ⟨h1, h2, h3⟩ := h
  unfold line anchorW tagW textW
  have a := sign_len x.kind.toNat
  have b := word_len x.tag
  have c := quote_len x.text
  split
  · simp only [List.length_append, List.length_cons, List.length_nil]; omega
  · repeat' split
    all_goals simp only [List.length_append, List.length_cons, List.length_nil]
    all_goals omega
theorem fine_print (es : List E) (h : right es = true) (hs : ∀ x ∈ es, x.anchor.length ≤ 3000 ∧ x.tag.length ≤ 3000 ∧ x.text.length ≤ 3000) : Fine (linesF (print es).length (print es)) := fun l hl => by
  rw [print_lines es h] at hl
  obtain ⟨x, hx, rfl⟩ := List.mem_map.1 hl
  refine ⟨line_short x (hs x hx), fun y hy => ?_⟩
  rw [line_back es h x hx] at hy
  cases hy
  have := hs x hx
  exact ⟨by omega, by omega, by omega⟩
end Ev
end Go.Proofs.YthkedlcmpibkjaaGreatDoor
