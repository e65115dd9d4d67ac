/-
  Plain mathematics: what the words and the lines of a text are, and how much these may tell.
-/
import Derived.Test.YtjcfmghijfnehaaGreatDoorKg
import Derived.Test.YtjcfmghijfnehaaGreatDoorJv
import Derived.Test.YtjcfmghijfnehaaGreatDoorMu
import Derived.Test.YtjcfmghijfnehaaGreatDoorMw
namespace Go.Proofs.YtjcfmghijfnehaaGreatDoor
namespace Px
open Lx (Wd Ln)
/-- a word as a line of so many bytes has it -/
def Gz (N : Nat) (x : Wd) : Prop := ((x.kind = 3 ∨ x.kind = 4) → Lx.name x.text = true) ∧ (x.kind = 5 → Tg.right x.text = true) ∧ (x.kind ≤ 2 → Lib.validD x.text = true) ∧ x.text.length ≤ N
theorem Gz.mono {N M : Nat} {x : Wd} (h : Gz N x) (hm : N ≤ M) : Gz M x := ⟨h.1, h.2.1, h.2.2.1, Nat.le_trans h.2.2.2 hm⟩
theorem one_valid {l : List UInt8} (h : oneLineB l = true) : Lib.validD l = true := by
  unfold oneLineB at h
  rw [Bool.and_eq_true] at h
  exact h.1
theorem undbl_len (l : List UInt8) : (Sc.undbl l).length ≤ l.length := by
  fun_induction Sc.undbl l with
  | case1 => simp
  | case2 b => simp
  | case3 b c t h ih => simp only [List.length_cons] at *; omega
  | case4 b c t h ih => simp only [List.length_cons] at *; omega
theorem unsingle_valid (l t : List UInt8) (h : unsingleOf l = some t) : Lib.validD t = true ∧ t.length ≤ l.length := by
  unfold unsingleOf at h
  split at h
  · cases h
  · split at h
    · rename_i hs
      cases h
      refine ⟨?_, ?_⟩
      · unfold singleOf at hs
        split at hs
        · rename_i ho; exact one_valid ho
        · cases hs
      · have := undbl_len ((l.drop 1).take (l.length - 2))
        rw [List.length_take] at this
        omega
    · cases h
theorem plain_valid (l : List UInt8) (h : plainB l = true) : Lib.validD l = true := by
  cases l with
  | nil => cases h
  | cons b t =>
    unfold plainB at h
    simp only [Bool.and_eq_true] at h
    exact one_valid h.2.1
theorem tread_right (w t : List UInt8) (h : Tg.read w = some t) : Tg.right t = true ∧ t.length ≤ w.length := by
  unfold Tg.read at h
  split at h
  · rename_i hc
    cases h
    refine ⟨hc.1, ?_⟩
    unfold Lib.trimPrefix
    split
    · rw [List.length_drop]; omega
    · exact Nat.le_refl _
  · cases h
theorem wtext_good (l t : List UInt8) (k p : Nat) (h : Lx.wtext l k = (t, 0)) : Gz (4 * l.length) ⟨k, t, p⟩ := by
  unfold Lx.wtext at h
  split at h
  · rename_i hk
    subst hk
    cases hu : unquoteOf l with
    | none => rw [hu] at h; cases h
    | some u =>
      rw [hu] at h
      cases h
      obtain ⟨h1, h2⟩ := Uq.unquote_valid l t hu
      exact ⟨fun h => by simp at h, fun h => by simp at h, fun _ => h1, h2⟩
  · split at h
    · rename_i hk
      subst hk
      cases hu : unsingleOf l with
      | none => rw [hu] at h; cases h
      | some u =>
        rw [hu] at h
        cases h
        obtain ⟨h1, h2⟩ := unsingle_valid l t hu
        exact ⟨fun h => by simp at h, fun h => by simp at h, fun _ => h1, by simp only; omega⟩
    · split at h
      · rename_i hk
        unfold Lx.chk at h
        split at h
        · rename_i hn
          cases h
          exact ⟨fun _ => hn, fun h => by simp only at h; omega, fun h => by simp only at h; omega, by simp only [List.length_drop]; omega⟩
        · cases h
      · split at h
        · rename_i hk
          subst hk
          cases hu : Tg.read l with
          | none => rw [hu] at h; cases h
          | some u =>
            rw [hu] at h
            cases h
            obtain ⟨h1, h2⟩ := tread_right l t hu
            exact ⟨fun h => by simp at h, fun _ => h1, fun h => by simp at h, by simp only; omega⟩
        · split at h
          · rename_i hk
            subst hk
            unfold Lx.chk at h
            split at h
            · rename_i hn
              cases h
              exact ⟨fun h => by simp at h, fun h => by simp at h, fun _ => plain_valid _ hn, by simp only; omega⟩
            · cases h
          · cases h
            exact ⟨fun h => by simp only at h; omega, fun h => by simp only at h; omega, fun h => by simp only at h; omega, Nat.zero_le _⟩
theorem wordAt_good (l : List UInt8) (k : Nat) (d : Bool) (x : Wd) (z : Nat) (h : Lx.wordAt l k d = .ok (x, z)) : Gz (4 * l.length) x := by
  unfold Lx.wordAt at h
  simp only at h
  split at h
  · cases h
  · split at h
    · split at h
      · rename_i h0
        cases h
        refine (wtext_good _ _ _ _ (Prod.ext rfl h0)).mono ?_
        rw [List.length_take, List.length_drop]; omega
      · cases h
    · cases h
theorem wordsGo_gz (l : List UInt8) : ∀ (n k : Nat) (d : Bool) (ws : List Wd), Lx.wordsGo l n k d = .ok ws → ∀ x ∈ ws, Gz (4 * l.length) x
  | 0, _, _, ws, h => by cases h; intro x hx; cases hx
  | n + 1, k, d, ws, h => by
    unfold Lx.wordsGo at h
    split at h
    · cases h; intro x hx; cases hx
    · split at h
      · cases h
      · rename_i y z hy
        split at h
        · cases h
        · rename_i zs hz
          cases h
          intro x hx
          rcases List.mem_cons.1 hx with rfl | hx
          · exact wordAt_good _ _ _ _ _ hy
          · exact wordsGo_gz l n _ _ zs hz x hx
theorem lineOf_gz (p : List UInt8) (x : Ln) (h : Lx.lineOf p = .ok x) : ∀ w ∈ x.words, Gz (4 * p.length) w := by
  unfold Lx.lineOf at h
  split at h
  · split at h
    · cases h
    · rename_i ws hw
      cases h
      unfold Lx.words at hw
      split at hw
      · exact wordsGo_gz _ _ _ _ _ hw
      · cases hw
  · cases h; intro w hw; cases hw
theorem blanks_take (p : List UInt8) : ∀ off, off ≤ Lx.blanks p → ∀ b ∈ p.take off, b.toNat < 128 := by
  induction p with
  | nil => intro off _ b hb; simp at hb
  | cons c t ih =>
    intro off h b hb
    cases off with
    | zero => simp at hb
    | succ off =>
      unfold Lx.blanks at h
      split at h
      · rename_i hc
        rw [List.take_succ_cons] at hb
        rcases List.mem_cons.1 hb with rfl | hb
        · unfold Lx.isB at hc; simp at hc; omega
        · exact ih off (by omega) b hb
      · omega
theorem textGo_valid (off : Nat) (ps : List (List UInt8)) : ∀ x, Lx.textGo off ps = .ok x → Lib.validD x = true := by
  induction ps with
  | nil => intro x h; cases h; decide
  | cons p t ih =>
    intro x h
    unfold Lx.textGo at h
    split at h
    · cases h
    · rename_i hr
      split at h
      · split at h
        · rename_i y hy
          cases h
          rw [Lib.validD_cons 10 y (by decide)]
          exact ih y hy
        · cases h
      · split at h
        · cases h
        · rename_i hb
          split at h
          · rename_i y hy
            cases h
            have hv : Lib.validD p = true := by
              unfold Lx.right at hr
              cases h : Lib.validD p
              · rw [h] at hr; simp at hr
              · rfl
            rw [Uq.valid_app, Lib.validD_cons 10 y (by decide)]
            · exact ih y hy
            · rw [← Lib.validD_ascii off p (blanks_take p off (by omega))]; exact hv
          · cases h
/-- a line as a text of so many bytes has it -/
def Gy (N : Nat) (x : Ln) : Prop := (∀ w ∈ x.words, Gz (4 * N) w) ∧ Lib.validD x.text = true ∧ x.text.length ≤ N
theorem Gy.mono {N M : Nat} {x : Ln} (h : Gy N x) (hm : N ≤ M) : Gy M x := ⟨fun w hw => (h.1 w hw).mono (by omega), h.2.1, by have := h.2.2; omega⟩
open Lx (tot tot_cons tot_drop tot_take consL readGo) in
theorem readGo_gy : ∀ (n : Nat) (ps : List (List UInt8)) (ls : List Ln), readGo n ps = .ok ls → (∀ x ∈ ls, Gy (tot ps) x) ∧ lnsW ls ≤ 14 * tot ps
  | 0, _, ls, h => by cases h; exact ⟨fun x hx => (by cases hx), Nat.zero_le _⟩
  | n + 1, [], ls, h => by cases h; exact ⟨fun x hx => (by cases hx), Nat.zero_le _⟩
  | n + 1, p :: t, ls, h => by
    have cons : ∀ (y : Ln) (r : Except Nat (List Ln)) (ls : List Ln), consL y r = .ok ls → ∃ zs, r = .ok zs ∧ ls = y :: zs := by
      intro y r ls h
      cases r with
      | error e => cases h
      | ok zs => cases h; exact ⟨zs, rfl, rfl⟩
    rw [tot_cons]
    unfold readGo at h
    split at h
    · cases h
    · rename_i x hx
      have hxl := Lx.lineOf_len p x hx
      have hxt := (Lx.lineOf_text p x hx).1
      have hxg := lineOf_gz p x hx
      split at h
      · split at h
        · cases h
        · rename_i y hy
          obtain ⟨zs, hz, rfl⟩ := cons _ _ _ h
          obtain ⟨i1, i2⟩ := readGo_gy n _ zs hz
          have hd := tot_drop t (Lx.textSize x.indent t)
          have hyv := textGo_valid _ _ _ (by unfold Lx.textOf at hy; exact hy)
          have hyl := Lx.textGo_len _ _ _ (by unfold Lx.textOf at hy; exact hy)
          have ht1 := tot_take (t.take (Lx.textSize x.indent t)) (Lx.withoutTail (t.take (Lx.textSize x.indent t)))
          have ht2 := tot_take t (Lx.textSize x.indent t)
          refine ⟨fun u hu => ?_, ?_⟩
          · rcases List.mem_cons.1 hu with rfl | hu
            · exact ⟨fun w hw => (hxg w hw).mono (by omega), hyv, by simp only; omega⟩
            · exact (i1 u hu).mono (by omega)
          · unfold lnsW; simp only; omega
      · split at h
        · obtain ⟨zs, hz, rfl⟩ := cons _ _ _ h
          obtain ⟨i1, i2⟩ := readGo_gy n _ zs hz
          refine ⟨fun u hu => ?_, ?_⟩
          · rcases List.mem_cons.1 hu with rfl | hu
            · exact ⟨fun w hw => (hxg w hw).mono (by omega), by rw [hxt]; decide, by rw [hxt]; exact Nat.zero_le _⟩
            · exact (i1 u hu).mono (by omega)
          · unfold lnsW; omega
        · obtain ⟨i1, i2⟩ := readGo_gy n _ ls h
          exact ⟨fun u hu => (i1 u hu).mono (by omega), by omega⟩
theorem read_gy (l : List UInt8) (ls : List Ln) (h : Lx.read l = .ok ls) : (∀ x ∈ ls, Gy (l.length + 1) x) ∧ lnsW ls ≤ 14 * (l.length + 1) := by
  have := readGo_gy _ _ _ h
  rwa [Lx.tot_pieces] at this
theorem read_gl (l : List UInt8) (ls : List Ln) (hl : l.length ≤ 12000) (h : Lx.read l = .ok ls) : ∀ x ∈ ls, GL x := fun x hx => by
  obtain ⟨h1, h2, h3⟩ := (read_gy l ls h).1 x hx
  refine ⟨fun w hw => ?_, h2, by omega⟩
  obtain ⟨g1, g2, g3, g4⟩ := h1 w hw
  exact ⟨g1, g2, g3, by omega⟩
theorem read_led (l : List UInt8) (ls : List Ln) (h : Lx.read l = .ok ls) : ∀ x ∈ ls, Led x ∧ x.mark ≤ 2 := fun x hx => by
  obtain ⟨h1, h2⟩ := Lx.read_good l ls h x hx
  refine ⟨fun hm => ?_, ?_⟩
  · obtain ⟨⟨y, t, e1, e2⟩, _⟩ := h2 hm
    exact ⟨y, t, e1, by rw [e2]⟩
  · rcases Nat.eq_zero_or_pos x.mark with h0 | h0
    · omega
    · rcases (h1 (by omega)).1 with h | h <;> omega
/-- WHAT A TEXT TELLS MAY BE -/
theorem text_right (l : List UInt8) (es : List Ev.E) (hl : l.length ≤ 12000) (h : text l = .ok es) : es.all Ev.filled = true ∧ Ev.nested (Ev.kinds es) = true ∧ Ev.dmax (Ev.kinds es) ≤ 40 ∧ ∀ x ∈ es, Ev.Small x := by
  unfold text at h
  cases hr : Lx.read l with
  | error e => rw [hr] at h; cases h
  | ok ls =>
    rw [hr] at h
    have h1 := events_good ls es (read_gl l ls hl hr) h
    obtain ⟨h2, h3⟩ := events_ns ls es (read_led l ls hr) h
    exact ⟨List.all_eq_true.2 fun x hx => (h1 x hx).1, h2, h3, fun x hx => (h1 x hx).2⟩
/-- how many events a text tells -/
theorem docsGo_wt (ls : List Ln) : ∀ s s', s.blocks.length ≤ 41 → docsGo ls s = .ok s' → wt s' ≤ wt s + lnsW ls := by
  induction ls with
  | nil => intro s s' _ h; cases h; have := endDoc_wt s; unfold lnsW; omega
  | cons x t ih =>
    intro s s' hs h
    unfold docsGo at h
    cases hx : lineIn s x with
    | error e => rw [hx] at h; cases h
    | ok s1 =>
      rw [hx] at h
      obtain ⟨g1, g2⟩ := Px.line_wt s s1 x hx hs
      have := ih s1 s' g2 h
      unfold lnsW; omega
theorem text_len (l : List UInt8) (es : List Ev.E) (h : text l = .ok es) : es.length ≤ 14 * (l.length + 1) := by
  unfold text at h
  cases hr : Lx.read l with
  | error e => rw [hr] at h; cases h
  | ok ls =>
    rw [hr] at h
    simp only at h
    unfold events at h
    cases hd : docsGo ls st0 with
    | error e => rw [hd] at h; cases h
    | ok s =>
      rw [hd] at h
      cases h
      have h1 := docsGo_wt ls st0 s (by decide) hd
      have h2 := (read_gy l ls hr).2
      have h3 : wt st0 = 0 := rfl
      have h4 : s.out.length ≤ wt s := by unfold wt; omega
      omega
end Px
end Go.Proofs.YtjcfmghijfnehaaGreatDoor
