/-
  Plain mathematics: what stands ahead of the events changes nothing; what is held is held for a node that is waited for.
-/
import Derived.Test.YtjcfmghijfnehaaGreatDoorKc
namespace Go.Proofs.YtjcfmghijfnehaaGreatDoor
namespace Px
open Lx (Wd Ln)
def St.pre (o : List Ev.E) (s : St) : St := ⟨s.blocks, s.held, o ++ s.out⟩
def preS (o : List Ev.E) : Except Nat St → Except Nat St
  | .ok s => .ok (s.pre o)
  | .error e => .error e
def preP (o : List Ev.E) : Except Nat (St × List Wd) → Except Nat (St × List Wd)
  | .ok (s, r) => .ok (s.pre o, r)
  | .error e => .error e
theorem comes_pre (o : List Ev.E) (s : St) (x : Ev.E) (bh : List Ev.E) : comes (s.pre o) x bh = preS o (comes s x bh) := by
  unfold comes St.pre
  simp only
  cases dress s.held x with
  | error e => rfl
  | ok y => simp [preS, St.pre]
theorem fill_pre (o : List Ev.E) (s : St) (x : Ev.E) : fill (s.pre o) x = (fill s x).pre o := by
  unfold fill St.pre
  simp
theorem close1_pre (o : List Ev.E) (s : St) : close1 (s.pre o) = (close1 s).pre o := by
  unfold close1 St.pre
  simp only
  cases hb : s.blocks with
  | nil => simp only [hb]
  | cons b t => simp only; split <;> simp
theorem endGo_pre (o : List Ev.E) : ∀ n s, endGo n (s.pre o) = (endGo n s).pre o := by
  intro n
  induction n with
  | zero => intro s; rfl
  | succ n ih => intro s; unfold endGo; rw [close1_pre, ih]
theorem endDoc_pre (o : List Ev.E) (s : St) : endDoc (s.pre o) = (endDoc s).pre o := endGo_pre o _ s
theorem beginDoc_pre (o : List Ev.E) (s : St) : beginDoc (s.pre o) = (beginDoc s).pre o := by
  unfold beginDoc St.pre
  simp
theorem dropGo_pre (o : List Ev.E) (ind : Int) : ∀ n s, dropGo ind n (s.pre o) = (dropGo ind n s).pre o := by
  intro n
  induction n with
  | zero => intro s; rfl
  | succ n ih =>
    intro s
    unfold dropGo
    rw [close1_pre, ih]
    have hb : (s.pre o).blocks = s.blocks := rfl
    rw [hb]
    rcases s.blocks with _ | ⟨b, _ | ⟨c, t⟩⟩
    · rfl
    · rfl
    · simp only; split <;> rfl
theorem place_pre (o : List Ev.E) (s : St) (x : Ln) : place (s.pre o) x = preS o (place s x) := by
  unfold place
  have h0 : dropTo x.indent (s.pre o) = (dropTo x.indent s).pre o := dropGo_pre o _ _ s
  rw [h0]
  generalize dropTo x.indent s = d
  unfold placeAt
  rw [fill_pre]
  have hb : (d.pre o).blocks = d.blocks := rfl
  rw [hb]
  rcases d.blocks with _ | ⟨b, t⟩
  · rfl
  · simp only
    split
    · split <;> rfl
    · split
      · split <;> rfl
      · rfl
theorem enter_pre (o : List Ev.E) (s : St) (k f c : Int) : enter (s.pre o) k f c = preS o (enter s k f c) := by
  unfold enter
  have hb : (s.pre o).blocks = s.blocks := rfl
  rw [hb]
  rcases s.blocks with _ | ⟨b, t⟩
  · rfl
  · simp only
    split
    · rfl
    · split
      · rfl
      · simp [preS, St.pre]
theorem wait_pre (o : List Ev.E) (s : St) : (s.pre o).wait = s.wait.pre o := rfl
theorem dashes_pre (o : List Ev.E) (ws : List Wd) : ∀ s, dashes (s.pre o) ws = preP o (dashes s ws) := by
  induction ws with
  | nil => intro s; rfl
  | cons w t ih =>
    intro s
    unfold dashes
    rw [enter_pre]
    split
    · cases enter s 2 3 w.at_ with
      | error e => rfl
      | ok s1 =>
        show dashes (s1.wait.pre o) t = _
        rw [ih]
    · rfl
theorem afterKey_pre (o : List Ev.E) (r : List Wd) (x : Except Nat St) : afterKey r (preS o x) = preP o (afterKey r x) := by cases x <;> rfl
theorem keyGo_pre (o : List Ev.E) (s : St) (p : Pr) (ws : List Wd) : keyGo (s.pre o) p ws = preP o (keyGo s p ws) := by
  cases ws with
  | nil => rfl
  | cons w t =>
    unfold keyGo
    simp only [comes_pre]
    split
    · exact afterKey_pre _ _ _
    · cases leaf w p with
      | error e => rfl
      | ok x => exact afterKey_pre _ _ _
theorem keyed_pre (o : List Ev.E) (s : St) (ws : List Wd) : keyed (s.pre o) ws = preP o (keyed s ws) := by
  cases ws with
  | nil => rfl
  | cons w t =>
    unfold keyed
    simp only [enter_pre]
    cases enter s 4 5 w.at_ with
    | error e => rfl
    | ok s1 =>
      simp only [preS]
      cases cutP nop (w :: t) with
      | error e => rfl
      | ok y => exact keyGo_pre _ _ _ _
theorem value_pre (o : List Ev.E) (s : St) (ws : List Wd) (tx : List UInt8) : value (s.pre o) ws tx = preS o (value s ws tx) := by
  unfold value
  cases cutP nop ws with
  | error e => rfl
  | ok y =>
    obtain ⟨p, r⟩ := y
    simp only [comes_pre]
    split
    · unfold hold
      show (if s.held.some then _ else _) = _
      split <;> rfl
    · split
      · rfl
      · show flowIn (s.pre o) (flowOf ws (s.blocks.length - 1)) = _
        cases flowOf ws (s.blocks.length - 1) with
        | error e => rfl
        | ok es =>
          cases es with
          | nil => rfl
          | cons x xs => exact comes_pre _ _ _ _
theorem behind_pre (o : List Ev.E) (tx : List UInt8) (x : Except Nat (St × List Wd)) : behind tx (preP o x) = preS o (behind tx x) := by
  cases x with
  | error e => rfl
  | ok y =>
    obtain ⟨s, r⟩ := y
    cases r with
    | nil => rfl
    | cons w t => exact value_pre _ _ _ _
theorem wordsOf_pre (o : List Ev.E) (s : St) (x : Ln) : wordsOf (s.pre o) x = preS o (wordsOf s x) := by
  unfold wordsOf
  rw [dashes_pre]
  cases dashes s x.words with
  | error e => rfl
  | ok y =>
    obtain ⟨s1, ws⟩ := y
    simp only [preP]
    rw [keyed_pre, ← behind_pre]
    congr 1
    split <;> rfl
theorem opened_pre (o : List Ev.E) (s : St) : opened (s.pre o) = (opened s).pre o := by
  unfold opened
  rw [beginDoc_pre]
  show (if s.blocks.isEmpty then _ else _) = _
  split <;> rfl
theorem lineIn_pre (o : List Ev.E) (s : St) (x : Ln) : lineIn (s.pre o) x = preS o (lineIn s x) := by
  unfold lineIn
  rw [endDoc_pre, beginDoc_pre, opened_pre, place_pre]
  split
  · rfl
  · split
    · rfl
    · cases place (opened s) x with
      | error e => rfl
      | ok s1 => exact wordsOf_pre _ _ _
theorem docsGo_pre (o : List Ev.E) (ls : List Ln) : ∀ s, docsGo ls (s.pre o) = preS o (docsGo ls s) := by
  induction ls with
  | nil => intro s; unfold docsGo; rw [endDoc_pre]; rfl
  | cons x t ih =>
    intro s
    unfold docsGo
    rw [lineIn_pre]
    cases lineIn s x with
    | error e => rfl
    | ok s1 => exact ih s1
/-- properties are held for a node that is waited for -/
def Inv (s : St) : Prop := s.held = nop ∨ ∃ b t, s.blocks = b :: t ∧ b.waits = true
def Waits (s : St) : Prop := ∃ b t, s.blocks = b :: t ∧ b.waits = true
theorem comes_held (s s' : St) (x : Ev.E) (bh : List Ev.E) (h : comes s x bh = .ok s') : s'.held = nop := by
  unfold comes at h
  cases hd : dress s.held x with
  | error e => rw [hd] at h; cases h
  | ok y => rw [hd] at h; cases h; rfl
theorem close1_inv (s : St) (h : Inv s) : (close1 s).held = nop := by
  unfold close1
  rcases h with h | ⟨b, t, hb, hw⟩
  · cases hb : s.blocks with
    | nil => exact h
    | cons b t => simp only; split; rfl; exact h
  · rw [hb]; simp only; rw [if_pos hw]
theorem endGo_inv : ∀ n s, s.held = nop → (endGo n s).held = nop := by
  intro n
  induction n with
  | zero => intro s h; exact h
  | succ n ih => intro s h; exact ih _ (close1_inv s (.inl h))
theorem endDoc_held (s : St) (h : Inv s) : (endDoc s).held = nop := by
  unfold endDoc
  cases hb : s.blocks with
  | nil =>
    rcases h with h | ⟨b, t, hb2, _⟩
    · exact h
    · rw [hb] at hb2; cases hb2
  | cons b t =>
    show (endGo t.length (close1 s)).held = nop
    exact endGo_inv _ _ (close1_inv s h)
theorem endDoc_st (s : St) (h : Inv s) : endDoc s = ⟨[], nop, (endDoc s).out⟩ := by
  have h1 := endDoc_nil s
  have h2 := endDoc_held s h
  generalize endDoc s = d at *
  obtain ⟨a, b, c⟩ := d
  simp only at h1 h2
  subst h1 h2
  rfl
theorem beginDoc_inv (s : St) : Inv (beginDoc s) := .inr ⟨_, _, rfl, rfl⟩
theorem dropGo_inv (ind : Int) : ∀ n s, Inv s → Inv (dropGo ind n s) := by
  intro n
  induction n with
  | zero => intro s h; exact h
  | succ n ih =>
    intro s h
    unfold dropGo
    split
    · split
      · exact ih _ (.inl (close1_inv s h))
      · exact h
    · exact h
theorem waits_wait (s : St) (h : 0 < s.blocks.length) : Waits s.wait := by
  unfold Waits St.wait
  cases hb : s.blocks with
  | nil => rw [hb] at h; simp at h
  | cons b t => exact ⟨_, _, rfl, rfl⟩
theorem dashes_waits (ws : List Wd) : ∀ s s' r, dashes s ws = .ok (s', r) → (bk ws 12 = true ∨ Waits s) → Waits s' := by
  induction ws with
  | nil => intro s s' r h hw; cases h; rcases hw with hw | hw; cases hw; exact hw
  | cons w t ih =>
    intro s s' r h hw
    unfold dashes at h
    split at h
    · cases he : enter s 2 3 w.at_ with
      | error e => rw [he] at h; cases h
      | ok s1 =>
        rw [he] at h
        exact ih _ _ _ h (.inr (waits_wait s1 (enter_wt _ _ _ _ _ he).2.2))
    · rename_i hk
      cases h
      rcases hw with hw | hw
      · unfold bk at hw; simp only [decide_eq_true_eq] at hw; exact absurd hw hk
      · exact hw
theorem dashes_not (ws : List Wd) (s : St) (h : bk ws 12 = false) : dashes s ws = .ok (s, ws) := by
  cases ws with
  | nil => rfl
  | cons w t =>
    unfold dashes
    unfold bk at h
    rw [if_neg (by simpa using h)]
theorem keyGo_waits (s s' : St) (p : Pr) (ws r : List Wd) (h : keyGo s p ws = .ok (s', r)) (hb : 0 < s.blocks.length) : Waits s' := by
  have ha : ∀ x t, afterKey t (comes s x []) = .ok (s', r) → Waits s' := by
    intro x t h
    cases hc : comes s x [] with
    | error e => rw [hc] at h; cases h
    | ok s1 =>
      rw [hc] at h
      cases h
      exact waits_wait s1 (by rw [(comes_wt _ _ _ _ hc).2]; exact hb)
  cases ws with
  | nil => cases h
  | cons w t =>
    unfold keyGo at h
    simp only at h
    split at h
    · exact ha _ _ h
    · cases hl : leaf w p with
      | error e => rw [hl] at h; cases h
      | ok x => rw [hl] at h; exact ha _ _ h
theorem keyed_waits (s s' : St) (ws r : List Wd) (h : keyed s ws = .ok (s', r)) : Waits s' := by
  cases ws with
  | nil => cases h
  | cons w t =>
    unfold keyed at h
    simp only at h
    cases he : enter s 4 5 w.at_ with
    | error e => rw [he] at h; cases h
    | ok s1 =>
      rw [he] at h
      simp only at h
      cases hc : cutP nop (w :: t) with
      | error e => rw [hc] at h; cases h
      | ok y => rw [hc] at h; exact keyGo_waits _ _ _ _ _ h (enter_wt _ _ _ _ _ he).2.2
theorem value_inv (s s' : St) (ws : List Wd) (tx : List UInt8) (h : value s ws tx = .ok s') (hw : Waits s) : Inv s' := by
  unfold value at h
  cases hc : cutP nop ws with
  | error e => rw [hc] at h; cases h
  | ok y =>
    obtain ⟨p, q⟩ := y
    rw [hc] at h
    simp only at h
    split at h
    · unfold hold at h
      split at h
      · cases h
      · cases h
        obtain ⟨b, t, h1, h2⟩ := hw
        exact .inr ⟨b, t, h1, h2⟩
    · split at h
      · exact .inl (comes_held _ _ _ _ h)
      · cases hf : flowOf ws (s.blocks.length - 1) with
        | error e => rw [hf] at h; cases h
        | ok es =>
          rw [hf] at h
          cases es with
          | nil => cases h
          | cons x xs => exact .inl (comes_held _ _ _ _ h)
theorem words_inv (s s' : St) (x : Ln) (h : wordsOf s x = .ok s') (hw : Waits s ∨ bk x.words 12 = true ∨ isKeyGo x.words = true) : Inv s' := by
  unfold wordsOf at h
  cases hd : dashes s x.words with
  | error e => rw [hd] at h; cases h
  | ok y =>
    obtain ⟨s1, ws⟩ := y
    rw [hd] at h
    simp only at h
    have h2 : ∀ s2 r, behind x.text (.ok (s2, r)) = .ok s' → Waits s2 → Inv s' := by
      intro s2 r h hw2
      cases r with
      | nil => cases h; obtain ⟨b, t, h1, h2⟩ := hw2; exact .inr ⟨b, t, h1, h2⟩
      | cons w t => exact value_inv _ _ _ _ h hw2
    split at h
    · cases hk : keyed s1 ws with
      | error e => rw [hk] at h; cases h
      | ok z => rw [hk] at h; exact h2 _ _ h (keyed_waits _ _ _ _ hk)
    · rename_i hk
      refine h2 _ _ h ?_
      cases hd12 : bk x.words 12 with
      | true => exact dashes_waits _ _ _ _ hd (.inl hd12)
      | false =>
        rw [dashes_not _ _ hd12] at hd
        cases hd
        rcases hw with hw | hw | hw
        · exact hw
        · rw [hd12] at hw; cases hw
        · exact absurd hw hk
theorem place_waits (s s' : St) (x : Ln) (h : place s x = .ok s') : Waits s' ∨ bk x.words 12 = true ∨ isKeyGo x.words = true := by
  unfold place at h
  generalize dropTo x.indent s = d at *
  unfold placeAt at h
  split at h
  · cases h
  · rename_i b t hb
    split at h
    · split at h
      · cases h
        rename_i hw
        exact .inl ⟨b, t, hb, hw⟩
      · cases h
    · split at h
      · rename_i hg
        right
        unfold goesOn at hg
        split at hg
        · exact .inl hg
        · split at hg
          · exact .inr hg
          · cases hg
      · cases h
theorem line_inv (s s' : St) (x : Ln) (h : lineIn s x = .ok s') (hi : Inv s) : Inv s' := by
  unfold lineIn at h
  split at h
  · cases h; exact beginDoc_inv _
  · split at h
    · cases h; exact .inl (endDoc_held s hi)
    · cases hp : place (opened s) x with
      | error e => rw [hp] at h; cases h
      | ok s1 =>
        rw [hp] at h
        exact words_inv _ _ _ h (place_waits _ _ _ hp)
theorem docsGo_end (ls : List Ln) : ∀ s s', Inv s → docsGo ls s = .ok s' → s'.blocks = [] ∧ s'.held = nop := by
  induction ls with
  | nil => intro s s' hi h; cases h; exact ⟨endDoc_nil s, endDoc_held s hi⟩
  | cons x t ih =>
    intro s s' hi h
    unfold docsGo at h
    cases hl : lineIn s x with
    | error e => rw [hl] at h; cases h
    | ok s1 => rw [hl] at h; exact ih _ _ (line_inv _ _ _ hl hi) h
/-- lines, a mark that ends, and lines -/
theorem docsGo_mark (xs ys : List Ln) (m : Ln) (hm : m.mark = 2) : ∀ s, Inv s → docsGo (xs ++ m :: ys) s = match docsGo xs s with
    | .error e => .error e
    | .ok s1 => docsGo ys ⟨[], nop, s1.out⟩ := by
  induction xs with
  | nil =>
    intro s hi
    show docsGo (m :: ys) s = docsGo ys ⟨[], nop, (endDoc s).out⟩
    rw [← endDoc_st s hi]
    show (match lineIn s m with
      | .error e => _
      | .ok s' => _) = _
    have : lineIn s m = .ok (endDoc s) := by unfold lineIn; rw [if_neg (by omega), if_pos hm]
    rw [this]
  | cons x t ih =>
    intro s hi
    have e1 : docsGo (x :: t ++ m :: ys) s = match lineIn s x with
      | .error e => .error e
      | .ok s' => docsGo (t ++ m :: ys) s' := rfl
    have e2 : docsGo (x :: t) s = match lineIn s x with
      | .error e => .error e
      | .ok s' => docsGo t s' := rfl
    rw [e1, e2]
    cases hl : lineIn s x with
    | error e => rfl
    | ok s1 => exact ih s1 (line_inv _ _ _ hl hi)
theorem events_mark (xs ys : List Ln) (m : Ln) (hm : m.mark = 2) : events (xs ++ m :: ys) = match events xs with
    | .error e => .error e
    | .ok a => (match events ys with
      | .error e => .error e
      | .ok b => .ok (a ++ b)) := by
  unfold events
  rw [docsGo_mark xs ys m hm st0 (.inl rfl)]
  cases docsGo xs st0 with
  | error e => rfl
  | ok s1 =>
    have e : (⟨[], nop, s1.out⟩ : St) = st0.pre s1.out := by unfold st0 St.pre; simp
    simp only [e, docsGo_pre]
    cases docsGo ys st0 <;> rfl
end Px
end Go.Proofs.YtjcfmghijfnehaaGreatDoor
