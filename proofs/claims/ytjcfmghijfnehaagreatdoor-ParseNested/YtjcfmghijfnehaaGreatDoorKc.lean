/-
  Plain mathematics: how much a line tells.
-/
import Derived.Test.YtjcfmghijfnehaaGreatDoorKb
namespace Go.Proofs.YtjcfmghijfnehaaGreatDoor
namespace Px
open Lx (Wd Ln)
def wt (s : St) : Nat := s.out.length + 2 * s.blocks.length
theorem still_len (l : List Bk) : (still l).length = l.length := by cases l <;> rfl
theorem waitB_len (l : List Bk) : (waitB l).length = l.length := by cases l <;> rfl
theorem close1_wt (s : St) : wt (close1 s) ≤ wt s ∧ (close1 s).blocks.length ≤ s.blocks.length := by
  unfold close1 wt
  cases hb : s.blocks with
  | nil => simp only; rw [hb]; exact ⟨Nat.le_refl _, Nat.le_refl _⟩
  | cons b t => simp only; split <;> (simp; omega)
theorem endGo_wt : ∀ n s, wt (endGo n s) ≤ wt s ∧ (endGo n s).blocks.length ≤ s.blocks.length := by
  intro n
  induction n with
  | zero => intro s; exact ⟨Nat.le_refl _, Nat.le_refl _⟩
  | succ n ih =>
    intro s
    have h1 := close1_wt s
    have h2 := ih (close1 s)
    unfold endGo
    omega
theorem close1_len (s : St) : (close1 s).blocks.length = s.blocks.length - 1 := by
  unfold close1
  cases hb : s.blocks with
  | nil => simp only; rw [hb]; rfl
  | cons b t => simp only; split <;> simp
theorem endGo_len : ∀ n s, (endGo n s).blocks.length = s.blocks.length - n := by
  intro n
  induction n with
  | zero => intro s; rfl
  | succ n ih => intro s; unfold endGo; rw [ih, close1_len]; omega
theorem endDoc_nil (s : St) : (endDoc s).blocks = [] := List.eq_nil_of_length_eq_zero (by unfold endDoc; rw [endGo_len]; omega)
theorem endDoc_wt (s : St) : wt (endDoc s) ≤ wt s := (endGo_wt _ s).1
theorem dropGo_wt (ind : Int) : ∀ n s, wt (dropGo ind n s) ≤ wt s ∧ (dropGo ind n s).blocks.length ≤ s.blocks.length := by
  intro n
  induction n with
  | zero => intro s; exact ⟨Nat.le_refl _, Nat.le_refl _⟩
  | succ n ih =>
    intro s
    unfold dropGo
    split
    · split
      · have h1 := close1_wt s
        have h2 := ih (close1 s)
        omega
      · exact ⟨Nat.le_refl _, Nat.le_refl _⟩
    · exact ⟨Nat.le_refl _, Nat.le_refl _⟩
theorem fill_wt (s : St) (x : Ev.E) : wt (fill s x) = wt s + 1 ∧ (fill s x).blocks.length = s.blocks.length := by
  unfold fill wt
  simp [still_len]; omega
theorem comes_wt (s s' : St) (x : Ev.E) (bh : List Ev.E) (h : comes s x bh = .ok s') : wt s' = wt s + 1 + bh.length ∧ s'.blocks.length = s.blocks.length := by
  unfold comes at h
  cases hd : dress s.held x with
  | error e => rw [hd] at h; cases h
  | ok y =>
    rw [hd] at h
    simp only at h
    cases h
    unfold wt
    simp [still_len]; omega
theorem wait_wt (s : St) : wt s.wait = wt s ∧ s.wait.blocks.length = s.blocks.length := by
  unfold wt St.wait
  simp [waitB_len]
theorem place_wt (s s' : St) (x : Ln) (h : place s x = .ok s') : wt s' ≤ wt s + 1 ∧ s'.blocks.length ≤ s.blocks.length := by
  unfold place at h
  have h1 := dropGo_wt x.indent s.blocks.length s
  have h0 : dropTo x.indent s = dropGo x.indent s.blocks.length s := rfl
  rw [h0] at h
  generalize dropGo x.indent s.blocks.length s = d at *
  have h2 := fill_wt d hole
  unfold placeAt at h
  split at h
  · cases h
  · split at h
    · split at h
      · cases h; omega
      · cases h
    · split at h
      · split at h
        · cases h; omega
        · cases h; omega
      · cases h
theorem enter_wt (s s' : St) (k f c : Int) (h : enter s k f c = .ok s') : wt s' ≤ wt s + 3 ∧ s'.blocks.length ≤ max s.blocks.length 41 ∧ 0 < s'.blocks.length := by
  unfold enter at h
  cases hb : s.blocks with
  | nil => rw [hb] at h; cases h
  | cons b t =>
    rw [hb] at h
    simp only at h
    split at h
    · cases h; rw [hb]; simp; omega
    · split at h
      · cases h
      · cases h
        unfold wt
        rw [hb]
        simp; omega
theorem dashes_wt (ws : List Wd) : ∀ s s' r, dashes s ws = .ok (s', r) → wt s' + 3 * r.length ≤ wt s + 3 * ws.length ∧ s'.blocks.length ≤ max s.blocks.length 41 ∧ r.length ≤ ws.length := by
  induction ws with
  | nil => intro s s' r h; cases h; exact ⟨Nat.le_refl _, by omega, Nat.le_refl _⟩
  | cons w t ih =>
    intro s s' r h
    unfold dashes at h
    split at h
    · cases he : enter s 2 3 w.at_ with
      | error e => rw [he] at h; cases h
      | ok s1 =>
        rw [he] at h
        simp only at h
        obtain ⟨h1, h2, h3⟩ := ih _ _ _ h
        have h4 := enter_wt _ _ _ _ _ he
        have h5 := wait_wt s1
        rw [h5.1] at h1
        rw [h5.2] at h2
        simp only [List.length_cons]
        omega
    · cases h; exact ⟨Nat.le_refl _, by omega, Nat.le_refl _⟩
theorem keyGo_wt (s s' : St) (p : Pr) (ws r : List Wd) (h : keyGo s p ws = .ok (s', r)) : wt s' ≤ wt s + 1 ∧ s'.blocks.length = s.blocks.length ∧ r.length ≤ ws.length := by
  have ha : ∀ x t, afterKey t (comes s x []) = .ok (s', r) → wt s' ≤ wt s + 1 ∧ s'.blocks.length = s.blocks.length ∧ r = t := by
    intro x t h
    cases hc : comes s x [] with
    | error e => rw [hc] at h; cases h
    | ok s1 =>
      rw [hc] at h
      cases h
      have h1 := comes_wt _ _ _ _ hc
      have h2 := wait_wt s1
      exact ⟨by rw [h2.1, h1.1]; simp, by rw [h2.2, h1.2], rfl⟩
  cases ws with
  | nil => cases h
  | cons w t =>
    unfold keyGo at h
    simp only at h
    split at h
    · obtain ⟨h1, h2, rfl⟩ := ha _ _ h
      exact ⟨h1, h2, by simp⟩
    · cases hl : leaf w p with
      | error e => rw [hl] at h; cases h
      | ok x =>
        rw [hl] at h
        obtain ⟨h1, h2, rfl⟩ := ha _ _ h
        exact ⟨h1, h2, by rw [List.length_tail, List.length_cons]; omega⟩
theorem keyed_wt (s s' : St) (ws r : List Wd) (h : keyed s ws = .ok (s', r)) : wt s' ≤ wt s + 4 ∧ s'.blocks.length ≤ max s.blocks.length 41 ∧ r.length ≤ ws.length := by
  cases ws with
  | nil => cases h
  | cons w t =>
    unfold keyed at h
    simp only at h
    cases he : enter s 4 5 w.at_ with
    | error e => rw [he] at h; cases h
    | ok s1 =>
      rw [he] at h
      simp only at h
      have h1 := enter_wt _ _ _ _ _ he
      cases hc : cutP nop (w :: t) with
      | error e => rw [hc] at h; cases h
      | ok y =>
        obtain ⟨p, q⟩ := y
        rw [hc] at h
        have h2 := keyGo_wt _ _ _ _ _ h
        have h3 := cutP_len _ _ _ _ hc
        omega
theorem value_wt (s s' : St) (ws : List Wd) (text : List UInt8) (h : value s ws text = .ok s') : wt s' ≤ wt s + 1 + 2 * ws.length ∧ s'.blocks.length = s.blocks.length := by
  unfold value at h
  cases hc : cutP nop ws with
  | error e => rw [hc] at h; cases h
  | ok y =>
    obtain ⟨p, q⟩ := y
    rw [hc] at h
    simp only at h
    split at h
    · unfold hold at h
      split at h
      · cases h
      · cases h; exact ⟨by unfold wt; simp only; omega, rfl⟩
    · split at h
      · have := comes_wt _ _ _ _ h
        simp only [List.length_nil] at this
        omega
      · cases hf : flowOf ws (s.blocks.length - 1) with
        | error e => rw [hf] at h; cases h
        | ok es =>
          rw [hf] at h
          have h1 := flowOf_len _ _ _ hf
          cases es with
          | nil => cases h
          | cons x xs =>
            have := comes_wt _ _ _ _ h
            simp only [List.length_cons] at h1
            omega
theorem words_wt (s s' : St) (x : Ln) (h : wordsOf s x = .ok s') : wt s' ≤ wt s + 3 * x.words.length + 5 + 2 * x.words.length ∧ s'.blocks.length ≤ max s.blocks.length 41 := by
  unfold wordsOf at h
  cases hd : dashes s x.words with
  | error e => rw [hd] at h; cases h
  | ok y =>
    obtain ⟨s1, ws⟩ := y
    rw [hd] at h
    simp only at h
    have h1 := dashes_wt _ _ _ _ hd
    have h2 : ∀ s2 r, behind x.text (.ok (s2, r)) = .ok s' → wt s' ≤ wt s2 + 1 + 2 * r.length ∧ s'.blocks.length = s2.blocks.length := by
      intro s2 r h
      cases r with
      | nil => cases h; exact ⟨by omega, rfl⟩
      | cons w t => exact value_wt _ _ _ _ h
    split at h
    · cases hk : keyed s1 ws with
      | error e => rw [hk] at h; cases h
      | ok z =>
        obtain ⟨s2, r⟩ := z
        rw [hk] at h
        have h3 := h2 _ _ h
        have h4 := keyed_wt _ _ _ _ hk
        omega
    · have h3 := h2 _ _ h
      omega
theorem line_wt (s s' : St) (x : Ln) (h : lineIn s x = .ok s') (hb : s.blocks.length ≤ 41) : wt s' ≤ wt s + 5 * x.words.length + 9 ∧ s'.blocks.length ≤ 41 := by
  unfold lineIn at h
  split at h
  · cases h
    have h1 := endDoc_wt s
    have h2 := endDoc_nil s
    unfold beginDoc wt at *
    rw [h2] at *
    simp at *; omega
  · split at h
    · cases h
      have h1 := endDoc_wt s
      have h2 := endDoc_nil s
      rw [h2]
      exact ⟨by omega, by simp⟩
    · have h0 : wt (opened s) ≤ wt s + 3 ∧ (opened s).blocks.length ≤ 41 := by
        unfold opened
        split
        · rename_i he
          have : s.blocks = [] := List.isEmpty_iff.1 he
          unfold beginDoc wt
          rw [this]; simp
        · omega
      cases hp : place (opened s) x with
      | error e => rw [hp] at h; cases h
      | ok s1 =>
        rw [hp] at h
        have h1 := place_wt _ _ _ hp
        have h2 := words_wt _ _ _ h
        omega
end Px
end Go.Proofs.YtjcfmghijfnehaaGreatDoor
