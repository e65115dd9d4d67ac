/-
  Plain mathematics: how many events there are, how many words are left.
-/
import Derived.Test.YtjcfmghijfnehaaGreatDoorXf
namespace Go.Proofs.YtjcfmghijfnehaaGreatDoor
namespace Px
open Lx (Wd Ln)
theorem cutP_len (ws : List Wd) : ∀ p q r, cutP p ws = .ok (q, r) → r.length ≤ ws.length := by
  induction ws with
  | nil => intro p q r h; cases h; exact Nat.le_refl _
  | cons w t ih =>
    intro p q r h
    unfold cutP at h
    split at h
    · split at h
      · have := ih _ _ _ h; simp only [List.length_cons]; omega
      · cases h
    · split at h
      · split at h
        · have := ih _ _ _ h; simp only [List.length_cons]; omega
        · cases h
      · cases h; exact Nat.le_refl _
/-- what is read tells at most two events a word, and takes at least so many words -/
def Slim (k : Nat) (ws : List Wd) : Rd → Prop
  | .ok (r, es) => r.length + k ≤ ws.length ∧ es.length + 2 * r.length ≤ 2 * ws.length ∧ 0 < es.length
  | .error _ => True
theorem leafW_slim (p : Pr) (ws : List Wd) : Slim 1 ws (leafW p ws) := by
  cases ws with
  | nil => exact True.intro
  | cons w t =>
    unfold leafW
    simp only
    cases leaf w p with
    | ok x => exact ⟨by simp, by simp; omega, by simp⟩
    | error e => exact True.intro
theorem bk_pos (ws : List Wd) (k : Nat) (h : bk ws k = true) : 0 < ws.length := by cases ws with | nil => cases h | cons w t => simp
theorem pre_slim {k m : Nat} {ws r : List Wd} {es : List Ev.E} {x : Rd} (h : Slim m r x) (h1 : r.length + k ≤ ws.length + m) (h2 : es.length + 2 * r.length ≤ 2 * ws.length) : Slim k ws (pre es x) := by
  cases x with
  | error e => exact True.intro
  | ok y =>
    obtain ⟨r2, xs⟩ := y
    obtain ⟨a, b, c⟩ := h
    exact ⟨by omega, by rw [List.length_append]; omega, by rw [List.length_append]; omega⟩
/-- what stands between brackets: the closing one beside -/
def SlimI (ws : List Wd) : Rd → Prop
  | .ok (r, es) => r.length + 1 ≤ ws.length ∧ es.length + 2 * r.length + 2 ≤ 2 * ws.length
  | .error _ => True
theorem pre_slimI {ws r : List Wd} {es : List Ev.E} {x : Rd} (h : SlimI r x) (h2 : es.length + 2 * r.length ≤ 2 * ws.length) : SlimI ws (pre es x) := by
  cases x with
  | error e => exact True.intro
  | ok y =>
    obtain ⟨r2, xs⟩ := y
    obtain ⟨a, b⟩ := h
    exact ⟨by omega, by rw [List.length_append]; omega⟩
theorem items_slim (one : List Wd → Rd) (close : Nat) (ho : ∀ ws, Slim 1 ws (one ws)) : ∀ m ws, SlimI ws (items one close m ws) := by
  intro m
  induction m with
  | zero => intro ws; exact True.intro
  | succ m ih =>
    intro ws
    unfold items
    split
    · rename_i hb
      have := bk_pos ws close hb
      cases ws with
      | nil => simp at this
      | cons w t => exact ⟨by simp, by simp; omega⟩
    · have h1 := ho ws
      cases hx : one ws with
      | error e => exact True.intro
      | ok y =>
        obtain ⟨r, es⟩ := y
        rw [hx] at h1
        obtain ⟨a, b, c⟩ := h1
        simp only
        split
        · have hl : r.tail.length ≤ r.length := by rw [List.length_tail]; omega
          exact pre_slimI (ih r.tail) (by omega)
        · split
          · exact pre_slimI (ih r) b
          · exact True.intro
theorem pair_slim (nd : List Wd → Rd) (hn : ∀ ws, Slim 1 ws (nd ws)) (ws : List Wd) : Slim 1 ws (pair nd ws) := by
  unfold pair keyW
  by_cases hb : bk ws 11 = true
  · rw [if_pos hb]
    simp only
    rw [if_pos hb]
    have hp := bk_pos ws 11 hb
    have hl : ws.tail.length + 1 = ws.length := by rw [List.length_tail]; omega
    split
    · exact ⟨by omega, by simp; omega, by simp⟩
    · exact pre_slim (hn ws.tail) (by omega) (by simp; omega)
  · rw [if_neg hb]
    cases hc : cutP nop ws with
    | error e => exact True.intro
    | ok x =>
      obtain ⟨p, r⟩ := x
      have h1 := cutP_len ws _ _ _ hc
      have h2 := leafW_slim p r
      simp only
      have h3 : ∀ r2 es, leafW p r = .ok (r2, es) → es.length = 1 := by
        intro r2 es h
        unfold leafW at h
        cases r with
        | nil => cases h
        | cons w t =>
          simp only at h
          cases hl : leaf w p with
          | ok x => rw [hl] at h; cases h; rfl
          | error e => rw [hl] at h; cases h
      cases hl : leafW p r with
      | error e => exact True.intro
      | ok y =>
        obtain ⟨r2, es⟩ := y
        rw [hl] at h2
        obtain ⟨a, b, c⟩ := h2
        have h4 := h3 r2 es hl
        have ht : r2.tail.length ≤ r2.length := by rw [List.length_tail]; omega
        simp only
        split
        · rename_i hb2
          have hp := bk_pos r2 11 hb2
          have ht2 : r2.tail.length + 1 = r2.length := by rw [List.length_tail]; omega
          split
          · exact ⟨by omega, by simp; omega, by simp⟩
          · exact pre_slim (hn r2.tail) (by omega) (by omega)
        · exact ⟨by omega, by simp; omega, by simp⟩
theorem wrap_slim {ws r : List Wd} {p : Pr} {k : Int} {x : Rd} (h : SlimI r x) (h1 : r.length + 1 ≤ ws.length) : Slim 1 ws (wrap p k x) := by
  cases x with
  | error e => exact True.intro
  | ok y =>
    obtain ⟨r2, xs⟩ := y
    obtain ⟨a, b⟩ := h
    exact ⟨by omega, by simp; omega, by simp⟩
theorem nodeWith_slim (lst mp : List Wd → Rd) (h1 : ∀ ws, SlimI ws (lst ws)) (h2 : ∀ ws, SlimI ws (mp ws)) (ws : List Wd) : Slim 1 ws (nodeWith lst mp ws) := by
  unfold nodeWith
  cases hc : cutP nop ws with
  | error e => exact True.intro
  | ok x =>
    obtain ⟨p, r⟩ := x
    have hr := cutP_len ws _ _ _ hc
    simp only
    split
    · rename_i hb
      have hp := bk_pos r _ hb
      exact wrap_slim (h1 r.tail) (by rw [List.length_tail]; omega)
    · split
      · rename_i hb
        have hp := bk_pos r _ hb
        exact wrap_slim (h2 r.tail) (by rw [List.length_tail]; omega)
      · have h3 := leafW_slim p r
        cases hl : leafW p r with
        | error e => exact True.intro
        | ok y =>
          obtain ⟨r2, es⟩ := y
          rw [hl] at h3
          obtain ⟨a, b, c⟩ := h3
          exact ⟨by omega, by omega, c⟩
theorem node_slim : ∀ k ws, Slim 1 ws (node k ws) := by
  intro k
  induction k with
  | zero => intro ws; unfold node; exact nodeWith_slim (fun _ => .error 13) (fun _ => .error 13) (fun _ => True.intro) (fun _ => True.intro) ws
  | succ k ih => intro ws; unfold node; exact nodeWith_slim _ _ (fun r => items_slim _ _ ih _ r) (fun r => items_slim _ _ (pair_slim _ ih) _ r) ws
theorem flowOf_len (ws : List Wd) (d : Nat) (es : List Ev.E) (h : flowOf ws d = .ok es) : 0 < es.length ∧ es.length ≤ 2 * ws.length := by
  unfold flowOf at h
  have hs := node_slim (40 - d) ws
  cases hn : node (40 - d) ws with
  | error e => rw [hn] at h; cases h
  | ok y =>
    obtain ⟨r, xs⟩ := y
    rw [hn] at h hs
    obtain ⟨a, b, c⟩ := hs
    cases r with
    | nil => cases h; exact ⟨c, by simpa using b⟩
    | cons w t => cases h
end Px
end Go.Proofs.YtjcfmghijfnehaaGreatDoor
