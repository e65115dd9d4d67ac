/-
  Plain mathematics: an error is none of no error.
-/
import Derived.Test.YtjcfmghijfnehaaGreatDoorKe
namespace Go.Proofs.YtjcfmghijfnehaaGreatDoor
namespace Px
open Lx (Wd Ln)
/-- its error is one -/
def Er {α : Type} : Except Nat α → Prop
  | .ok _ => True
  | .error n => n ≠ 0
theorem er_ok {α : Type} (x : α) : Er (.ok x : Except Nat α) := True.intro
theorem er5 {α : Type} : Er (.error 5 : Except Nat α) := by show (5 : Nat) ≠ 0; decide
theorem er9 {α : Type} : Er (.error 9 : Except Nat α) := by show (9 : Nat) ≠ 0; decide
theorem er13 {α : Type} : Er (.error 13 : Except Nat α) := by show (13 : Nat) ≠ 0; decide
theorem cutP_er (ws : List Wd) : ∀ p, Er (cutP p ws) := by
  induction ws with
  | nil => intro p; exact er_ok _
  | cons w t ih =>
    intro p
    unfold cutP
    split
    · split
      · exact ih _
      · exact er5
    · split
      · split
        · exact ih _
        · exact er5
      · exact er_ok _
theorem leaf_er (w : Wd) (p : Pr) : Er (leaf w p) := by
  unfold leaf
  split
  · exact er_ok _
  · split
    · split
      · exact er5
      · exact er_ok _
    · exact er5
theorem leafW_er (p : Pr) (ws : List Wd) : Er (leafW p ws) := by
  cases ws with
  | nil => exact er5
  | cons w t =>
    unfold leafW
    have := leaf_er w p
    simp only
    cases h : leaf w p with
    | ok x => exact er_ok _
    | error e => rw [h] at this; exact this
theorem pre_er {es : List Ev.E} {x : Rd} (h : Er x) : Er (pre es x) := by cases x <;> exact h
theorem items_er (one : List Wd → Rd) (c : Nat) (ho : ∀ ws, Er (one ws)) : ∀ m ws, Er (items one c m ws)
  | 0, _ => er5
  | m + 1, ws => by
    unfold items
    split
    · exact er_ok _
    · have := ho ws
      cases h : one ws with
      | error e => rw [h] at this; exact this
      | ok y =>
        simp only
        split
        · exact pre_er (items_er one c ho m _)
        · split
          · exact pre_er (items_er one c ho m _)
          · exact er5
theorem keyW_er (ws : List Wd) : Er (keyW ws) := by
  unfold keyW
  split
  · exact er_ok _
  · have := cutP_er ws nop
    cases h : cutP nop ws with
    | error e => rw [h] at this; exact this
    | ok y => exact leafW_er _ _
theorem pair_er (nd : List Wd → Rd) (hn : ∀ ws, Er (nd ws)) (ws : List Wd) : Er (pair nd ws) := by
  unfold pair
  have := keyW_er ws
  cases h : keyW ws with
  | error e => rw [h] at this; exact this
  | ok y =>
    simp only
    split
    · split
      · exact er_ok _
      · exact pre_er (hn _)
    · exact er_ok _
theorem wrap_er {p : Pr} {k : Int} {x : Rd} (h : Er x) : Er (wrap p k x) := by cases x <;> exact h
theorem nodeWith_er (lst mp : List Wd → Rd) (h1 : ∀ ws, Er (lst ws)) (h2 : ∀ ws, Er (mp ws)) (ws : List Wd) : Er (nodeWith lst mp ws) := by
  unfold nodeWith
  have := cutP_er ws nop
  cases h : cutP nop ws with
  | error e => rw [h] at this; exact this
  | ok y =>
    simp only
    split
    · exact wrap_er (h1 _)
    · split
      · exact wrap_er (h2 _)
      · exact leafW_er _ _
theorem node_er : ∀ k ws, Er (node k ws)
  | 0, ws => by unfold node; exact nodeWith_er (fun _ => .error 13) (fun _ => .error 13) (fun _ => er13) (fun _ => er13) ws
  | k + 1, ws => by unfold node; exact nodeWith_er _ _ (fun r => items_er _ _ (node_er k) _ r) (fun r => items_er _ _ (pair_er _ (node_er k)) _ r) ws
theorem flowOf_er (ws : List Wd) (d : Nat) : Er (flowOf ws d) := by
  unfold flowOf
  have := node_er (40 - d) ws
  cases h : node (40 - d) ws with
  | error e => rw [h] at this; exact this
  | ok y =>
    obtain ⟨r, es⟩ := y
    cases r with
    | nil => exact er_ok _
    | cons w t => exact er5
theorem comes_er (s : St) (x : Ev.E) (bh : List Ev.E) : Er (comes s x bh) := by
  unfold comes
  have : Er (dress s.held x) := by
    unfold dress
    split
    · split
      · exact er5
      · exact er_ok _
    · exact er_ok _
  cases h : dress s.held x with
  | error e => rw [h] at this; exact this
  | ok y => exact er_ok _
theorem placeAt_er (s : St) (i : Int) (ws : List Wd) : Er (placeAt s i ws) := by
  unfold placeAt
  split
  · exact er5
  · split
    · split
      · exact er_ok _
      · exact er9
    · split
      · split <;> exact er_ok _
      · exact er9
theorem enter_er (s : St) (k f c : Int) : Er (enter s k f c) := by
  unfold enter
  split
  · exact er5
  · split
    · exact er_ok _
    · split
      · exact er13
      · exact er_ok _
theorem dashes_er (ws : List Wd) : ∀ s, Er (dashes s ws) := by
  induction ws with
  | nil => intro s; exact er_ok _
  | cons w t ih =>
    intro s
    unfold dashes
    split
    · have := enter_er s 2 3 w.at_
      cases h : enter s 2 3 w.at_ with
      | error e => rw [h] at this; exact this
      | ok y => exact ih _
    · exact er_ok _
theorem afterKey_er (r : List Wd) {x : Except Nat St} (h : Er x) : Er (afterKey r x) := by cases x <;> exact h
theorem keyed_er (s : St) (ws : List Wd) : Er (keyed s ws) := by
  unfold keyed
  split
  · exact er5
  · rename_i w t
    have := enter_er s 4 5 w.at_
    cases h : enter s 4 5 w.at_ with
    | error e => rw [h] at this; exact this
    | ok y =>
      simp only
      have := cutP_er (w :: t) nop
      cases h : cutP nop (w :: t) with
      | error e => rw [h] at this; exact this
      | ok z =>
        obtain ⟨p, q⟩ := z
        simp only
        unfold keyGo
        split
        · exact er5
        · split
          · exact afterKey_er _ (comes_er _ _ _)
          · rename_i a u _
            have := leaf_er a p
            cases h : leaf a p with
            | error e => rw [h] at this; exact this
            | ok x => exact afterKey_er _ (comes_er _ _ _)
theorem value_er (s : St) (ws : List Wd) (tx : List UInt8) : Er (value s ws tx) := by
  unfold value
  have := cutP_er ws nop
  cases h : cutP nop ws with
  | error e => rw [h] at this; exact this
  | ok z =>
    simp only
    split
    · unfold hold
      split
      · exact er5
      · exact er_ok _
    · split
      · exact comes_er _ _ _
      · have := flowOf_er ws (s.blocks.length - 1)
        cases h : flowOf ws (s.blocks.length - 1) with
        | error e => rw [h] at this; exact this
        | ok es =>
          cases es with
          | nil => exact er5
          | cons x xs => exact comes_er _ _ _
theorem lineIn_er (s : St) (x : Ln) : Er (lineIn s x) := by
  unfold lineIn
  split
  · exact er_ok _
  · split
    · exact er_ok _
    · have hp : Er (place (opened s) x) := placeAt_er _ _ _
      cases h : place (opened s) x with
      | error e => rw [h] at hp; exact hp
      | ok s1 =>
        simp only
        unfold wordsOf
        have := dashes_er x.words s1
        cases h : dashes s1 x.words with
        | error e => rw [h] at this; exact this
        | ok y =>
          obtain ⟨s2, ws⟩ := y
          simp only
          have hb : ∀ y, Er y → Er (behind x.text y) := by
            intro y hy
            cases y with
            | error e => exact hy
            | ok z =>
              obtain ⟨s3, r⟩ := z
              cases r with
              | nil => exact er_ok _
              | cons a u => exact value_er _ _ _
          refine hb _ ?_
          split
          · exact keyed_er _ _
          · exact er_ok _
theorem docsGo_er (ls : List Ln) : ∀ s, Er (docsGo ls s) := by
  induction ls with
  | nil => intro s; exact er_ok _
  | cons x t ih =>
    intro s
    unfold docsGo
    have := lineIn_er s x
    cases h : lineIn s x with
    | error e => rw [h] at this; exact this
    | ok y => exact ih _
theorem text_er (l : List UInt8) (n : Nat) (h : text l = .error n) : n ≠ 0 := by
  unfold text at h
  cases hr : Lx.read l with
  | error e => rw [hr] at h; cases h; exact Lx.read_err _ _ hr
  | ok ls =>
    rw [hr] at h
    simp only at h
    unfold events at h
    have := docsGo_er ls st0
    cases hd : docsGo ls st0 with
    | error e => rw [hd] at h this; cases h; exact this
    | ok s => rw [hd] at h; cases h
end Px
end Go.Proofs.YtjcfmghijfnehaaGreatDoor
