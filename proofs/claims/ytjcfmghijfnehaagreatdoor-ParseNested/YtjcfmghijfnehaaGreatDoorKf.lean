/-
  Plain mathematics: the events that are told have just the fields that their kind may have.
-/
import Derived.Test.YtjcfmghijfnehaaGreatDoorKc
import Derived.Test.YtjcfmghijfnehaaGreatDoorEb
namespace Go.Proofs.YtjcfmghijfnehaaGreatDoor
namespace Px
open Lx (Wd Ln)
/-- a word as a line has it -/
def Gw (x : Wd) : Prop := ((x.kind = 3 ∨ x.kind = 4) → Lx.name x.text = true) ∧ (x.kind = 5 → Tg.right x.text = true) ∧ (x.kind ≤ 2 → Lib.validD x.text = true) ∧ x.text.length ≤ 50000
/-- an event has just those fields that its kind may have, and these of a size that is asked -/
def Fl (x : Ev.E) : Prop := Ev.filled x = true ∧ Ev.Small x
def Gws (l : List Wd) : Prop := ∀ x ∈ l, Gw x
def GP (p : Pr) : Prop := (Ev.mayName p.anchor = true ∧ Ev.mayTag p.tag = true) ∧ p.anchor.length ≤ 50000 ∧ p.tag.length ≤ 50000
def GE (es : List Ev.E) : Prop := ∀ x ∈ es, Fl x
theorem Gws.tail {l : List Wd} (h : Gws l) : Gws l.tail := fun x hx => h x (List.mem_of_mem_tail hx)
theorem gp_nop : GP nop := ⟨⟨rfl, rfl⟩, by decide, by decide⟩
theorem GE.app {a b : List Ev.E} (h : GE a) (k : GE b) : GE (a ++ b) := fun x hx => by
  rcases List.mem_append.1 hx with hx | hx
  · exact h x hx
  · exact k x hx
theorem GE.cons {x : Ev.E} {b : List Ev.E} (h : Fl x) (k : GE b) : GE (x :: b) := fun y hy => by
  rcases List.mem_cons.1 hy with rfl | hy
  · exact h
  · exact k y hy
theorem ge_nil : GE [] := fun x hx => by cases hx
theorem ge_one {x : Ev.E} (h : Fl x) : GE [x] := GE.cons h ge_nil
theorem cutP_good (ws : List Wd) : ∀ p q r, Gws ws → GP p → cutP p ws = .ok (q, r) → GP q ∧ Gws r := by
  induction ws with
  | nil => intro p q r h hp he; cases he; exact ⟨hp, h⟩
  | cons w t ih =>
    intro p q r h hp he
    have hw := h w (List.mem_cons_self ..)
    have ht : Gws t := fun x hx => h x (List.mem_cons_of_mem _ hx)
    unfold cutP at he
    split at he
    · rename_i hk
      split at he
      · exact ih ⟨w.text, p.tag⟩ _ _ ht ⟨⟨by unfold Ev.mayName; rw [hw.1 (.inl hk)]; simp, hp.1.2⟩, hw.2.2.2, hp.2.2⟩ he
      · cases he
    · split at he
      · rename_i hk
        split at he
        · exact ih ⟨p.anchor, w.text⟩ _ _ ht ⟨⟨hp.1.1, by unfold Ev.mayTag; rw [hw.2.1 hk]; simp⟩, hp.2.1, hw.2.2.2⟩ he
        · cases he
      · cases he; exact ⟨hp, h⟩
theorem filled6 (p : Pr) (t : List UInt8) (b : Bool) (h : GP p) (ht : Lib.validD t = true) (hl : t.length ≤ 50000) : Fl ⟨6, p.anchor, p.tag, t, b⟩ := by
  refine ⟨?_, h.2.1, h.2.2, hl⟩
  unfold Ev.filled
  simp [h.1.1, h.1.2, ht]
theorem filled24 (p : Pr) (k : Int) (hk : k = 2 ∨ k = 4) (h : GP p) : Fl (p.on (ev k)) := by
  refine ⟨?_, h.2.1, h.2.2, Nat.zero_le _⟩
  unfold Ev.filled Pr.on ev
  simp [h.1.1, h.1.2, hk]
theorem filled_ev (k : Int) (h : k ≠ 7) : Fl (ev k) := by
  refine ⟨?_, Nat.zero_le _, Nat.zero_le _, Nat.zero_le _⟩
  unfold Ev.filled ev
  have h1 : Ev.mayName [] = true := rfl
  have h2 : Ev.mayTag [] = true := rfl
  have h3 : Lib.validD [] = true := by decide
  simp only
  split
  · simp [h1, h2]
  · split
    · simp [h1, h2, h3]
    · rfl
theorem valid_nil : Lib.validD [] = true := by decide
theorem filled_hole (p : Pr) (h : GP p) : Fl (p.on hole) := filled6 p [] true h valid_nil (by decide)
theorem leaf_good (w : Wd) (p : Pr) (x : Ev.E) (hw : Gw w) (hp : GP p) (h : leaf w p = .ok x) : Fl x := by
  unfold leaf at h
  split at h
  · rename_i hk
    cases h; exact filled6 p _ _ hp (hw.2.2.1 hk) hw.2.2.2
  · split at h
    · rename_i hk
      split at h
      · cases h
      · cases h
        refine ⟨?_, hw.2.2.2, Nat.zero_le _, Nat.zero_le _⟩
        unfold Ev.filled
        simp [hw.1 (.inr hk)]
    · cases h
def GR : Rd → Prop
  | .ok (r, es) => Gws r ∧ GE es
  | .error _ => True
theorem leafW_good (p : Pr) (ws : List Wd) (h : Gws ws) (hp : GP p) : GR (leafW p ws) := by
  cases ws with
  | nil => exact True.intro
  | cons w t =>
    unfold leafW
    simp only
    cases hl : leaf w p with
    | ok x => exact ⟨h.tail, ge_one (leaf_good w p x (h w (List.mem_cons_self ..)) hp hl)⟩
    | error e => exact True.intro
theorem pre_good {es : List Ev.E} {x : Rd} (h : GR x) (he : GE es) : GR (pre es x) := by
  cases x with
  | error e => exact True.intro
  | ok y => exact ⟨h.1, he.app h.2⟩
theorem items_good (one : List Wd → Rd) (close : Nat) (ho : ∀ ws, Gws ws → GR (one ws)) : ∀ m ws, Gws ws → GR (items one close m ws) := by
  intro m
  induction m with
  | zero => intro ws _; exact True.intro
  | succ m ih =>
    intro ws hw
    unfold items
    split
    · exact ⟨hw.tail, ge_nil⟩
    · have h1 := ho ws hw
      cases hx : one ws with
      | error e => exact True.intro
      | ok y =>
        rw [hx] at h1
        simp only
        split
        · exact pre_good (ih _ h1.1.tail) h1.2
        · split
          · exact pre_good (ih _ h1.1) h1.2
          · exact True.intro
theorem keyW_good (ws : List Wd) (hw : Gws ws) : GR (keyW ws) := by
  unfold keyW
  split
  · exact ⟨hw, ge_one (filled_hole nop gp_nop)⟩
  · cases hc : cutP nop ws with
    | error e => exact True.intro
    | ok x =>
      obtain ⟨h1, h2⟩ := cutP_good ws _ _ _ hw gp_nop hc
      exact leafW_good _ _ h2 h1
theorem pair_good (nd : List Wd → Rd) (hn : ∀ ws, Gws ws → GR (nd ws)) (ws : List Wd) (hw : Gws ws) : GR (pair nd ws) := by
  unfold pair
  have h1 := keyW_good ws hw
  have hh : GE [hole] := ge_one (filled_hole nop gp_nop)
  cases hk : keyW ws with
  | error e => exact True.intro
  | ok y =>
    obtain ⟨r, es⟩ := y
    rw [hk] at h1
    simp only
    split
    · split
      · exact ⟨h1.1.tail, h1.2.app hh⟩
      · exact pre_good (hn _ h1.1.tail) h1.2
    · exact ⟨h1.1, h1.2.app hh⟩
theorem wrap_good {p : Pr} {k : Int} {x : Rd} (hk : k = 2 ∨ k = 4) (h : GR x) (hp : GP p) : GR (wrap p k x) := by
  cases x with
  | error e => exact True.intro
  | ok y => exact ⟨h.1, GE.cons (filled24 p k hk hp) (h.2.app (ge_one (filled_ev _ (by omega))))⟩
theorem nodeWith_good (lst mp : List Wd → Rd) (h1 : ∀ ws, Gws ws → GR (lst ws)) (h2 : ∀ ws, Gws ws → GR (mp ws)) (ws : List Wd) (hw : Gws ws) : GR (nodeWith lst mp ws) := by
  unfold nodeWith
  cases hc : cutP nop ws with
  | error e => exact True.intro
  | ok x =>
    obtain ⟨p, r⟩ := x
    obtain ⟨hp, hr⟩ := cutP_good ws _ _ _ hw gp_nop hc
    simp only
    split
    · exact wrap_good (.inl rfl) (h1 _ hr.tail) hp
    · split
      · exact wrap_good (.inr rfl) (h2 _ hr.tail) hp
      · exact leafW_good p r hr hp
theorem node_good : ∀ k ws, Gws ws → GR (node k ws) := by
  intro k
  induction k with
  | zero => intro ws hw; unfold node; exact nodeWith_good (fun _ => .error 13) (fun _ => .error 13) (fun _ _ => True.intro) (fun _ _ => True.intro) ws hw
  | succ k ih => intro ws hw; unfold node; exact nodeWith_good _ _ (fun r hr => items_good _ _ ih _ r hr) (fun r hr => items_good _ _ (pair_good _ ih) _ r hr) ws hw
theorem flowOf_good (ws : List Wd) (d : Nat) (es : List Ev.E) (hw : Gws ws) (h : flowOf ws d = .ok es) : GE es := by
  unfold flowOf at h
  have hs := node_good (40 - d) ws hw
  cases hn : node (40 - d) ws with
  | error e => rw [hn] at h; cases h
  | ok y =>
    obtain ⟨r, xs⟩ := y
    rw [hn] at h hs
    cases r with
    | nil => cases h; exact hs.2
    | cons w t => cases h
/-- what a state tells so far, and what it holds -/
structure GS (s : St) : Prop where
  held : GP s.held
  out : GE s.out
  fins : ∀ b ∈ s.blocks, b.fin ≠ 7
theorem gs_still {l : List Bk} (h : ∀ b ∈ l, b.fin ≠ 7) : ∀ b ∈ still l, b.fin ≠ 7 := by
  cases l with
  | nil => exact h
  | cons c t =>
    intro b hb
    rcases List.mem_cons.1 hb with rfl | hb
    · exact h c (List.mem_cons_self ..)
    · exact h b (List.mem_cons_of_mem _ hb)
theorem gs_wait {l : List Bk} (h : ∀ b ∈ l, b.fin ≠ 7) : ∀ b ∈ waitB l, b.fin ≠ 7 := by
  cases l with
  | nil => exact h
  | cons c t =>
    intro b hb
    rcases List.mem_cons.1 hb with rfl | hb
    · exact h c (List.mem_cons_self ..)
    · exact h b (List.mem_cons_of_mem _ hb)
theorem GS.wait {s : St} (h : GS s) : GS s.wait := ⟨h.held, h.out, gs_wait h.fins⟩
theorem on_good (p : Pr) (x : Ev.E) (hp : GP p) (hx : Fl x) (hk : x.kind = 2 ∨ x.kind = 4 ∨ x.kind = 6) : Fl (p.on x) := by
  obtain ⟨k, a, tg, tx, pl⟩ := x
  obtain ⟨hx, _, _, hl⟩ := hx
  simp only at hk hl
  unfold Ev.filled at hx
  rcases hk with rfl | rfl | rfl
  · simp at hx
    refine ⟨?_, hp.2.1, hp.2.2, hl⟩
    unfold Ev.filled Pr.on; simp [hp.1.1, hp.1.2, hx]
  · simp at hx
    refine ⟨?_, hp.2.1, hp.2.2, hl⟩
    unfold Ev.filled Pr.on; simp [hp.1.1, hp.1.2, hx]
  · simp at hx
    exact filled6 p tx pl hp hx.2 hl
theorem comes_good (s s' : St) (x : Ev.E) (bh : List Ev.E) (hs : GS s) (hx : Fl x) (hk : x.kind = 2 ∨ x.kind = 4 ∨ x.kind = 6 ∨ x.kind = 7) (hb : GE bh) (h : comes s x bh = .ok s') : GS s' := by
  unfold comes at h
  cases hd : dress s.held x with
  | error e => rw [hd] at h; cases h
  | ok y =>
    rw [hd] at h
    simp only at h
    cases h
    refine ⟨gp_nop, hs.out.app (GE.cons ?_ hb), gs_still hs.fins⟩
    unfold dress at hd
    split at hd
    · split at hd
      · cases hd
      · rename_i hn
        cases hd
        refine on_good _ _ hs.held hx ?_
        rcases hk with h | h | h | h
        · exact .inl h
        · exact .inr (.inl h)
        · exact .inr (.inr h)
        · exact absurd (.inl h) hn
    · cases hd; exact hx
theorem fill_good (s : St) (hs : GS s) : GS (fill s hole) := ⟨gp_nop, hs.out.app (ge_one (filled_hole _ hs.held)), gs_still hs.fins⟩
theorem close1_good (s : St) (hs : GS s) : GS (close1 s) := by
  unfold close1
  cases hb : s.blocks with
  | nil => exact hs
  | cons b t =>
    have hf := hs.fins
    rw [hb] at hf
    have h1 := hf b (List.mem_cons_self ..)
    have h2 : ∀ c ∈ t, c.fin ≠ 7 := fun c hc => hf c (List.mem_cons_of_mem _ hc)
    simp only
    split
    · exact ⟨gp_nop, hs.out.app (GE.cons (filled_hole _ hs.held) (ge_one (filled_ev _ h1))), h2⟩
    · exact ⟨hs.held, hs.out.app (ge_one (filled_ev _ h1)), h2⟩
theorem endGo_good : ∀ n s, GS s → GS (endGo n s)
  | 0, _, h => h
  | n + 1, s, h => by unfold endGo; exact endGo_good n _ (close1_good s h)
theorem endDoc_good (s : St) (h : GS s) : GS (endDoc s) := endGo_good _ s h
theorem beginDoc_good (s : St) (h : GS s) : GS (beginDoc s) := ⟨h.held, h.out.app (ge_one (filled_ev 0 (by decide))), fun b hb => by
  rcases List.mem_cons.1 hb with rfl | hb
  · decide
  · exact h.fins b hb⟩
theorem dropGo_good (ind : Int) : ∀ n s, GS s → GS (dropGo ind n s)
  | 0, _, h => h
  | n + 1, s, h => by
    unfold dropGo
    split
    · split
      · exact dropGo_good ind n _ (close1_good s h)
      · exact h
    · exact h
theorem place_good (s s' : St) (x : Ln) (hs : GS s) (h : place s x = .ok s') : GS s' := by
  unfold place at h
  have hd : GS (dropTo x.indent s) := dropGo_good _ _ s hs
  generalize dropTo x.indent s = d at *
  unfold placeAt at h
  split at h
  · cases h
  · split at h
    · split at h
      · cases h; exact hd
      · cases h
    · split at h
      · split at h
        · cases h; exact fill_good d hd
        · cases h; exact hd
      · cases h
theorem enter_good (s s' : St) (k c : Int) (hk : k = 2 ∨ k = 4) (hs : GS s) (h : enter s k (k + 1) c = .ok s') : GS s' := by
  unfold enter at h
  cases hb : s.blocks with
  | nil => rw [hb] at h; cases h
  | cons b t =>
    rw [hb] at h
    have hf := hs.fins
    rw [hb] at hf
    simp only at h
    split at h
    · cases h; exact hs
    · split at h
      · cases h
      · cases h
        refine ⟨gp_nop, hs.out.app (ge_one (filled24 _ k hk hs.held)), fun d hd => ?_⟩
        rcases List.mem_cons.1 hd with rfl | hd
        · simp only; omega
        · exact gs_still (l := b :: t) hf d hd
theorem dashes_good (ws : List Wd) : ∀ s s' r, GS s → Gws ws → dashes s ws = .ok (s', r) → GS s' ∧ Gws r := by
  induction ws with
  | nil => intro s s' r hs hw h; cases h; exact ⟨hs, hw⟩
  | cons w t ih =>
    intro s s' r hs hw h
    unfold dashes at h
    split at h
    · cases he : enter s 2 3 w.at_ with
      | error e => rw [he] at h; cases h
      | ok s1 =>
        rw [he] at h
        exact ih _ _ _ (enter_good s s1 2 _ (.inl rfl) hs he).wait hw.tail h
    · cases h; exact ⟨hs, hw⟩
theorem leaf_kind (w : Wd) (p : Pr) (x : Ev.E) (h : leaf w p = .ok x) : x.kind = 6 ∨ x.kind = 7 := by
  unfold leaf at h
  split at h
  · cases h; exact .inl rfl
  · split at h
    · split at h
      · cases h
      · cases h; exact .inr rfl
    · cases h
theorem keyGo_good (s s' : St) (p : Pr) (ws r : List Wd) (hs : GS s) (hw : Gws ws) (hp : GP p) (h : keyGo s p ws = .ok (s', r)) : GS s' ∧ Gws r := by
  have ha : ∀ x t, Fl x → (x.kind = 6 ∨ x.kind = 7) → Gws t → afterKey t (comes s x []) = .ok (s', r) → GS s' ∧ Gws r := by
    intro x t hx hk ht h
    cases hc : comes s x [] with
    | error e => rw [hc] at h; cases h
    | ok s1 =>
      rw [hc] at h
      cases h
      exact ⟨(comes_good s s1 x [] hs hx (by rcases hk with h | h <;> simp [h]) ge_nil hc).wait, ht⟩
  cases ws with
  | nil => cases h
  | cons w t =>
    unfold keyGo at h
    simp only at h
    split at h
    · exact ha _ _ (filled_hole p hp) (.inl rfl) hw.tail h
    · cases hl : leaf w p with
      | error e => rw [hl] at h; cases h
      | ok x =>
        rw [hl] at h
        exact ha _ _ (leaf_good w p x (hw w (List.mem_cons_self ..)) hp hl) (leaf_kind w p x hl) hw.tail.tail h
theorem keyed_good (s s' : St) (ws r : List Wd) (hs : GS s) (hw : Gws ws) (h : keyed s ws = .ok (s', r)) : GS s' ∧ Gws r := by
  cases ws with
  | nil => cases h
  | cons w t =>
    unfold keyed at h
    simp only at h
    cases he : enter s 4 5 w.at_ with
    | error e => rw [he] at h; cases h
    | ok s1 =>
      rw [he] at h
      simp only at h
      cases hc : cutP nop (w :: t) with
      | error e => rw [hc] at h; cases h
      | ok y =>
        obtain ⟨p, q⟩ := y
        rw [hc] at h
        obtain ⟨hp, hq⟩ := cutP_good _ _ _ _ hw gp_nop hc
        exact keyGo_good s1 s' p q r (enter_good s s1 4 _ (.inr rfl) hs he) hq hp h
/-- a node's first event is a node's -/
theorem first_kind (k : Nat) (ws : List Wd) (r : List Wd) (x : Ev.E) (xs : List Ev.E) (h : node k ws = .ok (r, x :: xs)) : x.kind = 2 ∨ x.kind = 4 ∨ x.kind = 6 ∨ x.kind = 7 := by
  have key : ∀ (lst mp : List Wd → Rd), nodeWith lst mp ws = .ok (r, x :: xs) → x.kind = 2 ∨ x.kind = 4 ∨ x.kind = 6 ∨ x.kind = 7 := by
    intro lst mp h
    unfold nodeWith at h
    cases hc : cutP nop ws with
    | error e => rw [hc] at h; cases h
    | ok y =>
      obtain ⟨p, q⟩ := y
      rw [hc] at h
      simp only at h
      have hw : ∀ k y, wrap p k y = .ok (r, x :: xs) → x.kind = k := by
        intro k y h
        cases y with
        | error e => cases h
        | ok z => cases h; rfl
      split at h
      · exact .inl (hw _ _ h)
      · split at h
        · exact .inr (.inl (hw _ _ h))
        · unfold leafW at h
          cases q with
          | nil => cases h
          | cons w t =>
            simp only at h
            cases hl : leaf w p with
            | error e => rw [hl] at h; cases h
            | ok y =>
              rw [hl] at h
              cases h
              exact .inr (.inr (leaf_kind _ _ _ hl))
  cases k with
  | zero => unfold node at h; exact key _ _ h
  | succ k => unfold node at h; exact key _ _ h
theorem flowOf_kind (ws : List Wd) (d : Nat) (x : Ev.E) (xs : List Ev.E) (h : flowOf ws d = .ok (x :: xs)) : x.kind = 2 ∨ x.kind = 4 ∨ x.kind = 6 ∨ x.kind = 7 := by
  unfold flowOf at h
  cases hn : node (40 - d) ws with
  | error e => rw [hn] at h; cases h
  | ok y =>
    obtain ⟨r, zs⟩ := y
    rw [hn] at h
    cases r with
    | nil => cases h; exact first_kind _ _ _ _ _ hn
    | cons w t => cases h
theorem value_good (s s' : St) (ws : List Wd) (tx : List UInt8) (hs : GS s) (hw : Gws ws) (ht : Lib.validD tx = true) (hl : tx.length ≤ 50000) (h : value s ws tx = .ok s') : GS s' := by
  unfold value at h
  cases hc : cutP nop ws with
  | error e => rw [hc] at h; cases h
  | ok y =>
    obtain ⟨p, r⟩ := y
    rw [hc] at h
    obtain ⟨hp, hr⟩ := cutP_good _ _ _ _ hw gp_nop hc
    simp only at h
    split at h
    · unfold hold at h
      split at h
      · cases h
      · cases h; exact ⟨hp, hs.out, hs.fins⟩
    · split at h
      · exact comes_good s s' _ [] hs (filled6 p tx false hp ht hl) (.inr (.inr (.inl rfl))) ge_nil h
      · cases hf : flowOf ws (s.blocks.length - 1) with
        | error e => rw [hf] at h; cases h
        | ok es =>
          rw [hf] at h
          have hg := flowOf_good _ _ _ hw hf
          cases es with
          | nil => cases h
          | cons x xs => exact comes_good s s' x xs hs (hg x (List.mem_cons_self ..)) (flowOf_kind _ _ _ _ hf) (fun y hy => hg y (List.mem_cons_of_mem _ hy)) h
def GL (x : Ln) : Prop := Gws x.words ∧ Lib.validD x.text = true ∧ x.text.length ≤ 50000
theorem wordsOf_good (s s' : St) (x : Ln) (hs : GS s) (hx : GL x) (h : wordsOf s x = .ok s') : GS s' := by
  unfold wordsOf at h
  cases hd : dashes s x.words with
  | error e => rw [hd] at h; cases h
  | ok y =>
    obtain ⟨s1, ws⟩ := y
    rw [hd] at h
    obtain ⟨h1, h2⟩ := dashes_good _ _ _ _ hs hx.1 hd
    simp only at h
    have hb : ∀ y, (∀ s2 r, y = .ok (s2, r) → GS s2 ∧ Gws r) → behind x.text y = .ok s' → GS s' := by
      intro y hy h
      cases y with
      | error e => cases h
      | ok z =>
        obtain ⟨s2, r⟩ := z
        obtain ⟨g1, g2⟩ := hy s2 r rfl
        cases r with
        | nil => cases h; exact g1
        | cons w t => exact value_good _ _ _ _ g1 g2 hx.2.1 hx.2.2 h
    refine hb _ ?_ h
    intro s2 r he
    split at he
    · exact keyed_good _ _ _ _ h1 h2 he
    · cases he; exact ⟨h1, h2⟩
theorem lineIn_good (s s' : St) (x : Ln) (hs : GS s) (hx : GL x) (h : lineIn s x = .ok s') : GS s' := by
  unfold lineIn at h
  split at h
  · cases h; exact beginDoc_good _ (endDoc_good s hs)
  · split at h
    · cases h; exact endDoc_good s hs
    · have ho : GS (opened s) := by
        unfold opened
        split
        · exact beginDoc_good s hs
        · exact hs
      cases hp : place (opened s) x with
      | error e => rw [hp] at h; cases h
      | ok s1 =>
        rw [hp] at h
        exact wordsOf_good s1 s' x (place_good _ _ _ ho hp) hx h
theorem docsGo_good (ls : List Ln) : ∀ s s', GS s → (∀ x ∈ ls, GL x) → docsGo ls s = .ok s' → GS s' := by
  induction ls with
  | nil => intro s s' hs _ h; cases h; exact endDoc_good s hs
  | cons x t ih =>
    intro s s' hs hl h
    unfold docsGo at h
    cases hx : lineIn s x with
    | error e => rw [hx] at h; cases h
    | ok s1 =>
      rw [hx] at h
      exact ih s1 s' (lineIn_good _ _ _ hs (hl x (List.mem_cons_self ..)) hx) (fun y hy => hl y (List.mem_cons_of_mem _ hy)) h
theorem events_good (ls : List Ln) (es : List Ev.E) (hl : ∀ x ∈ ls, GL x) (h : events ls = .ok es) : GE es := by
  unfold events at h
  cases hd : docsGo ls st0 with
  | error e => rw [hd] at h; cases h
  | ok s =>
    rw [hd] at h
    cases h
    exact (docsGo_good ls st0 s ⟨gp_nop, ge_nil, fun b hb => by cases hb⟩ hl hd).out
end Px
end Go.Proofs.YtjcfmghijfnehaaGreatDoor
