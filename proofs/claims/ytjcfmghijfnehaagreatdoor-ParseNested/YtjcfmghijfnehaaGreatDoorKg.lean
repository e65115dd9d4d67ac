/-
  Plain mathematics: the events that are told nest as documents do, and are no deeper than may be.
-/
import Derived.Test.YtjcfmghijfnehaaGreatDoorKf
namespace Go.Proofs.YtjcfmghijfnehaaGreatDoor
namespace Px
open Lx (Wd Ln)
open Ev (run dmax dsum)
abbrev ks (es : List Ev.E) : List Int := Ev.kinds es
theorem ks_app (a b : List Ev.E) : ks (a ++ b) = ks a ++ ks b := by unfold ks Ev.kinds; rw [List.map_append]
theorem ks_cons (x : Ev.E) (b : List Ev.E) : ks (x :: b) = x.kind :: ks b := rfl
/-- events that are m nodes, k deep at most -/
structure Nd (m : Nat) (k : Nat) (es : List Ev.E) : Prop where
  go : ∀ g n r, run ((g, n) :: r) (ks es) = some ((g, n + m) :: r)
  deep : dmax (ks es) ≤ k
  flat : dsum (ks es) = 0
theorem Nd.nil (k : Nat) : Nd 0 k [] := ⟨fun _ _ _ => rfl, by simp [Ev.kinds, dmax], rfl⟩
theorem Nd.app {m n k : Nat} {a b : List Ev.E} (h : Nd m k a) (h' : Nd n k b) : Nd (m + n) k (a ++ b) where
  go g j r := by rw [ks_app, Ev.run_app, h.go, Option.bind_some, h'.go]; simp [Nat.add_assoc]
  deep := by rw [ks_app, Ev.dmax_app, h.flat]; have := h.deep; have := h'.deep; omega
  flat := by rw [ks_app, Ev.dsum_app, h.flat, h'.flat]; rfl
theorem Nd.leaf (x : Ev.E) (k : Nat) (h : x.kind = 6 ∨ x.kind = 7) : Nd 1 k [x] := by
  have e : ks [x] = [x.kind] := rfl
  refine ⟨fun g n r => ?_, ?_, ?_⟩ <;> rw [e] <;> rcases h with h | h <;> rw [h]
  · simp [run, Ev.step, Ev.isNode, Ev.push, Ev.opens]
  · simp [run, Ev.step, Ev.isNode, Ev.push, Ev.opens]
  · simp [dmax, Ev.dstep]
  · simp [dmax, Ev.dstep]
  · simp [dsum, Ev.dstep]
  · simp [dsum, Ev.dstep]
theorem Nd.wide {m k k' : Nat} {a : List Ev.E} (h : Nd m k a) (hk : k ≤ k') : Nd m k' a := ⟨h.go, by have := h.deep; omega, h.flat⟩
theorem Nd.wrap {m k : Nat} {es : List Ev.E} {x : Ev.E} {j : Int} (hj : j = 2 ∨ j = 4) (hx : x.kind = j) (h : Nd m k es) (hm : j = 4 → m % 2 = 0) : Nd 1 (k + 1) (x :: (es ++ [ev (j + 1)])) := by
  have e : ks (x :: (es ++ [ev (j + 1)])) = j :: (ks es ++ [j + 1]) := by rw [ks_cons, ks_app, hx]; rfl
  refine ⟨fun g n r => ?_, ?_, ?_⟩ <;> rw [e]
  · have h1 : Ev.step ((g, n) :: r) j = some ((j, 0) :: (g, n + 1) :: r) := by
      rcases hj with rfl | rfl <;> simp [Ev.step, Ev.isNode, Ev.push, Ev.opens]
    simp only [run]
    rw [h1, Option.bind_some, Ev.run_app, h.go, Option.bind_some]
    simp only [run]
    have h2 : Ev.step ((j, 0 + m) :: (g, n + 1) :: r) (j + 1) = some ((g, n + 1) :: r) := by
      rcases hj with rfl | rfl
      · simp [Ev.step, Ev.isNode, Ev.closes]
      · simp [Ev.step, Ev.isNode, Ev.closes, hm rfl]
    rw [h2]; rfl
  · have hd := h.deep
    have hf := h.flat
    have e1 : dmax [j + 1] = 0 := by rcases hj with rfl | rfl <;> (simp [dmax, Ev.dstep]; decide)
    have e2 : Ev.dstep j = 1 := by rcases hj with rfl | rfl <;> simp [Ev.dstep]
    simp only [dmax]
    rw [Ev.dmax_app, hf, e1, e2]; omega
  · have hf := h.flat
    have e1 : dsum [j + 1] = -1 := by rcases hj with rfl | rfl <;> simp [dsum, Ev.dstep]
    have e2 : Ev.dstep j = 1 := by rcases hj with rfl | rfl <;> simp [Ev.dstep]
    simp only [dsum]
    rw [Ev.dsum_app, hf, e1, e2]; omega
def NR (m k : Nat) : Rd → Prop
  | .ok (_, es) => Nd m k es
  | .error _ => True
/-- any number, or any even one -/
def NRs (ev2 : Bool) (k : Nat) : Rd → Prop
  | .ok (_, es) => ∃ m, Nd m k es ∧ (ev2 = true → m % 2 = 0)
  | .error _ => True
theorem leafW_nd (p : Pr) (ws : List Wd) (k : Nat) : NR 1 k (leafW p ws) := by
  cases ws with
  | nil => exact True.intro
  | cons w t =>
    unfold leafW
    simp only
    cases hl : leaf w p with
    | ok x => exact Nd.leaf x k (leaf_kind w p x hl)
    | error e => exact True.intro
theorem items_nd (one : List Wd → Rd) (close : Nat) (b : Bool) (c k : Nat) (hc : b = true → c % 2 = 0) (ho : ∀ ws, NR c k (one ws)) : ∀ m ws, NRs b k (items one close m ws) := by
  have hp : ∀ (es : List Ev.E) (x : Rd), Nd c k es → NRs b k x → NRs b k (pre es x) := by
    intro es x he hx
    cases x with
    | error e => exact True.intro
    | ok y =>
      obtain ⟨m, h1, h2⟩ := hx
      exact ⟨c + m, he.app h1, fun hb => by have := h2 hb; have := hc hb; omega⟩
  intro m
  induction m with
  | zero => intro ws; exact True.intro
  | succ m ih =>
    intro ws
    unfold items
    split
    · exact ⟨0, Nd.nil k, fun _ => rfl⟩
    · have h1 := ho ws
      cases hx : one ws with
      | error e => exact True.intro
      | ok y =>
        rw [hx] at h1
        simp only
        split
        · exact hp _ _ h1 (ih _)
        · split
          · exact hp _ _ h1 (ih _)
          · exact True.intro
theorem hole_nd (k : Nat) : Nd 1 k [hole] := Nd.leaf hole k (.inl rfl)
theorem keyW_nd (ws : List Wd) (k : Nat) : NR 1 k (keyW ws) := by
  unfold keyW
  split
  · exact hole_nd k
  · cases cutP nop ws with
    | error e => exact True.intro
    | ok x => exact leafW_nd _ _ k
theorem pair_nd (nd : List Wd → Rd) (k : Nat) (hn : ∀ ws, NR 1 k (nd ws)) (ws : List Wd) : NR 2 k (pair nd ws) := by
  unfold pair
  have h1 := keyW_nd ws k
  cases hk : keyW ws with
  | error e => exact True.intro
  | ok y =>
    obtain ⟨r, es⟩ := y
    rw [hk] at h1
    simp only
    split
    · split
      · exact Nd.app h1 (hole_nd k)
      · have h2 := hn r.tail
        cases hx : nd r.tail with
        | error e => exact True.intro
        | ok z => rw [hx] at h2; exact Nd.app h1 h2
    · exact Nd.app h1 (hole_nd k)
theorem wrap_nd {p : Pr} {j : Int} {k : Nat} {x : Rd} {b : Bool} (hj : (j = 2 ∧ b = false) ∨ (j = 4 ∧ b = true)) (h : NRs b k x) : NR 1 (k + 1) (wrap p j x) := by
  cases x with
  | error e => exact True.intro
  | ok y =>
    obtain ⟨m, h1, h2⟩ := h
    refine Nd.wrap (by omega) rfl h1 fun e => h2 ?_
    rcases hj with ⟨h, _⟩ | ⟨_, h⟩
    · omega
    · exact h
theorem nodeWith_nd (k : Nat) (lst mp : List Wd → Rd) (h1 : ∀ ws (p : Pr), NR 1 k (wrap p 2 (lst ws))) (h2 : ∀ ws (p : Pr), NR 1 k (wrap p 4 (mp ws))) (ws : List Wd) : NR 1 k (nodeWith lst mp ws) := by
  unfold nodeWith
  cases hc : cutP nop ws with
  | error e => exact True.intro
  | ok x =>
    obtain ⟨p, r⟩ := x
    simp only
    split
    · exact h1 _ _
    · split
      · exact h2 _ _
      · exact leafW_nd p r k
theorem node_nd : ∀ k ws, NR 1 k (node k ws) := by
  intro k
  induction k with
  | zero => intro ws; unfold node; exact nodeWith_nd 0 (fun _ => .error 13) (fun _ => .error 13) (fun _ _ => True.intro) (fun _ _ => True.intro) ws
  | succ k ih =>
    intro ws
    unfold node
    exact nodeWith_nd (k + 1) _ _ (fun r p => wrap_nd (.inl ⟨rfl, rfl⟩) (items_nd (node k) 7 false 1 k (fun h => by cases h) ih _ r)) (fun r p => wrap_nd (.inr ⟨rfl, rfl⟩) (items_nd (pair (node k)) 9 true 2 k (fun _ => rfl) (pair_nd _ k ih) _ r)) ws
theorem flowOf_nd (ws : List Wd) (d : Nat) (es : List Ev.E) (h : flowOf ws d = .ok es) : Nd 1 (40 - d) es := by
  unfold flowOf at h
  have hs := node_nd (40 - d) ws
  cases hn : node (40 - d) ws with
  | error e => rw [hn] at h; cases h
  | ok y =>
    obtain ⟨r, xs⟩ := y
    rw [hn] at h hs
    cases r with
    | nil => cases h; exact hs
    | cons w t => cases h

/-- a block and the group that its event opened -/
def Bo (b : Bk) (g : Int × Nat) : Prop := g.1 = b.kind ∧ b.fin = b.kind + 1 ∧ ((b.kind = 0 ∧ g.2 = if b.waits then 0 else 1) ∨ b.kind = 2 ∨ (b.kind = 4 ∧ g.2 % 2 = if b.waits then 1 else 0))
/-- lists and maps, and the document below them -/
def Fit : List Bk → Ev.St → Prop
  | [], st => st = []
  | [b], st => ∃ g, st = [g] ∧ Bo b g ∧ b.kind = 0
  | b :: c :: t, st => ∃ g r, st = g :: r ∧ Bo b g ∧ (b.kind = 2 ∨ b.kind = 4) ∧ Fit (c :: t) r
theorem Fit.cons {b : Bk} {t : List Bk} {st : Ev.St} (h : Fit (b :: t) st) : ∃ g r, st = g :: r ∧ Bo b g ∧ Fit t r ∧ ((t = [] ∧ b.kind = 0) ∨ (t ≠ [] ∧ (b.kind = 2 ∨ b.kind = 4))) := by
  cases t with
  | nil => obtain ⟨g, rfl, h1, h2⟩ := h; exact ⟨g, [], rfl, h1, rfl, .inl ⟨rfl, h2⟩⟩
  | cons c t => obtain ⟨g, r, rfl, h1, h2, h3⟩ := h; exact ⟨g, r, rfl, h1, h3, .inr ⟨by simp, h2⟩⟩
theorem Fit.mk {b : Bk} {t : List Bk} {g : Int × Nat} {r : Ev.St} (h1 : Bo b g) (h2 : Fit t r) (h3 : (t = [] ∧ b.kind = 0) ∨ (t ≠ [] ∧ (b.kind = 2 ∨ b.kind = 4))) : Fit (b :: t) (g :: r) := by
  cases t with
  | nil =>
    have : r = [] := h2
    subst this
    rcases h3 with ⟨_, h3⟩ | ⟨h3, _⟩
    · exact ⟨g, rfl, h1, h3⟩
    · exact absurd rfl h3
  | cons c t =>
    rcases h3 with ⟨h3, _⟩ | ⟨_, h3⟩
    · cases h3
    · exact ⟨g, r, rfl, h1, h3, h2⟩
theorem Fit.len : ∀ {l : List Bk} {st : Ev.St}, Fit l st → st.length = l.length
  | [], st, h => by cases h; rfl
  | b :: t, st, h => by
    obtain ⟨g, r, rfl, _, h2, _⟩ := h.cons
    rw [List.length_cons, List.length_cons, Fit.len h2]
/-- what is told so far is well nested -/
structure Ns (s : St) : Prop where
  fit : ∃ st, run [] (ks s.out) = some st ∧ Fit s.blocks st
  deep : dmax (ks s.out) ≤ 40
  sum : dsum (ks s.out) = (s.blocks.length - 1 : Nat)
  few : s.blocks.length ≤ 41
/-- the last block may take a node -/
def Open : List Bk → Prop
  | [] => False
  | b :: _ => b.kind = 2 ∨ b.waits = true ∨ b.kind = 4
/-- a node comes to a document or map that waits, or to a list -/
theorem Ns.node {s : St} {b : Bk} {t : List Bk} {es : List Ev.E} {h' : Pr} (h : Ns s) (hb : s.blocks = b :: t) (hn : Nd 1 (40 - t.length) es) (hw : b.kind = 2 ∨ b.waits = true) : Ns ⟨b.still :: t, h', s.out ++ es⟩ := by
  obtain ⟨⟨st, h1, h2⟩, hd, hs, hf⟩ := h
  rw [hb] at h2 hs hf
  obtain ⟨⟨g, n⟩, r, rfl, ⟨b1, b2, b3⟩, h4, h5⟩ := h2.cons
  simp only at b1 b3
  subst b1
  simp only [List.length_cons] at hs hf
  refine ⟨⟨(b.kind, n + 1) :: r, ?_, ?_⟩, ?_, ?_, ?_⟩
  · show run [] (ks (s.out ++ es)) = _
    rw [ks_app, Ev.run_app, h1, Option.bind_some, hn.go]
  · refine Fit.mk ⟨rfl, b2, ?_⟩ h4 h5
    unfold Bk.still
    simp only
    rcases b3 with ⟨k0, hn0⟩ | k2 | ⟨k4, hn4⟩
    · rcases hw with hw | hw
      · omega
      · rw [hw] at hn0; exact .inl ⟨k0, by simp at hn0; simp [hn0]⟩
    · exact .inr (.inl k2)
    · rcases hw with hw | hw
      · omega
      · rw [hw] at hn4; exact .inr (.inr ⟨k4, by simp at hn4; simp; omega⟩)
  · show dmax (ks (s.out ++ es)) ≤ 40
    rw [ks_app, Ev.dmax_app, hs]
    have := hn.deep
    omega
  · show dsum (ks (s.out ++ es)) = _
    rw [ks_app, Ev.dsum_app, hn.flat, hs]; simp
  · show (b.still :: t).length ≤ 41
    simp only [List.length_cons]; exact hf
/-- a key comes to a map that does not wait; then it waits -/
theorem Ns.key {s : St} {b : Bk} {t : List Bk} {es : List Ev.E} {h' : Pr} (h : Ns s) (hb : s.blocks = b :: t) (hn : Nd 1 (40 - t.length) es) (hk : b.kind = 4) (hw : b.waits = false) : Ns ⟨b.wait :: t, h', s.out ++ es⟩ := by
  obtain ⟨⟨st, h1, h2⟩, hd, hs, hf⟩ := h
  rw [hb] at h2 hs hf
  obtain ⟨⟨g, n⟩, r, rfl, ⟨b1, b2, b3⟩, h4, h5⟩ := h2.cons
  simp only at b1 b3
  subst b1
  simp only [List.length_cons] at hs hf
  refine ⟨⟨(b.kind, n + 1) :: r, ?_, ?_⟩, ?_, ?_, ?_⟩
  · show run [] (ks (s.out ++ es)) = _
    rw [ks_app, Ev.run_app, h1, Option.bind_some, hn.go]
  · refine Fit.mk ⟨rfl, b2, ?_⟩ h4 h5
    unfold Bk.wait
    simp only
    rcases b3 with ⟨k0, hn0⟩ | k2 | ⟨k4, hn4⟩
    · omega
    · omega
    · rw [hw] at hn4; exact .inr (.inr ⟨k4, by simp at hn4; simp; omega⟩)
  · show dmax (ks (s.out ++ es)) ≤ 40
    rw [ks_app, Ev.dmax_app, hs]
    have := hn.deep
    omega
  · show dsum (ks (s.out ++ es)) = _
    rw [ks_app, Ev.dsum_app, hn.flat, hs]; simp
  · show (b.wait :: t).length ≤ 41
    simp only [List.length_cons]; exact hf
/-- a block begins in one that may take a node -/
theorem Ns.enter {s : St} {b : Bk} {t : List Bk} {x : Ev.E} {k c : Int} {h' : Pr} (h : Ns s) (hb : s.blocks = b :: t) (hx : x.kind = k) (hk : k = 2 ∨ k = 4) (hw : b.kind = 2 ∨ b.waits = true) (hl : t.length < 40) : Ns ⟨⟨k, k + 1, c, false⟩ :: b.still :: t, h', s.out ++ [x]⟩ := by
  obtain ⟨⟨st, h1, h2⟩, hd, hs, hf⟩ := h
  rw [hb] at h2 hs hf
  obtain ⟨⟨g, n⟩, r, rfl, ⟨b1, b2, b3⟩, h4, h5⟩ := h2.cons
  simp only at b1 b3
  subst b1
  simp only [List.length_cons] at hs hf
  have e : ks [x] = [k] := by rw [← hx]; rfl
  refine ⟨⟨(k, 0) :: (b.kind, n + 1) :: r, ?_, ?_⟩, ?_, ?_, ?_⟩
  · show run [] (ks (s.out ++ [x])) = _
    rw [ks_app, Ev.run_app, h1, Option.bind_some, e]
    rcases hk with rfl | rfl <;> simp [run, Ev.step, Ev.isNode, Ev.push, Ev.opens]
  · refine Fit.mk ⟨rfl, rfl, ?_⟩ (Fit.mk ⟨rfl, b2, ?_⟩ h4 h5) (.inr ⟨by simp, hk⟩)
    · rcases hk with rfl | rfl
      · exact .inr (.inl rfl)
      · exact .inr (.inr ⟨rfl, rfl⟩)
    · unfold Bk.still
      simp only
      rcases b3 with ⟨k0, hn0⟩ | k2 | ⟨k4, hn4⟩
      · rcases hw with hw | hw
        · omega
        · rw [hw] at hn0; exact .inl ⟨k0, by simp at hn0; simp [hn0]⟩
      · exact .inr (.inl k2)
      · rcases hw with hw | hw
        · omega
        · rw [hw] at hn4; exact .inr (.inr ⟨k4, by simp at hn4; simp; omega⟩)
  · show dmax (ks (s.out ++ [x])) ≤ 40
    rw [ks_app, Ev.dmax_app, hs, e]
    rcases hk with rfl | rfl <;> simp [dmax, Ev.dstep] <;> omega
  · show dsum (ks (s.out ++ [x])) = _
    rw [ks_app, Ev.dsum_app, hs, e]
    rcases hk with rfl | rfl <;> simp [dsum, Ev.dstep] <;> omega
  · simp only [List.length_cons]; omega
theorem Ns.doc {s : St} {h' : Pr} (h : Ns s) (hb : s.blocks = []) : Ns ⟨[doc], h', s.out ++ [ev 0]⟩ := by
  obtain ⟨⟨st, h1, h2⟩, hd, hs, hf⟩ := h
  rw [hb] at h2 hs
  have h2 : st = [] := h2
  subst h2
  simp only [List.length_nil] at hs
  have e : ks [ev 0] = [0] := rfl
  refine ⟨⟨[(0, 0)], ?_, ⟨_, rfl, ⟨rfl, rfl, .inl ⟨rfl, rfl⟩⟩, rfl⟩⟩, ?_, ?_, ?_⟩
  · show run [] (ks (s.out ++ [ev 0])) = _
    rw [ks_app, Ev.run_app, h1, Option.bind_some, e]; rfl
  · show dmax (ks (s.out ++ [ev 0])) ≤ 40
    rw [ks_app, Ev.dmax_app, hs, e]
    simp [dmax, Ev.dstep]; omega
  · show dsum (ks (s.out ++ [ev 0])) = _
    rw [ks_app, Ev.dsum_app, hs, e]; simp [dsum, Ev.dstep]
  · simp
/-- one that does not wait is closed -/
theorem Ns.shut {s : St} {b : Bk} {t : List Bk} {h' : Pr} (h : Ns s) (hb : s.blocks = b :: t) (hw : b.waits = false ∨ b.kind = 2) : Ns ⟨t, h', s.out ++ [ev b.fin]⟩ := by
  obtain ⟨⟨st, h1, h2⟩, hd, hs, hf⟩ := h
  rw [hb] at h2 hs hf
  obtain ⟨⟨g, n⟩, r, rfl, ⟨b1, b2, b3⟩, h4, h5⟩ := h2.cons
  simp only at b1 b3
  subst b1
  simp only [List.length_cons] at hs hf
  have e : ks [ev b.fin] = [b.kind + 1] := by rw [b2]; rfl
  have hr : run ((b.kind, n) :: r) [b.kind + 1] = some r := by
    simp only [run]
    have : Ev.step ((b.kind, n) :: r) (b.kind + 1) = some r := by
      rcases b3 with ⟨k0, hn0⟩ | k2 | ⟨k4, hn4⟩
      · rcases hw with hw | hw
        · rw [hw] at hn0; simp at hn0; rw [k0, hn0]; simp [Ev.step, Ev.isNode, Ev.closes]
        · omega
      · rw [k2]; simp [Ev.step, Ev.isNode, Ev.closes]
      · rcases hw with hw | hw
        · rw [hw] at hn4; simp at hn4; rw [k4]; simp [Ev.step, Ev.isNode, Ev.closes, hn4]
        · omega
    rw [this]; rfl
  have hk : (t = [] ∧ b.kind = 0) ∨ (t ≠ [] ∧ (b.kind = 2 ∨ b.kind = 4)) := h5
  refine ⟨⟨r, ?_, h4⟩, ?_, ?_, ?_⟩
  · show run [] (ks (s.out ++ [ev b.fin])) = _
    rw [ks_app, Ev.run_app, h1, Option.bind_some, e, hr]
  · show dmax (ks (s.out ++ [ev b.fin])) ≤ 40
    rw [ks_app, Ev.dmax_app, hs, e]
    rcases hk with ⟨_, k⟩ | ⟨_, k | k⟩ <;> rw [k] <;> simp [dmax, Ev.dstep] <;> omega
  · show dsum (ks (s.out ++ [ev b.fin])) = _
    rw [ks_app, Ev.dsum_app, hs, e]
    rcases hk with ⟨ht, k⟩ | ⟨ht, k⟩
    · subst ht; rw [k]; simp [dsum, Ev.dstep]
    · have hl : 0 < t.length := List.length_pos_iff.2 ht
      rcases k with k | k <;> rw [k] <;> simp [dsum, Ev.dstep] <;> omega
  · show t.length ≤ 41
    omega
theorem close1_ns (s : St) (h : Ns s) : Ns (close1 s) := by
  unfold close1
  cases hb : s.blocks with
  | nil => exact h
  | cons b t =>
    simp only
    have hl := h.few
    rw [hb, List.length_cons] at hl
    split
    · rename_i hw
      have h1 := h.node (h' := nop) hb (Nd.leaf (s.held.on hole) _ (.inl rfl)) (.inr hw)
      have h2 := h1.shut (h' := nop) (b := b.still) (t := t) rfl (.inl rfl)
      simp only [List.append_assoc] at h2
      exact h2
    · rename_i hw
      exact h.shut hb (.inl (by simpa using hw))
theorem endGo_ns : ∀ n s, Ns s → Ns (endGo n s)
  | 0, _, h => h
  | n + 1, s, h => by unfold endGo; exact endGo_ns n _ (close1_ns s h)
theorem endDoc_ns (s : St) (h : Ns s) : Ns (endDoc s) := endGo_ns _ s h
theorem dropGo_ns (ind : Int) : ∀ n s, Ns s → Ns (dropGo ind n s)
  | 0, _, h => h
  | n + 1, s, h => by
    unfold dropGo
    split
    · split
      · exact dropGo_ns ind n _ (close1_ns s h)
      · exact h
    · exact h
/-- what a line's first word has to be -/
def Lead (s : St) (ws : List Wd) (ind : Int) : Prop := match s.blocks with
  | [] => False
  | b :: _ => (b.waits = true ∧ (b.kind = 4 → b.col < ind)) ∨ (b.waits = false ∧ b.col = ind ∧ goesOn b.kind ws = true)
theorem dropGo_col (ind : Int) : ∀ n s, s.blocks.length ≤ n + 1 → ∀ b c t, (dropGo ind n s).blocks = b :: c :: t → b.col ≤ ind
  | 0, s, h, b, c, t, hb => by
    have e : s.blocks = b :: c :: t := hb
    rw [e] at h; simp at h
  | n + 1, s, h, b, c, t, hb => by
    unfold dropGo at hb
    split at hb
    · rename_i b' c' t' hs
      split at hb
      · exact dropGo_col ind n (close1 s) (by rw [close1_len]; omega) b c t hb
      · rw [hs] at hb; cases hb; omega
    · rename_i hn
      exact absurd hb (hn b c t)
theorem Ns.four {s : St} (h : Ns s) {b : Bk} {t : List Bk} (hb : s.blocks = b :: t) (hk : b.kind = 4) : t ≠ [] := by
  obtain ⟨⟨st, _, h2⟩, _⟩ := h
  rw [hb] at h2
  obtain ⟨_, _, _, _, _, h5⟩ := h2.cons
  rcases h5 with ⟨_, h5⟩ | ⟨h5, _⟩
  · omega
  · exact h5
theorem place_ns (s s' : St) (x : Ln) (h : Ns s) (hp : place s x = .ok s') : Ns s' ∧ Lead s' x.words x.indent := by
  unfold place at hp
  have hd : Ns (dropTo x.indent s) := dropGo_ns _ _ s h
  have hcl : ∀ b c t, (dropTo x.indent s).blocks = b :: c :: t → b.col ≤ x.indent := dropGo_col _ _ s (by omega)
  generalize dropTo x.indent s = d at *
  unfold placeAt at hp
  cases hb : d.blocks with
  | nil => rw [hb] at hp; cases hp
  | cons b t =>
    rw [hb] at hp
    simp only at hp
    split at hp
    · rename_i hne
      split at hp
      · rename_i hw
        cases hp
        refine ⟨hd, ?_⟩
        unfold Lead; rw [hb]
        refine .inl ⟨hw, fun hk => ?_⟩
        cases t with
        | nil => exact absurd rfl (hd.four hb hk)
        | cons c t => have := hcl b c t hb; omega
      · cases hp
    · rename_i hc
      have hc : b.col = x.indent := by omega
      split at hp
      · rename_i hg
        split at hp
        · rename_i hw
          cases hp
          have e : fill d hole = ⟨b.still :: t, nop, d.out ++ [d.held.on hole]⟩ := by unfold fill; rw [hb]; rfl
          rw [e]
          refine ⟨hd.node hb (Nd.leaf (d.held.on hole) _ (.inl rfl)) (.inr hw), .inr ⟨rfl, hc, hg⟩⟩
        · rename_i hw
          cases hp
          refine ⟨hd, ?_⟩
          unfold Lead; rw [hb]; exact .inr ⟨by simpa using hw, hc, hg⟩
      · cases hp
/-- the last block may take a node: a list, or one that waits -/
def Takes : List Bk → Prop
  | [] => False
  | b :: _ => b.waits = true
/-- a block as enter leaves it -/
def Entered (s : St) (k c : Int) : Prop := match s.blocks with
  | [] => False
  | b :: _ => b.kind = k ∧ b.col = c
theorem enter_ns (s s' : St) (k c : Int) (hk : k = 2 ∨ k = 4) (h : Ns s) (hl : Takes s.blocks ∨ Entered s k c) (he : enter s k (k + 1) c = .ok s') : Ns s' ∧ Entered s' k c ∧ ((¬ Entered s k c → ∀ b t, s'.blocks = b :: t → b.waits = false) ∧ (Entered s k c → s' = s)) := by
  unfold enter at he
  cases hb : s.blocks with
  | nil => rw [hb] at he; cases he
  | cons b t =>
    rw [hb] at he
    simp only at he
    split at he
    · rename_i hc
      cases he
      have : Entered s k c := by unfold Entered; rw [hb]; exact hc
      exact ⟨h, this, fun hn => absurd this hn, fun _ => rfl⟩
    · rename_i hc
      have hn : ¬ Entered s k c := by unfold Entered; rw [hb]; exact hc
      split at he
      · cases he
      · cases he
        have hw : b.waits = true := by
          rcases hl with hl | hl
          · rw [hb] at hl; exact hl
          · exact absurd hl hn
        refine ⟨h.enter hb rfl hk (.inr hw) (by omega), ⟨rfl, rfl⟩, fun _ d u hd => ?_, fun hn' => absurd hn' hn⟩
        cases hd; rfl
theorem wait_list (s : St) (h : Ns s) (c : Int) (he : Entered s 2 c) : Ns s.wait ∧ Takes s.wait.blocks := by
  unfold Entered at he
  cases hb : s.blocks with
  | nil => rw [hb] at he; cases he
  | cons b t =>
    rw [hb] at he
    obtain ⟨⟨st, h1, h2⟩, hd, hs, hf⟩ := h
    rw [hb] at h2 hs hf
    obtain ⟨⟨g, n⟩, r, rfl, ⟨b1, b2, b3⟩, h4, h5⟩ := h2.cons
    have e : s.wait = ⟨b.wait :: t, s.held, s.out⟩ := by unfold St.wait; rw [hb]; rfl
    rw [e]
    exact ⟨⟨⟨(g, n) :: r, h1, Fit.mk ⟨b1, b2, .inr (.inl he.1)⟩ h4 h5⟩, hd, hs, hf⟩, rfl⟩
/-- dashes: what is left begins a node that is waited for, or nothing was done -/
theorem dashes_ns (ws : List Wd) : ∀ s s' r, Ns s → Takes s.blocks → dashes s ws = .ok (s', r) → Ns s' ∧ Takes s'.blocks ∧ bk r 12 = false := by
  induction ws with
  | nil => intro s s' r hs hw h; cases h; exact ⟨hs, hw, rfl⟩
  | cons w t ih =>
    intro s s' r hs hw h
    unfold dashes at h
    split at h
    · cases he : enter s 2 3 w.at_ with
      | error e => rw [he] at h; cases h
      | ok s1 =>
        rw [he] at h
        obtain ⟨h1, h2, _⟩ := enter_ns s s1 2 _ (.inl rfl) hs (.inl hw) he
        obtain ⟨h3, h4⟩ := wait_list s1 h1 _ h2
        exact ih _ _ _ h3 h4 h
    · rename_i hk
      cases h; exact ⟨hs, hw, by unfold bk; exact decide_eq_false hk⟩
theorem keyGo_ns (s s' : St) (p : Pr) (ws r : List Wd) (h : Ns s) (b : Bk) (t : List Bk) (hb : s.blocks = b :: t) (hk : b.kind = 4) (hw : b.waits = false) (hg : keyGo s p ws = .ok (s', r)) : Ns s' ∧ Takes s'.blocks := by
  have ha : ∀ x q, (x.kind = 6 ∨ x.kind = 7) → afterKey q (comes s x []) = .ok (s', r) → Ns s' ∧ Takes s'.blocks := by
    intro x q hx h1
    unfold comes at h1
    cases hd : dress s.held x with
    | error e => rw [hd] at h1; cases h1
    | ok y =>
      rw [hd] at h1
      have hy : y.kind = x.kind := by
        unfold dress at hd
        split at hd
        · split at hd
          · cases hd
          · cases hd; rfl
        · cases hd; rfl
      cases h1
      have e : St.wait ⟨still s.blocks, nop, s.out ++ [y]⟩ = ⟨b.wait :: t, nop, s.out ++ [y]⟩ := by unfold St.wait; rw [hb]; rfl
      rw [e]
      exact ⟨h.key hb (Nd.leaf y _ (by rw [hy]; exact hx)) hk hw, rfl⟩
  cases ws with
  | nil => cases hg
  | cons w t =>
    unfold keyGo at hg
    simp only at hg
    split at hg
    · exact ha _ _ (.inl rfl) hg
    · cases hl : leaf w p with
      | error e => rw [hl] at hg; cases hg
      | ok x => rw [hl] at hg; exact ha _ _ (leaf_kind w p x hl) hg
/-- a map as enter leaves it does not wait, if what went ahead is a block that waits, or such a map that does not -/
theorem keyed_ns (s s' : St) (ws r : List Wd) (h : Ns s) (hl : Takes s.blocks ∨ ∃ w t b u, ws = w :: t ∧ s.blocks = b :: u ∧ b.kind = 4 ∧ b.col = w.at_ ∧ b.waits = false) (hnw : ∀ w t b u, ws = w :: t → s.blocks = b :: u → b.kind = 4 → b.col = w.at_ → b.waits = false) (hg : keyed s ws = .ok (s', r)) : Ns s' ∧ Takes s'.blocks := by
  cases ws with
  | nil => cases hg
  | cons w t =>
    unfold keyed at hg
    simp only at hg
    cases he : enter s 4 5 w.at_ with
    | error e => rw [he] at hg; cases hg
    | ok s1 =>
      rw [he] at hg
      simp only at hg
      have hl' : Takes s.blocks ∨ Entered s 4 w.at_ := by
        rcases hl with hl | ⟨w', t', b, u, hw, hb, hk, hc, _⟩
        · exact .inl hl
        · cases hw
          refine .inr ?_
          unfold Entered; rw [hb]; exact ⟨hk, hc⟩
      obtain ⟨h1, h2, h3, h4⟩ := enter_ns s s1 4 _ (.inr rfl) h hl' he
      have h5 : ∃ b u, s1.blocks = b :: u ∧ b.kind = 4 ∧ b.waits = false := by
        by_cases hn : Entered s 4 w.at_
        · have e := h4 hn
          subst e
          unfold Entered at hn
          cases hb : s1.blocks with
          | nil => rw [hb] at hn; cases hn
          | cons b u => rw [hb] at hn; exact ⟨b, u, rfl, hn.1, hnw w t b u rfl hb hn.1 hn.2⟩
        · cases hb : s1.blocks with
          | nil => unfold Entered at h2; rw [hb] at h2; cases h2
          | cons b u =>
            unfold Entered at h2
            rw [hb] at h2
            exact ⟨b, u, rfl, h2.1, h3 hn b u hb⟩
      obtain ⟨b, u, hb, hk, hw⟩ := h5
      cases hc : cutP nop (w :: t) with
      | error e => rw [hc] at hg; cases hg
      | ok y =>
        obtain ⟨p, q⟩ := y
        rw [hc] at hg
        exact keyGo_ns s1 s' p q r h1 b u hb hk hw hg
theorem comes_ns (s s' : St) (x : Ev.E) (bh : List Ev.E) (h : Ns s) (ht : Takes s.blocks) (hn : Nd 1 (40 - (s.blocks.length - 1)) (x :: bh)) (hc : comes s x bh = .ok s') : Ns s' := by
  unfold comes at hc
  cases hd : dress s.held x with
  | error e => rw [hd] at hc; cases hc
  | ok y =>
    rw [hd] at hc
    have hy : y.kind = x.kind := by
      unfold dress at hd
      split at hd
      · split at hd
        · cases hd
        · cases hd; rfl
      · cases hd; rfl
    cases hc
    cases hb : s.blocks with
    | nil => rw [hb] at ht; cases ht
    | cons b t =>
      rw [hb] at ht hn
      have hn' : Nd 1 (40 - t.length) (y :: bh) := by
        have e : ks (y :: bh) = ks (x :: bh) := by rw [ks_cons, ks_cons, hy]
        exact ⟨by rw [e]; exact hn.go, by rw [e]; simpa using hn.deep, by rw [e]; exact hn.flat⟩
      exact h.node hb hn' (.inr ht)
theorem value_ns (s s' : St) (ws : List Wd) (tx : List UInt8) (h : Ns s) (ht : Takes s.blocks) (hv : value s ws tx = .ok s') : Ns s' := by
  unfold value at hv
  cases hc : cutP nop ws with
  | error e => rw [hc] at hv; cases hv
  | ok y =>
    obtain ⟨p, r⟩ := y
    rw [hc] at hv
    simp only at hv
    split at hv
    · unfold hold at hv
      split at hv
      · cases hv
      · cases hv; exact ⟨h.fit, h.deep, h.sum, h.few⟩
    · split at hv
      · exact comes_ns s s' _ [] h ht (Nd.leaf _ _ (.inl rfl)) hv
      · cases hf : flowOf ws (s.blocks.length - 1) with
        | error e => rw [hf] at hv; cases hv
        | ok es =>
          rw [hf] at hv
          cases es with
          | nil => cases hv
          | cons x xs => exact comes_ns s s' x xs h ht (flowOf_nd _ _ _ hf) hv
/-- a line's first word stands at its indent -/
def Led (x : Ln) : Prop := x.mark = 0 → ∃ w t, x.words = w :: t ∧ (w.at_ : Int) = x.indent
theorem isKey_dash (ws : List Wd) (h : isKeyGo ws = true) : bk ws 12 = false := by
  cases ws with
  | nil => rfl
  | cons w t =>
    unfold bk
    refine decide_eq_false fun hk => ?_
    unfold isKeyGo at h
    rw [hk] at h
    simp at h
theorem dashes_last (ws : List Wd) : ∀ s s' r, dashes s ws = .ok (s', r) → (s' = s ∧ r = ws) ∨ ∃ b u, s'.blocks = b :: u ∧ b.kind = 2 := by
  induction ws with
  | nil => intro s s' r h; cases h; exact .inl ⟨rfl, rfl⟩
  | cons w t ih =>
    intro s s' r h
    unfold dashes at h
    split at h
    · cases he : enter s 2 3 w.at_ with
      | error e => rw [he] at h; cases h
      | ok s1 =>
        rw [he] at h
        have h1 : ∃ b u, s1.blocks = b :: u ∧ b.kind = 2 := by
          unfold enter at he
          cases hb : s.blocks with
          | nil => rw [hb] at he; cases he
          | cons b u =>
            rw [hb] at he
            simp only at he
            split at he
            · rename_i hc; cases he; exact ⟨b, u, hb, hc.1⟩
            · split at he
              · cases he
              · cases he; exact ⟨_, _, rfl, rfl⟩
        obtain ⟨b, u, hb, hk⟩ := h1
        rcases ih _ _ _ h with ⟨e1, _⟩ | h2
        · refine .inr ⟨b.wait, u, ?_, hk⟩
          rw [e1]; unfold St.wait; rw [hb]; rfl
        · exact .inr h2
    · cases h; exact .inl ⟨rfl, rfl⟩
theorem wordsOf_ns (s s' : St) (x : Ln) (h : Ns s) (hx : Led x) (hm : x.mark = 0) (hl : Lead s x.words x.indent) (hw : wordsOf s x = .ok s') : Ns s' := by
  obtain ⟨w, t, hwt, hat⟩ := hx hm
  unfold wordsOf at hw
  cases hd : dashes s x.words with
  | error e => rw [hd] at hw; cases hw
  | ok y =>
    obtain ⟨s1, r⟩ := y
    have hlast := dashes_last _ _ _ _ hd
    rw [hd] at hw
    simp only at hw
    have fin : ∀ y, (∀ s2 q, y = .ok (s2, q) → Ns s2 ∧ Takes s2.blocks) → behind x.text y = .ok s' → Ns s' := by
      intro y hy hb
      cases y with
      | error e => cases hb
      | ok z =>
        obtain ⟨s2, q⟩ := z
        obtain ⟨g1, g2⟩ := hy s2 q rfl
        cases q with
        | nil => cases hb; exact g1
        | cons a u => exact value_ns _ _ _ _ g1 g2 hb
    unfold Lead at hl
    cases hb : s.blocks with
    | nil => rw [hb] at hl; cases hl
    | cons b u =>
      rw [hb] at hl
      have hnw : ∀ w' t' b' u', r = w' :: t' → s1.blocks = b' :: u' → b'.kind = 4 → b'.col = w'.at_ → b'.waits = false := by
        intro w' t' b' u' e1 e2 e3 e4
        rcases hlast with ⟨f1, f2⟩ | ⟨c, v, f1, f2⟩
        · subst f1 f2
          rw [hb] at e2
          cases e2
          rw [hwt] at e1
          cases e1
          rcases hl with ⟨_, g2⟩ | ⟨g1, _⟩
          · have := g2 e3; omega
          · exact g1
        · rw [e2] at f1; cases f1; omega
      rcases hl with ⟨hl, _⟩ | ⟨hl, hc, hg⟩
      · obtain ⟨h1, h2, h3⟩ := dashes_ns _ _ _ _ h (by rw [hb]; exact hl) hd
        refine fin _ ?_ hw
        intro s2 q he
        split at he
        · exact keyed_ns s1 s2 r q h1 (.inl h2) hnw he
        · cases he; exact ⟨h1, h2⟩
      · unfold goesOn at hg
        rw [hwt] at hg hd
        split at hg
        · rename_i hk2
          have hwk : w.kind = 12 := by unfold bk at hg; simpa using hg
          unfold dashes at hd
          rw [if_pos hwk] at hd
          have hen : Entered s 2 w.at_ := by unfold Entered; rw [hb]; exact ⟨hk2, by omega⟩
          cases he : enter s 2 3 w.at_ with
          | error e => rw [he] at hd; cases hd
          | ok s0 =>
            rw [he] at hd
            obtain ⟨g1, g2, _⟩ := enter_ns s s0 2 _ (.inl rfl) h (.inr hen) he
            obtain ⟨g3, g4⟩ := wait_list s0 g1 _ g2
            obtain ⟨h1, h2, h3⟩ := dashes_ns _ _ _ _ g3 g4 hd
            refine fin _ ?_ hw
            intro s2 q he2
            split at he2
            · exact keyed_ns s1 s2 r q h1 (.inl h2) hnw he2
            · cases he2; exact ⟨h1, h2⟩
        · split at hg
          · rename_i hk4
            have hnd := isKey_dash _ hg
            have hnk : ¬ w.kind = 12 := by unfold bk at hnd; simpa using hnd
            unfold dashes at hd
            rw [if_neg hnk] at hd
            cases hd
            rw [if_pos hg] at hw
            refine fin _ ?_ hw
            intro s2 q he
            exact keyed_ns s s2 (w :: t) q h (.inr ⟨w, t, b, u, rfl, hb, hk4, by omega, hl⟩) hnw he
          · cases hg
theorem lineIn_ns (s s' : St) (x : Ln) (h : Ns s) (hx : Led x) (hm : x.mark ≤ 2) (hw : lineIn s x = .ok s') : Ns s' := by
  unfold lineIn at hw
  have hdoc : ∀ s, Ns s → s.blocks = [] → Ns (beginDoc s) := by
    intro s h hb
    have := h.doc (h' := s.held) hb
    unfold beginDoc; rw [hb]; exact this
  split at hw
  · cases hw; exact hdoc _ (endDoc_ns s h) (endDoc_nil s)
  · split at hw
    · cases hw; exact endDoc_ns s h
    · have ho : Ns (opened s) := by
        unfold opened
        split
        · rename_i hb; exact hdoc s h (List.isEmpty_iff.1 hb)
        · exact h
      cases hp : place (opened s) x with
      | error e => rw [hp] at hw; cases hw
      | ok s1 =>
        rw [hp] at hw
        obtain ⟨h1, h2⟩ := place_ns _ _ _ ho hp
        exact wordsOf_ns s1 s' x h1 hx (by omega) h2 hw
theorem docsGo_ns (ls : List Ln) : ∀ s s', Ns s → (∀ x ∈ ls, Led x ∧ x.mark ≤ 2) → docsGo ls s = .ok s' → Ns s' ∧ s'.blocks = [] := by
  induction ls with
  | nil => intro s s' hs _ h; cases h; exact ⟨endDoc_ns s hs, endDoc_nil s⟩
  | cons x t ih =>
    intro s s' hs hl h
    unfold docsGo at h
    cases hx : lineIn s x with
    | error e => rw [hx] at h; cases h
    | ok s1 =>
      rw [hx] at h
      obtain ⟨g1, g2⟩ := hl x (List.mem_cons_self ..)
      exact ih s1 s' (lineIn_ns _ _ _ hs g1 g2 hx) (fun y hy => hl y (List.mem_cons_of_mem _ hy)) h
theorem events_ns (ls : List Ln) (es : List Ev.E) (hl : ∀ x ∈ ls, Led x ∧ x.mark ≤ 2) (h : events ls = .ok es) : Ev.nested (ks es) = true ∧ dmax (ks es) ≤ 40 := by
  unfold events at h
  cases hd : docsGo ls st0 with
  | error e => rw [hd] at h; cases h
  | ok s =>
    rw [hd] at h
    cases h
    obtain ⟨⟨⟨st, h1, h2⟩, h3, _, _⟩, hb⟩ := docsGo_ns ls st0 s ⟨⟨[], rfl, rfl⟩, by decide, rfl, by decide⟩ hl hd
    rw [hb] at h2
    have h2 : st = [] := h2
    subst h2
    exact ⟨(Ev.nested_iff _).2 h1, h3⟩
end Px
end Go.Proofs.YtjcfmghijfnehaaGreatDoor
