/-
  Small laws on worlds.
  Plain mathematics, no program's run in it: rows of events: how deep they stand, how they nest.
  Rows of events that a call reads, or owns; rows of words that it reads; what a call keeps, but for blocks of some types.
  Plain mathematics, no program in it: the events of words and of lines (parse).
  Rows of blocks that a call owns; 'append' of a part of a row of events; what reads lines lies in memory.
-/
import Derived.Test.YtjcfmghijfnehaaGreatDoorLt
import Derived.Test.YtjcfmghijfnehaaGreatDoorProg
import Derived.Deep.RegionHeld3
import Derived.Deep.AppendLies
import Derived.Laws.AppendOwnNone
import Derived.Test.YtjcfmghijfnehaaGreatDoorLs
namespace Go.Proofs.YtjcfmghijfnehaaGreatDoor
open Go.RowKit
theorem alloc_blk (w : World) (o : Obj) : (w.alloc o).heap[w.heap.size]? = some o := by
  show (w.heap.push o)[w.heap.size]? = _
  simp
/-- what was just laid lies there behind a call -/
theorem cell_after {w w1 : World} {c : Array Value} {t : TypeId} {fr : Nat × Nat} (hb : Below (w.alloc (.cells c t fr)).heap.size (w.alloc (.cells c t fr)) w1) (i : Nat) (v : Value) (h : c[i]? = some v) : w1.cell? ⟨w.heap.size, i, none⟩ = some v :=
  cell_blk (blk_below (alloc_blk w _) hb) i v h
theorem str_len (l : List UInt8) : (str l).size = l.length := str_size l
theorem str_dat (l : List UInt8) : (str l).data.toList = l := rfl
theorem str_nil : str [] = ⟨#[]⟩ := rfl
theorem str_toL (l : List UInt8) : (str l).toList = l := by rw [Lib.toList_data]; rfl
end Go.Proofs.YtjcfmghijfnehaaGreatDoor
namespace Go.Proofs.YtjcfmghijfnehaaGreatDoor
namespace Ev
/-- an event -/
structure E where
  kind : Int
  anchor : List UInt8
  tag : List UInt8
  text : List UInt8
  plain : Bool

def isNode (k : Int) : Bool := decide (k = 2) || decide (k = 4) || decide (k = 6) || decide (k = 7)
def dstep (k : Int) : Int := if k = 2 ∨ k = 4 then 1 else if k = 3 ∨ k = 5 then -1 else 0
/-- the greatest sum of a beginning -/
def dmax : List Int → Int
  | [] => 0
  | k :: t => max 0 (dstep k + dmax t)
def dsum : List Int → Int
  | [] => 0
  | k :: t => dstep k + dsum t
def depthGo : Int → Int → List Int → Int
  | _, m, [] => m
  | d, m, k :: t => depthGo (d + dstep k) (max m (d + dstep k)) t
theorem dmax_nonneg (l : List Int) : 0 ≤ dmax l := by cases l <;> simp only [dmax] <;> omega
theorem depthGo_eq (l : List Int) : ∀ d m, d ≤ m → depthGo d m l = max m (d + dmax l) := by
  induction l with
  | nil => intro d m h; simp only [depthGo, dmax]; omega
  | cons k t ih =>
    intro d m h
    simp only [depthGo, dmax]
    rw [ih _ _ (by omega)]
    have := dmax_nonneg t
    omega
theorem depthGo_zero (l : List Int) : depthGo 0 0 l = dmax l := by rw [depthGo_eq l 0 0 (by omega)]; have := dmax_nonneg l; omega
theorem dmax_le (l : List Int) : dmax l ≤ l.length := by
  induction l with
  | nil => simp [dmax]
  | cons k t ih =>
    simp only [dmax, List.length_cons]
    unfold dstep
    split
    · omega
    · split <;> omega
theorem dmax_app (a b : List Int) : dmax (a ++ b) = max (dmax a) (dsum a + dmax b) := by
  induction a with
  | nil => simp only [List.nil_append, dmax, dsum]; have := dmax_nonneg b; omega
  | cons k t ih => simp only [List.cons_append, dmax, dsum, ih]; omega
theorem dsum_app (a b : List Int) : dsum (a ++ b) = dsum a + dsum b := by
  induction a with
  | nil => simp [dsum]
  | cons k t ih => simp only [List.cons_append, dsum, ih]; omega
def nodesOf (l : List Int) : Nat := l.countP isNode
theorem nodes_app (a b : List Int) : nodesOf (a ++ b) = nodesOf a + nodesOf b := by unfold nodesOf; rw [List.countP_append]
theorem nodes_le (l : List Int) : nodesOf l ≤ l.length := List.countP_le_length

/-- may an event of kind k close a group that one of kind g opened, with n nodes in it? -/
def closes (g : Int) (n : Nat) (k : Int) : Bool := (decide (g = 0) && decide (k = 1) && decide (n = 1)) || (decide (g = 2) && decide (k = 3)) || (decide (g = 4) && decide (k = 5) && decide (n % 2 = 0))
def opens (k : Int) : Bool := decide (k = 0) || decide (k = 2) || decide (k = 4)
abbrev St := List (Int × Nat)
def push (k : Int) (st : St) : St := if opens k then (k, 0) :: st else st
/-- the groups that stand open behind an event (the last one ahead) -/
def step (st : St) (k : Int) : Option St :=
  match st with
  | [] => if k = 0 then some [(0, 0)] else none
  | (g, n) :: r => if k = 0 then none else if isNode k then some (push k ((g, n + 1) :: r)) else if closes g n k then some r else none
def run : St → List Int → Option St
  | st, [] => some st
  | st, k :: t => (step st k).bind fun st' => run st' t
def nested (l : List Int) : Bool := match run [] l with
  | some [] => true
  | _ => false
theorem nested_iff (l : List Int) : nested l = true ↔ run [] l = some [] := by
  unfold nested
  split
  · rename_i h; simp [h]
  · rename_i h
    constructor
    · intro h'; cases h'
    · intro h'; exact absurd h' h
theorem run_app (a b : List Int) : ∀ st, run st (a ++ b) = (run st a).bind fun st' => run st' b := by
  induction a with
  | nil => intro st; rfl
  | cons k t ih =>
    intro st
    simp only [List.cons_append, run]
    cases step st k with
    | none => rfl
    | some st' => simp only [Option.bind_some]; exact ih st'

/-- +1 for what begins so, -1 for what ends so -/
def wt (j k : Int) : Int := if k = j then 1 else if k = j + 1 then -1 else 0
def wsum (j : Int) : List Int → Int
  | [] => 0
  | k :: t => wt j k + wsum j t
def cnt (j : Int) : St → Int
  | [] => 0
  | (g, _) :: r => (if g = j then 1 else 0) + cnt j r
theorem wsum_app (j : Int) (a b : List Int) : wsum j (a ++ b) = wsum j a + wsum j b := by
  induction a with
  | nil => simp [wsum]
  | cons k t ih => simp only [List.cons_append, wsum, ih]; omega
theorem step_wt (j : Int) (hj : j = 0 ∨ j = 2 ∨ j = 4) (st st' : St) (k : Int) (h : step st k = some st') : cnt j st' = cnt j st + wt j k := by
  unfold step at h
  split at h
  · split at h
    · cases h; subst k; simp only [cnt, wt]; rcases hj with rfl | rfl | rfl <;> decide
    · cases h
  · rename_i g n r
    split at h
    · cases h
    · split at h
      · rename_i h0 h1
        cases h
        unfold push
        simp only [isNode, Bool.or_eq_true, decide_eq_true_eq] at h1
        rcases h1 with ((rfl | rfl) | rfl) | rfl <;> simp [opens, cnt, wt] <;> rcases hj with rfl | rfl | rfl <;> simp <;> omega
      · split at h
        · rename_i h0 h1 h2
          cases h
          simp only [closes, Bool.or_eq_true, Bool.and_eq_true, decide_eq_true_eq] at h2
          rcases h2 with (⟨⟨rfl, rfl⟩, _⟩ | ⟨rfl, rfl⟩) | ⟨⟨rfl, rfl⟩, _⟩ <;> simp only [cnt, wt] <;> rcases hj with rfl | rfl | rfl <;> simp <;> omega
        · cases h
theorem run_wt (j : Int) (hj : j = 0 ∨ j = 2 ∨ j = 4) (l : List Int) : ∀ st st', run st l = some st' → cnt j st' = cnt j st + wsum j l := by
  induction l with
  | nil => intro st st' h; cases h; simp [wsum]
  | cons k t ih =>
    intro st st' h
    simp only [run] at h
    cases hs : step st k with
    | none => rw [hs] at h; cases h
    | some s1 =>
      rw [hs] at h
      have h1 := step_wt j hj _ _ _ hs
      have h2 := ih _ _ h
      simp only [wsum]; omega
theorem step_kind (st st' : St) (k : Int) (h : step st k = some st') : 0 ≤ k ∧ k ≤ 7 := by
  unfold step at h
  split at h
  · split at h
    · omega
    · cases h
  · split at h
    · cases h
    · split at h
      · rename_i h0 h1
        simp only [isNode, Bool.or_eq_true, decide_eq_true_eq] at h1
        omega
      · split at h
        · rename_i h0 h1 h2
          simp only [closes, Bool.or_eq_true, Bool.and_eq_true, decide_eq_true_eq] at h2
          omega
        · cases h
theorem run_kinds (l : List Int) : ∀ st st', run st l = some st' → ∀ k ∈ l, 0 ≤ k ∧ k ≤ 7 := by
  induction l with
  | nil => intro _ _ _ k hk; cases hk
  | cons x t ih =>
    intro st st' h k hk
    simp only [run] at h
    cases hs : step st x with
    | none => rw [hs] at h; cases h
    | some s1 =>
      rw [hs] at h
      rcases List.mem_cons.1 hk with rfl | hk
      · exact step_kind _ _ _ hs
      · exact ih _ _ h k hk
theorem dstep_wt (k : Int) : dstep k = wt 2 k + wt 4 k := by
  unfold dstep wt
  split <;> rename_i h
  · rcases h with rfl | rfl <;> simp
  · split <;> rename_i h'
    · rcases h' with rfl | rfl <;> simp
    · rw [if_neg (by omega), if_neg (by omega), if_neg (by omega), if_neg (by omega)]; rfl
theorem dsum_wt (l : List Int) : dsum l = wsum 2 l + wsum 4 l := by
  induction l with
  | nil => rfl
  | cons k t ih => simp only [dsum, wsum, ih, dstep_wt]; omega
theorem nested_sums (l : List Int) (h : nested l = true) : dsum l = 0 ∧ wsum 0 l = 0 ∧ wsum 2 l = 0 ∧ wsum 4 l = 0 := by
  have h' := (nested_iff l).1 h
  have a := run_wt 0 (by simp) l _ _ h'
  have b := run_wt 2 (by simp) l _ _ h'
  have c := run_wt 4 (by simp) l _ _ h'
  simp only [cnt] at a b c
  rw [dsum_wt]
  omega
/-- of rows one behind the other -/
theorem nested_app (a b : List Int) (h : nested a = true) : nested (a ++ b) = nested b := by
  have h' := (nested_iff a).1 h
  rw [Bool.eq_iff_iff, nested_iff, nested_iff, run_app, h']
  rfl
theorem dmax_nested (a b : List Int) (h : nested a = true) : dmax (a ++ b) = max (dmax a) (dmax b) := by
  rw [dmax_app, (nested_sums a h).1]; simp
/-- a row without one of its beginnings, or ends -/
theorem nested_cut (a b : List Int) (k : Int) (h : nested (a ++ k :: b) = true) (hk : k < 6) : nested (a ++ b) = false := by
  rcases hb : nested (a ++ b) with _ | _
  · rfl
  · exfalso
    obtain ⟨_, h0, h2, h4⟩ := nested_sums _ h
    obtain ⟨_, g0, g2, g4⟩ := nested_sums _ hb
    have hr := run_kinds _ _ _ ((nested_iff _).1 h) k (by simp)
    rw [wsum_app] at *
    simp only [wsum] at h0 h2 h4
    have e0 : wt 0 k = 0 := by omega
    have e2 : wt 2 k = 0 := by omega
    have e4 : wt 4 k = 0 := by omega
    unfold wt at e0 e2 e4
    have : k = 0 ∨ k = 1 ∨ k = 2 ∨ k = 3 ∨ k = 4 ∨ k = 5 := by omega
    rcases this with rfl | rfl | rfl | rfl | rfl | rfl <;> simp at e0 e2 e4

theorem push_app (k : Int) (s r : St) : push k (s ++ r) = push k s ++ r := by unfold push; split <;> rfl
/-- a run that never closes its lowest group goes so over whatever group -/
theorem run_base (l : List Int) (h0 : (0 : Int) ∉ l) : ∀ (s : St) (n : Nat) (X : St), run (s ++ [(0, n)]) l = some X → X ≠ [] → ∃ s' d, X = s' ++ [(0, n + d)] ∧ ∀ g m r, run (s ++ (g, m) :: r) l = some (s' ++ (g, m + d) :: r) := by
  induction l with
  | nil =>
    intro s n X h _
    cases h
    exact ⟨s, 0, rfl, fun _ _ _ => rfl⟩
  | cons k t ih =>
    intro s n X h hX
    have hk : k ≠ 0 := fun e => h0 (by simp [e])
    have ht : (0 : Int) ∉ t := fun e => h0 (by simp [e])
    simp only [run] at h ⊢
    cases s with
    | nil =>
      simp only [List.nil_append, step, if_neg hk] at h ⊢
      cases hn : isNode k with
      | true =>
        simp only [hn, if_true, Option.bind_some] at h ⊢
        have e1 : push k [(0, n + 1)] = push k [] ++ [(0, n + 1)] := push_app k [] _
        rw [e1] at h
        obtain ⟨s', d, rfl, hr⟩ := ih ht _ _ _ h hX
        refine ⟨s', 1 + d, by rw [show n + 1 + d = n + (1 + d) by omega], fun g m r => ?_⟩
        have e2 : push k ((g, m + 1) :: r) = push k [] ++ (g, m + 1) :: r := push_app k [] _
        rw [e2, hr, show m + 1 + d = m + (1 + d) by omega]
      | false =>
        exfalso
        simp only [hn, Bool.false_eq_true, if_false] at h
        split at h
        · simp only [Option.bind_some] at h
          cases t with
          | nil => cases h; exact hX rfl
          | cons k2 t2 =>
            have hk2 : k2 ≠ 0 := fun e => ht (by simp [e])
            simp only [run, step, if_neg hk2, Option.bind_none] at h
            cases h
        · cases h
    | cons p s1 =>
      obtain ⟨g1, n1⟩ := p
      simp only [List.cons_append, step, if_neg hk] at h ⊢
      cases hn : isNode k with
      | true =>
        simp only [hn, if_true, Option.bind_some] at h ⊢
        have e1 : push k ((g1, n1 + 1) :: (s1 ++ [(0, n)])) = push k ((g1, n1 + 1) :: s1) ++ [(0, n)] := push_app k ((g1, n1 + 1) :: s1) _
        rw [e1] at h
        obtain ⟨s', d, rfl, hr⟩ := ih ht _ _ _ h hX
        refine ⟨s', d, rfl, fun g m r => ?_⟩
        have e2 : push k ((g1, n1 + 1) :: (s1 ++ (g, m) :: r)) = push k ((g1, n1 + 1) :: s1) ++ (g, m) :: r := push_app k ((g1, n1 + 1) :: s1) _
        rw [e2, hr]
      | false =>
        simp only [hn, Bool.false_eq_true, if_false] at h ⊢
        cases hc : closes g1 n1 k with
        | true =>
          simp only [hc, if_true, Option.bind_some] at h ⊢
          exact ih ht _ _ _ h hX
        | false =>
          simp only [hc, Bool.false_eq_true, if_false, Option.bind_none] at h
          cases h
/-- the one document of a row: its node -/
theorem one_doc (l : List Int) (h : nested l = true) (h1 : l.countP (fun k => decide (k = 0)) = 1) : ∃ nd, l = 0 :: nd ++ [1] ∧ (0 : Int) ∉ nd ∧ ∀ g m r, run ((g, m) :: r) nd = some ((g, m + 1) :: r) := by
  have h' := (nested_iff l).1 h
  cases l with
  | nil => simp at h1
  | cons k t =>
    simp only [run] at h'
    have hk : k = 0 := by
      rcases Classical.em (k = 0) with e | e
      · exact e
      · exfalso; simp only [step, if_neg e, Option.bind_none] at h'; cases h'
    subst hk
    simp only [step, if_true, Option.bind_some] at h'
    have h0 : (0 : Int) ∉ t := by
      rw [List.countP_cons] at h1
      simp only [decide_true, if_true] at h1
      have : t.countP (fun k => decide (k = 0)) = 0 := by omega
      rw [List.countP_eq_zero] at this
      intro e
      have := this 0 e
      simp at this
    rcases List.eq_nil_or_concat t with rfl | ⟨nd, x, rfl⟩
    · cases h'
    · rw [List.concat_eq_append] at *
      rw [run_app] at h'
      have h0' : (0 : Int) ∉ nd := fun e => h0 (by simp [e])
      cases hr : run [(0, 0)] nd with
      | none => rw [hr] at h'; cases h'
      | some X =>
        rw [hr] at h'
        simp only [Option.bind_some, run] at h'
        have hxx : x ≠ 0 := fun e => h0 (by simp [e])
        have hX : X ≠ [] := by
          rintro rfl
          simp only [step, if_neg hxx, Option.bind_none] at h'
          cases h'
        obtain ⟨s', d, rfl, hg⟩ := run_base nd h0' [] 0 X hr hX
        cases hs : step (s' ++ [(0, 0 + d)]) x with
        | none => rw [hs] at h'; cases h'
        | some Y =>
          rw [hs] at h'
          simp only [Option.bind_some] at h'
          obtain rfl : Y = [] := by cases h'; rfl
          have hs0 : s' = [] := by
            have hc := step_wt 0 (by simp) _ _ _ hs
            cases s' with
            | nil => rfl
            | cons p s2 =>
              exfalso
              obtain ⟨g1, n1⟩ := p
              simp only [List.cons_append, step, if_neg hxx] at hs
              split at hs
              · unfold push at hs; split at hs <;> simp at hs
              · split at hs <;> simp at hs
          subst hs0
          simp only [List.nil_append] at hs hg
          simp only [step, if_neg hxx] at hs
          split at hs
          · unfold push at hs; split at hs <;> simp at hs
          · split at hs
            · rename_i _ hc
              simp only [closes, Bool.or_eq_true, Bool.and_eq_true, decide_eq_true_eq] at hc
              have hx1 : x = 1 ∧ d = 1 := by omega
              obtain ⟨rfl, rfl⟩ := hx1
              exact ⟨nd, rfl, h0', hg⟩
            · cases hs
def reps (n : Nat) (nd : List Int) : List Int := (List.replicate n nd).flatten
theorem reps_succ (n : Nat) (nd : List Int) : reps (n + 1) nd = nd ++ reps n nd := by simp [reps, List.replicate_succ]
theorem run_reps (nd : List Int) (hg : ∀ g m r, run ((g, m) :: r) nd = some ((g, m + 1) :: r)) (n : Nat) : ∀ g m r, run ((g, m) :: r) (reps n nd) = some ((g, m + n) :: r) := by
  induction n with
  | zero => intro g m r; rfl
  | succ n ih =>
    intro g m r
    rw [reps_succ, run_app, hg, Option.bind_some, ih, show m + 1 + n = m + (n + 1) by omega]
/-- a node so often in a list, or a map -/
theorem wrap_nested (nd : List Int) (hg : ∀ g m r, run ((g, m) :: r) nd = some ((g, m + 1) :: r)) (n : Nat) (k : Int) (hk : k = 2 ∨ k = 4) : nested ([0, k] ++ reps n nd ++ [k + 1, 1]) = (decide (k = 2) || decide (n % 2 = 0)) := by
  unfold nested
  have e : run [] ([0, k] ++ reps n nd ++ [k + 1, 1]) = run [(k, n), (0, 1)] [k + 1, 1] := by
    rw [run_app, run_app]
    have e1 : run [] [0, k] = some [(k, 0), (0, 1)] := by rcases hk with rfl | rfl <;> rfl
    rw [e1, Option.bind_some, run_reps nd hg]
    simp
  rw [e]
  rcases hk with rfl | rfl
  · rfl
  · rcases Nat.mod_two_eq_zero_or_one n with h | h
    · simp [run, step, isNode, closes, h]
    · simp [run, step, isNode, closes, h]
theorem dsum_reps (nd : List Int) (h : dsum nd = 0) (n : Nat) : dsum (reps n nd) = 0 := by
  induction n with
  | zero => rfl
  | succ n ih => rw [reps_succ, dsum_app, h, ih]; rfl
theorem dmax_reps (nd : List Int) (h : dsum nd = 0) (n : Nat) (hn : 0 < n) : dmax (reps n nd) = dmax nd := by
  induction n with
  | zero => omega
  | succ n ih =>
    rw [reps_succ, dmax_app, h]
    have := dmax_nonneg nd
    rcases Nat.eq_zero_or_pos n with rfl | hp
    · simp only [reps, List.replicate_zero, List.flatten_nil, dmax]; omega
    · rw [ih hp]; omega
theorem dmax_wrap (nd : List Int) (h : dsum nd = 0) (n : Nat) (hn : 0 < n) (k : Int) (hk : k = 2 ∨ k = 4) : dmax ([0, k] ++ reps n nd ++ [k + 1, 1]) = 1 + dmax nd := by
  rw [dmax_app, dmax_app, dsum_app, dmax_reps nd h n hn, dsum_reps nd h n]
  have := dmax_nonneg nd
  rcases hk with rfl | rfl <;> simp only [dmax, dsum, dstep] <;> simp <;> omega
theorem dmax_doc (nd : List Int) (h : dsum nd = 0) : dmax (0 :: nd ++ [1]) = dmax nd := by
  rw [List.cons_append]
  simp only [dmax]
  rw [dmax_app, h]
  have := dmax_nonneg nd
  simp only [dmax, dstep]; simp; omega
theorem dsum_doc (nd : List Int) (h : nested (0 :: nd ++ [1]) = true) : dsum nd = 0 := by
  have := (nested_sums _ h).1
  rw [List.cons_append] at this
  simp only [dsum, dsum_app, dstep] at this
  simp at this
  exact this
end Ev
end Go.Proofs.YtjcfmghijfnehaaGreatDoor
namespace Go.Proofs.YtjcfmghijfnehaaGreatDoor
open Go.RowKit

/-- the cells of an event -/
def evCells (x : Ev.E) : List Value := [.int .i64 x.kind, .string (str x.anchor), .string (str x.tag), .string (str x.text), .bool x.plain]
/-- an event lies at a place -/
structure EvAt (w : World) (g o : Nat) (x : Ev.E) : Prop where
  kind : w.cell? ⟨g, o, none⟩ = some (.int .i64 x.kind)
  anchor : w.cell? ⟨g, o + 1, none⟩ = some (.string (str x.anchor))
  tag : w.cell? ⟨g, o + 2, none⟩ = some (.string (str x.tag))
  text : w.cell? ⟨g, o + 3, none⟩ = some (.string (str x.text))
  plain : w.cell? ⟨g, o + 4, none⟩ = some (.bool x.plain)
theorem EvAt.below {w w' : World} {B g o : Nat} {x : Ev.E} (h : EvAt w g o x) (hb : Below B w w') (hg : g < B) : EvAt w' g o x where
  kind := (hb.cell (p := ⟨g, o, none⟩) hg).trans h.kind
  anchor := (hb.cell (p := ⟨g, o + 1, none⟩) hg).trans h.anchor
  tag := (hb.cell (p := ⟨g, o + 2, none⟩) hg).trans h.tag
  text := (hb.cell (p := ⟨g, o + 3, none⟩) hg).trans h.text
  plain := (hb.cell (p := ⟨g, o + 4, none⟩) hg).trans h.plain
/-- a slice that reads as a row of events (of the program's, or of the document's) -/
def RdE (w : World) (B : Nat) (v : Value) (es : List Ev.E) : Prop :=
  ∃ a c, v = .slice a es.length c ∧ es.length ≤ c ∧ (0 < es.length → ∃ g o, a = some ⟨g, o, none⟩ ∧ g < B ∧ ∀ j (hj : j < es.length), EvAt w g (o + j * 5) es[j])
theorem RdE.below {w w' : World} {B : Nat} {v : Value} {es : List Ev.E} (h : RdE w B v es) (hb : Below B w w') : RdE w' B v es := by
  obtain ⟨a, c, hv, hc, h1⟩ := h
  refine ⟨a, c, hv, hc, fun h0 => ?_⟩
  obtain ⟨g, o, ha, hg, hcl⟩ := h1 h0
  exact ⟨g, o, ha, hg, fun j hj => (hcl j hj).below hb hg⟩
theorem RdE.mono {w : World} {B C : Nat} {v : Value} {es : List Ev.E} (h : RdE w B v es) (hb : B ≤ C) : RdE w C v es := by
  obtain ⟨a, c, hv, hc, h1⟩ := h
  refine ⟨a, c, hv, hc, fun h0 => ?_⟩
  obtain ⟨g, o, ha, hg, hcl⟩ := h1 h0
  exact ⟨g, o, ha, Nat.lt_of_lt_of_le hg hb, hcl⟩
def Ev.kinds (es : List Ev.E) : List Int := es.map (·.kind)
theorem Ev.kinds_len (es : List Ev.E) : (Ev.kinds es).length = es.length := List.length_map _
theorem Ev.kinds_drop (es : List Ev.E) (j : Nat) (h : j < es.length) : (Ev.kinds es).drop j = es[j].kind :: (Ev.kinds es).drop (j + 1) := by
  unfold Ev.kinds
  rw [List.drop_eq_getElem_cons (by simpa using h), List.getElem_map]

def evsCells (es : List Ev.E) : List Value := es.flatMap evCells
theorem evsCells_snoc (es : List Ev.E) (x : Ev.E) : evsCells (es ++ [x]) = evsCells es ++ evCells x := by
  unfold evsCells; rw [List.flatMap_append]; simp
theorem evsCells_at (es : List Ev.E) : ∀ (j : Nat) (h : j < es.length) (i : Nat), i < 5 → (evsCells es)[j * 5 + i]? = (evCells es[j])[i]? := by
  induction es with
  | nil => intro j h; simp at h
  | cons x t ih =>
    intro j h i hi
    have hx : (evCells x).length = 5 := rfl
    have e : evsCells (x :: t) = evCells x ++ evsCells t := rfl
    rw [e]
    cases j with
    | zero => rw [List.getElem?_append_left (by omega)]; simp
    | succ j =>
      rw [List.getElem?_append_right (by omega), hx, show (j + 1) * 5 + i - 5 = j * 5 + i by omega, ih j (by simpa using h) i hi]
      simp
/-- events that the call owns -/
def OwnE (w : World) (B : Nat) (v : Value) (es : List Ev.E) : Prop := w.ownsRow B 47 5 v es.length (evsCells es)
theorem OwnE.below {w w' : World} {B : Nat} {v : Value} {es : List Ev.E} (h : OwnE w B v es) (hb : Below w.heap.size w w') : OwnE w' B v es := row_below h hb
/-- a row that a call owns is read as events, whatever its type's number -/
theorem rowE_rd {w : World} {B t : Nat} {v : Value} {es : List Ev.E} (h : w.ownsRow B t 5 v es.length (evsCells es)) : RdE w w.heap.size v es := by
  have h' := h
  rcases h.2 with ⟨rfl, h0⟩ | ⟨g, cap, cur, rfl, hB, hh, hnc, hr⟩
  · have : es = [] := List.eq_nil_of_length_eq_zero h0
    subst this
    exact ⟨none, 0, rfl, Nat.le_refl _, fun h => absurd h (by simp)⟩
  · refine ⟨_, cap, rfl, hnc, fun _ => ⟨g, 0, rfl, (Array.getElem?_eq_some_iff.1 hh).1, fun j hj => ?_⟩⟩
    have hc := World.ownsRow.cells h' (g := g) rfl
    have hadd : ∀ k, (⟨g, 0, none⟩ : Addr).add k = ⟨g, k, none⟩ := fun k => by unfold Addr.add; split <;> simp_all
    have at_ : ∀ (i : Nat) (u : Value), i < 5 → (evCells es[j])[i]? = some u → w.cell? ⟨g, 0 + j * 5 + i, none⟩ = some u := fun i u hi hu => by
      rw [Nat.zero_add, ← hadd]
      exact hc _ _ ((evsCells_at es j hj i hi).trans hu)
    exact ⟨at_ 0 _ (by decide) rfl, at_ 1 _ (by decide) rfl, at_ 2 _ (by decide) rfl, at_ 3 _ (by decide) rfl, at_ 4 _ (by decide) rfl⟩
theorem infoE : (Tryz.prog.info? 47).map (fun i => (i.zero, i.size, i.bytes)) = some (some (.agg #[.int .i64 0, .string ⟨#[]⟩, .string ⟨#[]⟩, .string ⟨#[]⟩, .bool false]), 5, 64) := by kernel_rfl

theorem evsCells_len (es : List Ev.E) : (evsCells es).length = es.length * 5 := by
  induction es with
  | nil => rfl
  | cons x t ih =>
    have e : evsCells (x :: t) = evCells x ++ evsCells t := rfl
    rw [e, List.length_append, ih]; simp [evCells]; omega
theorem evsCells_app (a b : List Ev.E) : evsCells (a ++ b) = evsCells a ++ evsCells b := by unfold evsCells; rw [List.flatMap_append]
theorem evsCells_one (es : List Ev.E) : ∀ u ∈ evsCells es, u.oneCell' = true := by
  intro u hu
  unfold evsCells at hu
  rw [List.mem_flatMap] at hu
  obtain ⟨p, _, hu⟩ := hu
  unfold evCells at hu
  simp only [List.mem_cons, List.not_mem_nil, or_false] at hu
  rcases hu with rfl | rfl | rfl | rfl | rfl <;> rfl
/-- append(x, y...), as an equation of its run -/
theorem run_appE (w : World) (ty : TypeId) (B B' : Nat) (v u : Value) (xs ys : List Ev.E) (hv : OwnE w B v xs) (hu : OwnE w B' u ys) (hl : xs.length + ys.length ≤ 2199023255489) (hB : B ≤ w.heap.size) :
    ∃ v' w', (Builtin.append_ #[23, 23] ty #[v, u]).run Tryz.prog w = .ok v' w' ∧ OwnE w' B v' (xs ++ ys) ∧ Below B w w' ∧ ∀ k, k < w.heap.size → v.ownBlock ≠ some k → w'.heap[k]? = w.heap[k]? := by
  obtain ⟨i0, hi, hz0, hz1, hz2⟩ := info_parts infoE
  have hu' := hu
  rcases hu.2 with ⟨e, h0⟩ | ⟨g, c, cur, e, _, _⟩
  · subst e
    have : ys = [] := List.length_eq_zero_iff.1 h0
    subst this
    refine ⟨v, w, run_append_owned_none (P := Tryz.prog) (w := w) B 23 ty 47 i0 5 Tryz.underlying23 hi v xs.length (evsCells xs) hv, ?_, Below.refl B w, fun _ _ _ => rfl⟩
    rw [List.append_nil]; exact hv
  subst e
  obtain ⟨v', w', hr, h2, h3, _, _⟩ := run_append_own_at (P := Tryz.prog) w B 23 ty 47 i0 _ 5 64 Tryz.underlying23 hi hz0 hz1 hz2 rfl (by decide) v xs.length (evsCells xs) hv ⟨g, 0, none⟩ ys.length c (evsCells ys) (evsCells_len ys) (World.ownsRow.cells hu' (g := g) rfl) (evsCells_one ys) (by simp only [maxLen]; omega) (by omega) hB
  refine ⟨v', w', hr, ?_, (Below.refl B w).grown h3 hB (fun k hk => (World.ownsRow.lt hv k hk).1), fun k hk hne => h3.block k hk hne.symm⟩
  unfold OwnE
  rw [List.length_append, evsCells_app]; exact h2

theorem other_set {w : World} {b : Nat} {o : Obj} (h : w.heap[b]? = some o) (p : Addr) (v : Value) (hne : b ≠ p.block) : (w.setCell p v).heap[b]? = some o := (Below.heap_setCell w p v b hne).trans h
/-- the block of a struct: its cells, which are not frozen -/
theorem five {w : World} {b : Nat} {a0 a1 a2 a3 a4 : Value} {t : TypeId} (h : w.heap[b]? = some (.cells #[a0, a1, a2, a3, a4] t)) :
    (w.cell? ⟨b, 0, none⟩ = some a0 ∧ w.cell? ⟨b, 1, none⟩ = some a1 ∧ w.cell? ⟨b, 2, none⟩ = some a2 ∧ w.cell? ⟨b, 3, none⟩ = some a3 ∧ w.cell? ⟨b, 4, none⟩ = some a4) ∧ (w.frozen? ⟨b, 0, none⟩ = false ∧ w.frozen? ⟨b, 1, none⟩ = false ∧ w.frozen? ⟨b, 2, none⟩ = false ∧ w.frozen? ⟨b, 3, none⟩ = false ∧ w.frozen? ⟨b, 4, none⟩ = false) :=
  ⟨⟨cell_blk h 0 _ rfl, cell_blk h 1 _ rfl, cell_blk h 2 _ rfl, cell_blk h 3 _ rfl, cell_blk h 4 _ rfl⟩, frozen_blk h 0, frozen_blk h 1, frozen_blk h 2, frozen_blk h 3, frozen_blk h 4⟩

theorem two {w : World} {b : Nat} {a0 a1 : Value} {t : TypeId} (h : w.heap[b]? = some (.cells #[a0, a1] t)) :
    (w.cell? ⟨b, 0, none⟩ = some a0 ∧ w.cell? ⟨b, 1, none⟩ = some a1) ∧ (w.frozen? ⟨b, 0, none⟩ = false ∧ w.frozen? ⟨b, 1, none⟩ = false) :=
  ⟨⟨cell_blk h 0 _ rfl, cell_blk h 1 _ rfl⟩, frozen_blk h 0, frozen_blk h 1⟩
theorem three {w : World} {b : Nat} {a0 a1 a2 : Value} {t : TypeId} (h : w.heap[b]? = some (.cells #[a0, a1, a2] t)) :
    (w.cell? ⟨b, 0, none⟩ = some a0 ∧ w.cell? ⟨b, 1, none⟩ = some a1 ∧ w.cell? ⟨b, 2, none⟩ = some a2) ∧ (w.frozen? ⟨b, 0, none⟩ = false ∧ w.frozen? ⟨b, 1, none⟩ = false ∧ w.frozen? ⟨b, 2, none⟩ = false) :=
  ⟨⟨cell_blk h 0 _ rfl, cell_blk h 1 _ rfl, cell_blk h 2 _ rfl⟩, frozen_blk h 0, frozen_blk h 1, frozen_blk h 2⟩
theorem four {w : World} {b : Nat} {a0 a1 a2 a3 : Value} {t : TypeId} (h : w.heap[b]? = some (.cells #[a0, a1, a2, a3] t)) :
    (w.cell? ⟨b, 0, none⟩ = some a0 ∧ w.cell? ⟨b, 1, none⟩ = some a1 ∧ w.cell? ⟨b, 2, none⟩ = some a2 ∧ w.cell? ⟨b, 3, none⟩ = some a3) ∧ (w.frozen? ⟨b, 0, none⟩ = false ∧ w.frozen? ⟨b, 1, none⟩ = false ∧ w.frozen? ⟨b, 2, none⟩ = false ∧ w.frozen? ⟨b, 3, none⟩ = false) :=
  ⟨⟨cell_blk h 0 _ rfl, cell_blk h 1 _ rfl, cell_blk h 2 _ rfl, cell_blk h 3 _ rfl⟩, frozen_blk h 0, frozen_blk h 1, frozen_blk h 2, frozen_blk h 3⟩
theorem new_blk (w : World) (o p : Obj) (k : Nat) (h : w.heap[k]? = some o) : (w.alloc p).heap[k]? = some o := by
  show (w.heap.push p)[k]? = _
  rw [Array.getElem?_push, if_neg (by have := (Array.getElem?_eq_some_iff.1 h).1; omega)]; exact h
theorem new_at (w : World) (o : Obj) (k : Nat) (h : k = w.heap.size) : (w.alloc o).heap[k]? = some o := by subst h; exact alloc_blk w o
theorem bset2 {B g : Nat} {w w1 : World} {a b : Value} (h : Below B w w1) (hg : B ≤ g) : Below B w ((w1.setCell ⟨g, 0, none⟩ a).setCell ⟨g, 1, none⟩ b) := Below.setCell (p := ⟨g, 1, none⟩) (Below.setCell (p := ⟨g, 0, none⟩) h hg a) hg b
theorem bset5 {B g : Nat} {w w1 : World} {a b c d e : Value} (h : Below B w w1) (hg : B ≤ g) : Below B w (((((w1.setCell ⟨g, 0, none⟩ a).setCell ⟨g, 1, none⟩ b).setCell ⟨g, 2, none⟩ c).setCell ⟨g, 3, none⟩ d).setCell ⟨g, 4, none⟩ e) :=
  Below.setCell (p := ⟨g, 4, none⟩) (Below.setCell (p := ⟨g, 3, none⟩) (Below.setCell (p := ⟨g, 2, none⟩) (bset2 h hg) hg c) hg d) hg e
theorem bdrew {B : Nat} {a b : World} (h : Below B a b) : Below B a b.drew := ⟨h.os, h.tape, h.output, h.size, h.block⟩
/-- all that stood stays, but for blocks of these types, and what is older than B -/
structure Keep (ts : List TypeId) (B : Nat) (w w' : World) : Prop where
  below : Below B w w'
  rest : ∀ (k : Nat) (o : Obj), w.heap[k]? = some o → (∀ c t fr, o = .cells c t fr → t ∉ ts) → w'.heap[k]? = some o
theorem Keep.refl (ts : List TypeId) (B : Nat) (w : World) : Keep ts B w w := ⟨Below.refl _ _, fun _ _ h _ => h⟩
theorem Keep.trans {ts : List TypeId} {B : Nat} {a b c : World} (h : Keep ts B a b) (k : Keep ts B b c) : Keep ts B a c := ⟨h.below.trans k.below, fun i o hi ht => k.rest i o (h.rest i o hi ht) ht⟩
theorem Keep.size {ts : List TypeId} {B : Nat} {w w' : World} (h : Keep ts B w w') : w.heap.size ≤ w'.heap.size := h.below.size
theorem keep_of {ts : List TypeId} {B : Nat} {w w' : World} (h : Below w.heap.size w w') (hB : B ≤ w.heap.size) : Keep ts B w w' := ⟨h.mono hB, fun _ _ hk _ => blk_below hk h⟩
theorem Keep.blk {ts : List TypeId} {B : Nat} {w w' : World} (h : Keep ts B w w') {k : Nat} {c : Array Value} {t : TypeId} {fr : Nat × Nat} (hk : w.heap[k]? = some (.cells c t fr)) (ht : t ∉ ts) : w'.heap[k]? = some (.cells c t fr) :=
  h.rest k _ hk fun _ _ _ e => by cases e; exact ht
theorem Keep.row {ts : List TypeId} {B : Nat} {w w' : World} (h : Keep ts B w w') {b e z n : Nat} {v : Value} {xs : List Value} (hr : w.ownsRow b e z v n xs) (ht : e ∉ ts) : w'.ownsRow b e z v n xs := by
  obtain ⟨h1, h2⟩ := hr
  refine ⟨h1, ?_⟩
  rcases h2 with h2 | ⟨g, cap, cur, hv, hB, hh, hr⟩
  · exact .inl h2
  · exact .inr ⟨g, cap, cur, hv, hB, h.blk hh ht, hr⟩
theorem keep_set {ts : List TypeId} {B : Nat} {w : World} {b i : Nat} {v : Value} {c : Array Value} {t : TypeId} {fr : Nat × Nat} (hb : w.heap[b]? = some (.cells c t fr)) (ht : t ∈ ts) (hB : B ≤ b) : Keep ts B w (w.setCell ⟨b, i, none⟩ v) := by
  refine ⟨(Below.refl B w).setCell hB v, fun k o hk hn => ?_⟩
  unfold World.setCell
  simp only
  rw [Array.getElem?_modify]
  by_cases he : b = k
  · subst he
    rw [hb] at hk
    cases hk
    exact absurd ht (hn _ _ _ rfl)
  · rw [if_neg he]; exact hk
theorem keep_row {ts : List TypeId} {B b e z n : Nat} {w w' : World} {v : Value} {xs : List Value} (hr : w.ownsRow b e z v n xs) (ht : e ∈ ts) (hb : Below B w w') (h : ∀ k, k < w.heap.size → v.ownBlock ≠ some k → w'.heap[k]? = w.heap[k]?) : Keep ts B w w' := by
  refine ⟨hb, fun k o hk hn => ?_⟩
  rw [h k (Array.getElem?_eq_some_iff.1 hk).1 ?_]
  · exact hk
  · intro he
    rcases hr.2 with ⟨rfl, _⟩ | ⟨g, cap, cur, rfl, _, hh, _⟩
    · cases he
    · have e1 : g = k := by simpa [Value.ownBlock] using he
      subst e1
      rw [hh] at hk
      cases hk
      exact hn _ _ _ rfl ht

theorem Keep.set {ts : List TypeId} {B : Nat} {w w' : World} (h : Keep ts B w w') {b i : Nat} {v : Value} {c : Array Value} {t : TypeId} {fr : Nat × Nat} (hb : w'.heap[b]? = some (.cells c t fr)) (ht : t ∈ ts) (hB : B ≤ b) : Keep ts B w (w'.setCell ⟨b, i, none⟩ v) := h.trans (keep_set hb ht hB)
theorem Keep.fresh {ts : List TypeId} {B : Nat} {w w' : World} (h : Keep ts B w w') {b i : Nat} {v : Value} (hb : w.heap.size ≤ b) (hB : B ≤ w.heap.size) : Keep ts B w (w'.setCell ⟨b, i, none⟩ v) :=
  ⟨h.below.setCell (p := ⟨b, i, none⟩) (Nat.le_trans hB hb) v, fun k o hk hn => other_set (h.rest k o hk hn) ⟨b, i, none⟩ v (fun e => by have := (Array.getElem?_eq_some_iff.1 hk).1; simp only at e; omega)⟩
theorem Keep.alloc {ts : List TypeId} {B : Nat} {w w' : World} (h : Keep ts B w w') (hB : B ≤ w.heap.size) (o : Obj) : Keep ts B w (w'.alloc o) := h.trans (keep_of (bnew w' o) (Nat.le_trans hB h.size))
theorem Keep.call {ts : List TypeId} {B : Nat} {w w1 w2 : World} (h : Keep ts B w w1) (hb : Below w1.heap.size w1 w2) (hB : B ≤ w.heap.size) : Keep ts B w w2 := h.trans (keep_of hb (Nat.le_trans hB h.size))
theorem Keep.drew {ts : List TypeId} {B : Nat} {w w' : World} (h : Keep ts B w w') : Keep ts B w w'.drew := ⟨bdrew h.below, h.rest⟩
/-- a word lies at a place -/
structure WdAt (w : World) (g o : Nat) (x : Lx.Wd) : Prop where
  kind : w.cell? ⟨g, o, none⟩ = some (.int .i64 x.kind)
  text : w.cell? ⟨g, o + 1, none⟩ = some (.string (str x.text))
  pos : w.cell? ⟨g, o + 2, none⟩ = some (.int .i64 x.at_)
theorem WdAt.below {w w' : World} {B g o : Nat} {x : Lx.Wd} (h : WdAt w g o x) (hb : Below B w w') (hg : g < B) : WdAt w' g o x where
  kind := (hb.cell (p := ⟨g, o, none⟩) hg).trans h.kind
  text := (hb.cell (p := ⟨g, o + 1, none⟩) hg).trans h.text
  pos := (hb.cell (p := ⟨g, o + 2, none⟩) hg).trans h.pos
/-- a slice that reads as a row of words -/
def RdW (w : World) (B : Nat) (v : Value) (ws : List Lx.Wd) : Prop :=
  ∃ a c, v = .slice a ws.length c ∧ ws.length ≤ c ∧ (0 < ws.length → ∃ g o, a = some ⟨g, o, none⟩ ∧ g < B ∧ ∀ j (hj : j < ws.length), WdAt w g (o + j * 3) ws[j])
theorem RdW.below {w w' : World} {B : Nat} {v : Value} {ws : List Lx.Wd} (h : RdW w B v ws) (hb : Below B w w') : RdW w' B v ws := by
  obtain ⟨a, c, hv, hc, h1⟩ := h
  refine ⟨a, c, hv, hc, fun h0 => ?_⟩
  obtain ⟨g, o, ha, hg, hcl⟩ := h1 h0
  exact ⟨g, o, ha, hg, fun j hj => (hcl j hj).below hb hg⟩
theorem RdW.mono {w : World} {B C : Nat} {v : Value} {ws : List Lx.Wd} (h : RdW w B v ws) (hb : B ≤ C) : RdW w C v ws := by
  obtain ⟨a, c, hv, hc, h1⟩ := h
  refine ⟨a, c, hv, hc, fun h0 => ?_⟩
  obtain ⟨g, o, ha, hg, hcl⟩ := h1 h0
  exact ⟨g, o, ha, Nat.lt_of_lt_of_le hg hb, hcl⟩
theorem RdW.nil (w : World) (B : Nat) : RdW w B (.slice none 0 0) [] := ⟨none, 0, rfl, Nat.le_refl _, fun h => absurd h (by simp)⟩
theorem RdW.nil_any (w : World) (B : Nat) (a : Option Addr) : RdW w B (.slice a 0 0) [] := ⟨a, 0, rfl, Nat.le_refl _, fun h => absurd h (by simp)⟩
/-- without its first word -/
theorem RdW.tail {w : World} {B g o c : Nat} {x : Lx.Wd} {t : List Lx.Wd} (h : RdW w B (.slice (some ⟨g, o, none⟩) (t.length + 1) c) (x :: t)) : RdW w B (.slice (some (if c = 1 then ⟨g, o, none⟩ else ⟨g, o + 3, none⟩)) t.length (c - 1)) t := by
  obtain ⟨a, c', hv, hc, h1⟩ := h
  cases hv
  simp only [List.length_cons] at hc
  refine ⟨_, _, rfl, by omega, fun h0 => ?_⟩
  obtain ⟨g', o', ha, hg, hcl⟩ := h1 (by simp)
  cases ha
  rw [if_neg (by omega)]
  refine ⟨g, o + 3, rfl, hg, fun j hj => ?_⟩
  have := hcl (j + 1) (by simp; omega)
  have e : o + (j + 1) * 3 = o + 3 + j * 3 := by omega
  rw [e] at this
  exact this
theorem RdW.cons {w : World} {B : Nat} {v : Value} {x : Lx.Wd} {t : List Lx.Wd} (h : RdW w B v (x :: t)) : ∃ g o c, v = .slice (some ⟨g, o, none⟩) (t.length + 1) c ∧ t.length + 1 ≤ c ∧ g < B ∧ WdAt w g o x := by
  obtain ⟨a, c, rfl, hc, h1⟩ := h
  obtain ⟨g, o, rfl, hg, hcl⟩ := h1 (by simp)
  refine ⟨g, o, c, rfl, hc, hg, ?_⟩
  have := hcl 0 (by simp)
  simpa using this
theorem RdW.nil_form {w : World} {B : Nat} {v : Value} (h : RdW w B v []) : ∃ a c, v = .slice a 0 c := by
  obtain ⟨a, c, rfl, _⟩ := h
  exact ⟨a, c, rfl⟩

theorem own_not {w : World} {B e z n : Nat} {v : Value} {xs : List Value} (h : w.ownsRow B e z v n xs) {k : Nat} (hk : w.heap.size ≤ k) : v.ownBlock ≠ some k := fun e => by have := (World.ownsRow.lt h k e).2; omega
theorem Keep.wide {ts us : List TypeId} {B : Nat} {w w' : World} (h : Keep ts B w w') (hs : ∀ t ∈ ts, t ∈ us) : Keep us B w w' := ⟨h.below, fun k o hk hn => h.rest k o hk fun c t fr e ht => hn c t fr e (hs t ht)⟩
/-- 'append' of an event that lies in a block of its own -/
theorem wp_pushE {o : Oper} {a : Act} {w0 : World} {K : Act → World → Prop} {Q : Exit → Act → World → Prop} (s x : Operand)
    (ho : o.op = .call { callee := .builtin .append, args := #[s, x], argTypes := #[23, 23] }) (B : Nat) (v : Value) (es : List Ev.E) (y : Ev.E) (g c : Nat) (fr : Nat × Nat)
    (hs : a.eval s = v) (hx : a.eval x = .slice (some ⟨g, 0, none⟩) 1 c) (hg : w0.heap[g]? = some (.cells #[.int .i64 y.kind, .string (str y.anchor), .string (str y.tag), .string (str y.text), .bool y.plain] 47 fr)) (hown : OwnE w0 B v es) (hl : es.length ≤ 2199023255488) (hB : B ≤ w0.heap.size)
    (h : ∀ v' w', OwnE w' B v' (es ++ [y]) → Keep [47] B w0 w' → (∀ k, k < w0.heap.size → v.ownBlock ≠ some k → w'.heap[k]? = w0.heap[k]?) → K (a.put o.dst v') w') : o.wp Tryz.prog a w0 K Q := by
  obtain ⟨i0, hi, hz0, hz1, hz2⟩ := info_parts infoE
  refine wp_append_own _ s x 23 ho B 47 i0 _ 5 64 Tryz.underlying23 hi hz0 hz1 hz2 rfl (by decide) v es.length (evsCells es) hs hown ⟨g, 0, none⟩ 1 c (evCells y) hx rfl
    (World.news_of_block hg) (fun u hu => by unfold evCells at hu; simp only [List.mem_cons, List.not_mem_nil, or_false] at hu; rcases hu with rfl | rfl | rfl | rfl | rfl <;> rfl) (by simp only [maxLen]; omega) (by omega) hB ?_
  intro v' w' ho' hg' _
  refine h v' w' ?_ (keep_row hown (by simp) ((Below.refl B w0).grown hg' hB (fun k hk => (World.ownsRow.lt hown k hk).1)) (fun k hk hne => hg'.block k hk hne.symm)) (fun k hk hne => hg'.block k hk hne.symm)
  unfold OwnE
  rw [List.length_append, evsCells_snoc]
  exact ho'
theorem wpList_pushE {ops : Array Oper} {rest : List Oper} {o : Oper} {a : Act} {w0 : World} {Q : Exit → Act → World → Prop} (hgd : o.guard = none) (s x : Operand)
    (ho : o.op = .call { callee := .builtin .append, args := #[s, x], argTypes := #[23, 23] }) (B : Nat) (v : Value) (es : List Ev.E) (y : Ev.E) (g c : Nat) (fr : Nat × Nat)
    (hs : a.eval s = v) (hx : a.eval x = .slice (some ⟨g, 0, none⟩) 1 c) (hg : w0.heap[g]? = some (.cells #[.int .i64 y.kind, .string (str y.anchor), .string (str y.tag), .string (str y.text), .bool y.plain] 47 fr)) (hown : OwnE w0 B v es) (hl : es.length ≤ 2199023255488) (hB : B ≤ w0.heap.size)
    (h : ∀ v' w', OwnE w' B v' (es ++ [y]) → Keep [47] B w0 w' → (∀ k, k < w0.heap.size → v.ownBlock ≠ some k → w'.heap[k]? = w0.heap[k]?) → wpList Tryz.prog ops Q rest (a.put o.dst v') w') : wpList Tryz.prog ops Q (o :: rest) a w0 :=
  wpList_plain hgd fun _ hK => wp_pushE s x ho B v es y g c fr hs hx hg hown hl hB fun v' w' h2 h3 h4 => hK _ _ (h v' w' h2 h3 h4)
theorem step_pushE {ops : Array Oper} {o : Oper} {a : Act} {w0 : World} {K : Act → World → Prop} {Q : Exit → Act → World → Prop} {E : Prop} (hgd : o.guard = none) (s x : Operand)
    (ho : o.op = .call { callee := .builtin .append, args := #[s, x], argTypes := #[23, 23] }) (B : Nat) (v : Value) (es : List Ev.E) (y : Ev.E) (g c : Nat) (fr : Nat × Nat)
    (hs : a.eval s = v) (hx : a.eval x = .slice (some ⟨g, 0, none⟩) 1 c) (hg : w0.heap[g]? = some (.cells #[.int .i64 y.kind, .string (str y.anchor), .string (str y.tag), .string (str y.text), .bool y.plain] 47 fr)) (hown : OwnE w0 B v es) (hl : es.length ≤ 2199023255488) (hB : B ≤ w0.heap.size)
    (h : ∀ v' w', OwnE w' B v' (es ++ [y]) → Keep [47] B w0 w' → (∀ k, k < w0.heap.size → v.ownBlock ≠ some k → w'.heap[k]? = w0.heap[k]?) → K (a.put o.dst v') w') :
    if Region.wanted o (yielded ops a.tmps) = true then Oper.wp Tryz.prog o a w0 K Q else E := by
  have hw : Region.wanted o (yielded ops a.tmps) = true := by simp [Region.wanted, hgd]
  rw [if_pos hw]
  exact wp_pushE s x ho B v es y g c fr hs hx hg hown hl hB h
end Go.Proofs.YtjcfmghijfnehaaGreatDoor
namespace Go.Proofs.YtjcfmghijfnehaaGreatDoor
namespace Px
open Lx (Wd Ln)
/-- properties -/
structure Pr where
  anchor : List UInt8
  tag : List UInt8
def nop : Pr := ⟨[], []⟩
def Pr.some (p : Pr) : Bool := !(p.anchor.isEmpty && p.tag.isEmpty)
def Pr.on (p : Pr) (x : Ev.E) : Ev.E := ⟨x.kind, p.anchor, p.tag, x.text, x.plain⟩
def prOf (x : Ev.E) : Pr := ⟨x.anchor, x.tag⟩
def hole : Ev.E := ⟨6, [], [], [], true⟩
def ev (k : Int) : Ev.E := ⟨k, [], [], [], false⟩
def bk (ws : List Wd) (k : Nat) : Bool := match ws with
  | [] => false
  | w :: _ => decide (w.kind = k)
/-- properties ahead -/
def cutP : Pr → List Wd → Except Nat (Pr × List Wd)
  | p, [] => .ok (p, [])
  | p, w :: t =>
    if w.kind = 3 then (if p.anchor.isEmpty then cutP ⟨w.text, p.tag⟩ t else .error 5)
    else if w.kind = 5 then (if p.tag.isEmpty then cutP ⟨p.anchor, w.text⟩ t else .error 5)
    else .ok (p, w :: t)
def leaf (w : Wd) (p : Pr) : Except Nat Ev.E :=
  if w.kind ≤ 2 then .ok ⟨6, p.anchor, p.tag, w.text, decide (w.kind = 0)⟩
  else if w.kind = 4 then (if p.some then .error 5 else .ok ⟨7, w.text, [], [], false⟩)
  else .error 5
/-- what is left of words, and the events that were told -/
abbrev Rd := Except Nat (List Wd × List Ev.E)
def pre (es : List Ev.E) : Rd → Rd
  | .ok (r, xs) => .ok (r, es ++ xs)
  | .error e => .error e
def leafW (p : Pr) : List Wd → Rd
  | [] => .error 5
  | w :: t => match leaf w p with
    | .ok x => .ok (t, [x])
    | .error e => .error e
def items (one : List Wd → Rd) (close : Nat) : Nat → List Wd → Rd
  | 0, _ => .error 5
  | m + 1, ws => if bk ws close then .ok (ws.tail, []) else match one ws with
    | .error e => .error e
    | .ok (r, es) => if bk r 10 then pre es (items one close m r.tail) else if bk r close then pre es (items one close m r) else .error 5
def keyW (ws : List Wd) : Rd := if bk ws 11 then .ok (ws, [hole]) else match cutP nop ws with
  | .error e => .error e
  | .ok (p, r) => leafW p r
def pair (nd : List Wd → Rd) (ws : List Wd) : Rd := match keyW ws with
  | .error e => .error e
  | .ok (r, es) => if bk r 11 then (if bk r.tail 10 || bk r.tail 9 then .ok (r.tail, es ++ [hole]) else pre es (nd r.tail)) else .ok (r, es ++ [hole])
def wrap (p : Pr) (k : Int) : Rd → Rd
  | .ok (r, es) => .ok (r, p.on (ev k) :: (es ++ [ev (k + 1)]))
  | .error e => .error e
def nodeWith (lst mp : List Wd → Rd) (ws : List Wd) : Rd := match cutP nop ws with
  | .error e => .error e
  | .ok (p, r) => if bk r 6 then wrap p 2 (lst r.tail) else if bk r 8 then wrap p 4 (mp r.tail) else leafW p r
/-- a node, in which so many may lie in one another -/
def node : Nat → List Wd → Rd
  | 0, ws => nodeWith (fun _ => .error 13) (fun _ => .error 13) ws
  | k + 1, ws => nodeWith (fun r => items (node k) 7 (r.length + 1) r) (fun r => items (pair (node k)) 9 (r.length + 1) r) ws
def flowEnd : Rd → Except Nat (List Ev.E)
  | .ok ([], es) => .ok es
  | .ok (_ :: _, _) => .error 5
  | .error e => .error e
def flowOf (ws : List Wd) (d : Nat) : Except Nat (List Ev.E) := flowEnd (node (40 - d) ws)

/-- a list or a map of lines, or a document -/
structure Bk where
  kind : Int
  fin : Int
  col : Int
  waits : Bool
def doc : Bk := ⟨0, 1, -1, true⟩
/-- what is read: the last block ahead of the others -/
structure St where
  blocks : List Bk
  held : Pr
  out : List Ev.E
def Bk.still (b : Bk) : Bk := ⟨b.kind, b.fin, b.col, false⟩
def Bk.wait (b : Bk) : Bk := ⟨b.kind, b.fin, b.col, true⟩
def still : List Bk → List Bk
  | [] => []
  | b :: t => b.still :: t
def waitB : List Bk → List Bk
  | [] => []
  | b :: t => b.wait :: t
def St.wait (s : St) : St := ⟨waitB s.blocks, s.held, s.out⟩
/-- the node, with what is held -/
def dress (h : Pr) (x : Ev.E) : Except Nat Ev.E :=
  if h.some then (if x.kind = 7 ∨ (prOf x).some = true then .error 5 else .ok (h.on x)) else .ok x
def comes (s : St) (x : Ev.E) (bh : List Ev.E) : Except Nat St := match dress s.held x with
  | .ok y => .ok ⟨still s.blocks, nop, s.out ++ y :: bh⟩
  | .error e => .error e
/-- one comes that has nothing -/
def fill (s : St) (x : Ev.E) : St := ⟨still s.blocks, nop, s.out ++ [s.held.on x]⟩
def close1 (s : St) : St := match s.blocks with
  | [] => s
  | b :: t => if b.waits then ⟨t, nop, s.out ++ [s.held.on hole, ev b.fin]⟩ else ⟨t, s.held, s.out ++ [ev b.fin]⟩
def endGo : Nat → St → St
  | 0, s => s
  | n + 1, s => endGo n (close1 s)
def endDoc (s : St) : St := endGo s.blocks.length s
def beginDoc (s : St) : St := ⟨doc :: s.blocks, s.held, s.out ++ [ev 0]⟩
def dropGo (ind : Int) : Nat → St → St
  | 0, s => s
  | n + 1, s => match s.blocks with
    | b :: _ :: _ => if ind < b.col then dropGo ind n (close1 s) else s
    | _ => s
def dropTo (ind : Int) (s : St) : St := dropGo ind s.blocks.length s
def isKeyGo : List Wd → Bool
  | [] => false
  | w :: t => if w.kind = 3 ∨ w.kind = 5 then isKeyGo t else if w.kind ≤ 2 ∨ w.kind = 4 then bk t 11 else decide (w.kind = 11)
def goesOn (kind : Int) (ws : List Wd) : Bool := if kind = 2 then bk ws 12 else if kind = 4 then isKeyGo ws else false
def placeAt (s : St) (ind : Int) (ws : List Wd) : Except Nat St := match s.blocks with
  | [] => .error 5
  | b :: _ =>
    if b.col ≠ ind then (if b.waits then .ok s else .error 9)
    else if goesOn b.kind ws then (if b.waits then .ok (fill s hole) else .ok s) else .error 9
def place (s : St) (x : Ln) : Except Nat St := placeAt (dropTo x.indent s) x.indent x.words
def enter (s : St) (kind fin col : Int) : Except Nat St := match s.blocks with
  | [] => .error 5
  | b :: t =>
    if b.kind = kind ∧ b.col = col then .ok s
    else if 40 ≤ t.length then .error 13
    else .ok ⟨⟨kind, fin, col, false⟩ :: b.still :: t, nop, s.out ++ [s.held.on (ev kind)]⟩
def dashes : St → List Wd → Except Nat (St × List Wd)
  | s, [] => .ok (s, [])
  | s, w :: t => if w.kind = 12 then (match enter s 2 3 w.at_ with
    | .ok s' => dashes s'.wait t
    | .error e => .error e) else .ok (s, w :: t)
def afterKey (r : List Wd) : Except Nat St → Except Nat (St × List Wd)
  | .ok s => .ok (s.wait, r)
  | .error e => .error e
def keyGo (s : St) (p : Pr) : List Wd → Except Nat (St × List Wd)
  | [] => .error 5
  | w :: t => if w.kind = 11 then afterKey t (comes s (p.on hole) []) else match leaf w p with
    | .error e => .error e
    | .ok x => afterKey t.tail (comes s x [])
def keyed (s : St) (ws : List Wd) : Except Nat (St × List Wd) := match ws with
  | [] => .error 5
  | w :: _ => match enter s 4 5 w.at_ with
    | .error e => .error e
    | .ok s' => match cutP nop ws with
      | .error e => .error e
      | .ok (p, r) => keyGo s' p r
def hold (s : St) (p : Pr) : Except Nat St := if s.held.some then .error 5 else .ok ⟨s.blocks, p, s.out⟩
def flowIn (s : St) : Except Nat (List Ev.E) → Except Nat St
  | .ok (x :: xs) => comes s x xs
  | .ok [] => .error 5
  | .error e => .error e
def value (s : St) (ws : List Wd) (text : List UInt8) : Except Nat St := match cutP nop ws with
  | .error e => .error e
  | .ok (p, r) =>
    if r.length = 0 then hold s p
    else if r.length = 1 ∧ bk r 13 = true then comes s (p.on ⟨6, [], [], text, false⟩) []
    else flowIn s (flowOf ws (s.blocks.length - 1))
def behind (text : List UInt8) : Except Nat (St × List Wd) → Except Nat St
  | .ok (s, []) => .ok s
  | .ok (s, w :: t) => value s (w :: t) text
  | .error e => .error e
def wordsOf (s : St) (x : Ln) : Except Nat St := match dashes s x.words with
  | .error e => .error e
  | .ok (s', ws) => behind x.text (if isKeyGo ws then keyed s' ws else .ok (s', ws))
def opened (s : St) : St := if s.blocks.isEmpty then beginDoc s else s
def lineIn (s : St) (x : Ln) : Except Nat St :=
  if x.mark = 1 then .ok (beginDoc (endDoc s)) else if x.mark = 2 then .ok (endDoc s) else match place (opened s) x with
    | .error e => .error e
    | .ok s' => wordsOf s' x
def docsGo : List Ln → St → Except Nat St
  | [], s => .ok (endDoc s)
  | x :: t, s => match lineIn s x with
    | .error e => .error e
    | .ok s' => docsGo t s'
def st0 : St := ⟨[], nop, []⟩
def outOf : Except Nat St → Except Nat (List Ev.E)
  | .ok s => .ok s.out
  | .error e => .error e
def events (ls : List Ln) : Except Nat (List Ev.E) := outOf (docsGo ls st0)
def text (l : List UInt8) : Except Nat (List Ev.E) := match Lx.read l with
  | .error e => .error e
  | .ok ls => events ls
end Px
end Go.Proofs.YtjcfmghijfnehaaGreatDoor
namespace Go.Proofs.YtjcfmghijfnehaaGreatDoor
open Go.RowKit
theorem evsCells_cut (es : List Ev.E) (k : Nat) : evsCells es = evsCells (es.take k) ++ evsCells (es.drop k) := by rw [← evsCells_app, List.take_append_drop]
/-- the cells of a row of events, from an address on -/
def NewsE (w : World) (ad : Addr) (ys : List Ev.E) : Prop := ∀ j u, (evsCells ys)[j]? = some u → w.cell? (ad.add j) = some u
theorem NewsE.below {w w' : World} {B g o : Nat} {ys : List Ev.E} (h : NewsE w ⟨g, o, none⟩ ys) (hb : Below B w w') (hg : g < B) : NewsE w' ⟨g, o, none⟩ ys := fun j u hu => by
  have := h j u hu
  rw [Addr.add_lit] at this ⊢
  exact (hb.cell (p := ⟨g, o + j, none⟩) hg).trans this
theorem NewsE.heap {w w' : World} {ad : Addr} {ys : List Ev.E} (h : NewsE w ad ys) (e : w'.heap = w.heap) : NewsE w' ad ys := fun j u hu => by
  exact (World.cell?_of_block (by rw [e])).trans (h j u hu)
theorem NewsE.take {w : World} {ad : Addr} {es : List Ev.E} (h : NewsE w ad es) (k : Nat) : NewsE w ad (es.take k) := fun j u hu => h j u (by
  have hj : j < (evsCells (es.take k)).length := (List.getElem?_eq_some_iff.1 hu).1
  rw [evsCells_cut es k, List.getElem?_append_left hj]; exact hu)
theorem NewsE.drop {w : World} {g o : Nat} {es : List Ev.E} (h : NewsE w ⟨g, o, none⟩ es) (k : Nat) (hk : k ≤ es.length) : NewsE w ⟨g, o + k * 5, none⟩ (es.drop k) := fun j u hu => by
  have hlen : (evsCells (es.take k)).length = k * 5 := by rw [evsCells_len, List.length_take, Nat.min_eq_left hk]
  have := h (k * 5 + j) u (by rw [evsCells_cut es k, List.getElem?_append_right (by omega), hlen, Nat.add_sub_cancel_left]; exact hu)
  rw [Addr.add_lit] at this ⊢
  rwa [Nat.add_assoc]
theorem NewsE.drop0 {w : World} {g : Nat} {es : List Ev.E} (h : NewsE w ⟨g, 0, none⟩ es) (k : Nat) (hk : k ≤ es.length) : NewsE w ⟨g, k * 5, none⟩ (es.drop k) := by
  have := h.drop k hk
  rwa [Nat.zero_add] at this
theorem NewsE.nil (w : World) (ad : Addr) : NewsE w ad [] := fun j u hu => by simp [evsCells] at hu
/-- a row that a call owns, and that has something -/
theorem ownE_form {w : World} {B : Nat} {v : Value} {es : List Ev.E} (h : OwnE w B v es) (hn : 0 < es.length) :
    ∃ g c, v = .slice (some ⟨g, 0, none⟩) es.length c ∧ es.length ≤ c ∧ g < w.heap.size ∧ B ≤ g ∧ NewsE w ⟨g, 0, none⟩ es := by
  have h' := h
  rcases h.2 with ⟨_, h0⟩ | ⟨g, c, cur, rfl, hB, hh, hnc, hr⟩
  · omega
  · exact ⟨g, c, rfl, hnc, (Array.getElem?_eq_some_iff.1 hh).1, hB, World.ownsRow.cells h' (g := g) rfl⟩
theorem newsE_kind {w : World} {g o : Nat} {es : List Ev.E} (h : NewsE w ⟨g, o, none⟩ es) (k : Nat) (hk : k < es.length) : w.cell? ⟨g, o + k * 5, none⟩ = some (.int .i64 es[k].kind) := by
  have e : (evsCells es)[k * 5 + 0]? = some (.int .i64 es[k].kind) := (evsCells_at es k hk 0 (by decide)).trans rfl
  have := h _ _ e
  rwa [Addr.add_lit] at this
/-- append(x, y...) of a part of a row -/
theorem run_appR (w : World) (ty : TypeId) (B : Nat) (v : Value) (ad : Addr) (m c : Nat) (xs ys : List Ev.E) (hv : OwnE w B v xs) (hm : m = ys.length) (hn : NewsE w ad ys) (hl : xs.length + ys.length ≤ 2199023255489) (hB : B ≤ w.heap.size) :
    ∃ v' w', (Builtin.append_ #[23, 23] ty #[v, .slice (some ad) m c]).run Tryz.prog w = .ok v' w' ∧ OwnE w' B v' (xs ++ ys) ∧ Keep [47] B w w' := by
  obtain ⟨i0, hi, hz0, hz1, hz2⟩ := info_parts infoE
  subst hm
  obtain ⟨v', w', hr, h2, h3, _, _⟩ := run_append_own_at (P := Tryz.prog) w B 23 ty 47 i0 _ 5 64 Tryz.underlying23 hi hz0 hz1 hz2 rfl (by decide) v xs.length (evsCells xs) hv ad ys.length c (evsCells ys) (evsCells_len ys) hn (evsCells_one ys) (by simp only [maxLen]; omega) (by omega) hB
  refine ⟨v', w', hr, ?_, keep_row hv (by simp) ((Below.refl B w).grown h3 hB (fun k hk => (World.ownsRow.lt hv k hk).1)) (fun k hk hne => h3.block k hk hne.symm)⟩
  unfold OwnE
  rw [List.length_append, evsCells_app]; exact h2
/-- append(x, none...) -/
theorem run_appN (w : World) (ty : TypeId) (B : Nat) (v : Value) (xs : List Ev.E) (hv : OwnE w B v xs) :
    (Builtin.append_ #[23, 23] ty #[v, .slice none 0 0]).run Tryz.prog w = .ok v w := by
  obtain ⟨i0, hi, _, _, _⟩ := info_parts infoE
  exact run_append_owned_none (P := Tryz.prog) (w := w) B 23 ty 47 i0 5 Tryz.underlying23 hi v xs.length (evsCells xs) hv
/-- the events behind a node's first: none, or a part of a row -/
def Behind (w : World) (C : Nat) (v : Value) (ys : List Ev.E) : Prop := (v = .slice none 0 0 ∧ ys = []) ∨ ∃ g o c, v = .slice (some ⟨g, o, none⟩) ys.length c ∧ C ≤ g ∧ g < w.heap.size ∧ NewsE w ⟨g, o, none⟩ ys
theorem wp_appB {o : Oper} {a : Act} {w : World} {K : Act → World → Prop} {Q : Exit → Act → World → Prop} (s x : Operand)
    (ho : o.op = .call { callee := .builtin .append, args := #[s, x], argTypes := #[23, 23] }) (B : Nat) (v u : Value) (xs ys : List Ev.E) (C : Nat) (hs : a.eval s = v) (hx : a.eval x = u)
    (hv : OwnE w B v xs) (hn : Behind w C u ys) (hl : xs.length + ys.length ≤ 2199023255489) (hB : B ≤ w.heap.size)
    (h : ∀ v' w', OwnE w' B v' (xs ++ ys) → Keep [47] B w w' → K (a.put o.dst v') w') : o.wp Tryz.prog a w K Q := by
  have hr : ∃ v' w', (Builtin.append_ #[23, 23] o.type #[v, u]).run Tryz.prog w = .ok v' w' ∧ OwnE w' B v' (xs ++ ys) ∧ Keep [47] B w w' := by
    rcases hn with ⟨rfl, rfl⟩ | ⟨g, off, c, rfl, _, _, hn⟩
    · exact ⟨v, w, run_appN w o.type B v xs hv, by rw [List.append_nil]; exact hv, Keep.refl _ _ _⟩
    · exact run_appR w o.type B v _ _ c xs ys hv rfl hn hl hB
  obtain ⟨v', w', hr, h2, h3⟩ := hr
  unfold Oper.wp execOp
  simp only [ho, resolve, invoke, builtin, Sem.run_bind, Sem.run_pure, Result.andThen_ok, List.map_toArray, List.map_cons, List.map_nil, hs, hx, hr]
  exact h v' w' h2 h3
theorem step_appB {ops : Array Oper} {o : Oper} {a : Act} {w : World} {K : Act → World → Prop} {Q : Exit → Act → World → Prop} {E : Prop} (hgd : o.guard = none) (s x : Operand)
    (ho : o.op = .call { callee := .builtin .append, args := #[s, x], argTypes := #[23, 23] }) (B : Nat) (v u : Value) (xs ys : List Ev.E) (C : Nat) (hs : a.eval s = v) (hx : a.eval x = u)
    (hv : OwnE w B v xs) (hn : Behind w C u ys) (hl : xs.length + ys.length ≤ 2199023255489) (hB : B ≤ w.heap.size)
    (h : ∀ v' w', OwnE w' B v' (xs ++ ys) → Keep [47] B w w' → K (a.put o.dst v') w') :
    if Region.wanted o (yielded ops a.tmps) = true then Oper.wp Tryz.prog o a w K Q else E := by
  have hw : Region.wanted o (yielded ops a.tmps) = true := by simp [Region.wanted, hgd]
  rw [if_pos hw]
  exact wp_appB s x ho B v u xs ys C hs hx hv hn hl hB h

def bkCells (b : Px.Bk) : List Value := [.int .i64 b.kind, .int .i64 b.fin, .int .i64 b.col, .bool b.waits]
def bksCells (bs : List Px.Bk) : List Value := bs.flatMap bkCells
theorem bksCells_len (bs : List Px.Bk) : (bksCells bs).length = bs.length * 4 := by
  induction bs with
  | nil => rfl
  | cons x t ih =>
    have e : bksCells (x :: t) = bkCells x ++ bksCells t := rfl
    rw [e, List.length_append, ih]; simp [bkCells]; omega
theorem bksCells_snoc (bs : List Px.Bk) (b : Px.Bk) : bksCells (bs ++ [b]) = bksCells bs ++ bkCells b := by unfold bksCells; rw [List.flatMap_append]; simp
theorem bksCells_rev (b : Px.Bk) (t : List Px.Bk) : bksCells (b :: t).reverse = bksCells t.reverse ++ bkCells b := by rw [List.reverse_cons, bksCells_snoc]
theorem bksCells_rlen (t : List Px.Bk) : (bksCells t.reverse).length = t.length * 4 := by rw [bksCells_len, List.length_reverse]
/-- blocks that the call owns: the last one is the head of the list -/
def OwnB (w : World) (B : Nat) (v : Value) (bs : List Px.Bk) : Prop := w.ownsRow B 193 4 v bs.length (bksCells bs.reverse)
theorem OwnB.last {w : World} {B : Nat} {v : Value} {b : Px.Bk} {t : List Px.Bk} (h : OwnB w B v (b :: t)) :
    ∃ g cap cur, v = .slice (some ⟨g, 0, none⟩) (t.length + 1) cap ∧ B ≤ g ∧ w.heap[g]? = some (.cells cur 193 (0, 0)) ∧ t.length + 1 ≤ cap ∧
      cur[t.length * 4]? = some (.int .i64 b.kind) ∧ cur[t.length * 4 + 1]? = some (.int .i64 b.fin) ∧ cur[t.length * 4 + 2]? = some (.int .i64 b.col) ∧ cur[t.length * 4 + 3]? = some (.bool b.waits) := by
  rcases h.2 with ⟨_, h0⟩ | ⟨g, cap, cur, rfl, hB, hh, hnc, hm, hsz, htk⟩
  · cases h0
  · simp only [List.length_cons] at htk hnc
    have at_ : ∀ i u, i < 4 → (bkCells b)[i]? = some u → cur[t.length * 4 + i]? = some u := fun i u hi hu => by
      have h1 : (cur.toList.take ((t.length + 1) * 4))[t.length * 4 + i]? = some u := by
        rw [htk, bksCells_rev, List.getElem?_append_right (by rw [bksCells_rlen]; omega), bksCells_rlen]
        rw [show t.length * 4 + i - t.length * 4 = i by omega]; exact hu
      rw [List.getElem?_take_of_lt (by omega)] at h1
      rw [← Array.getElem?_toList]; exact h1
    exact ⟨g, cap, cur, rfl, hB, hh, hnc, at_ 0 _ (by decide) rfl, at_ 1 _ (by decide) rfl, at_ 2 _ (by decide) rfl, at_ 3 _ (by decide) rfl⟩
theorem OwnB.setW {w : World} {B g cap : Nat} {b : Px.Bk} {t : List Px.Bk} (h : OwnB w B (.slice (some ⟨g, 0, none⟩) (t.length + 1) cap) (b :: t)) (x : Bool) :
    OwnB (w.setCell ⟨g, t.length * 4 + 3, none⟩ (.bool x)) B (.slice (some ⟨g, 0, none⟩) (t.length + 1) cap) (⟨b.kind, b.fin, b.col, x⟩ :: t) := by
  rcases h.2 with ⟨_, h0⟩ | ⟨g', cap', cur, e, hB, hh, hnc, hm, hsz, htk⟩
  · cases h0
  · cases e
    simp only [List.length_cons] at htk hnc
    refine ⟨by rw [bksCells_len, List.length_reverse], .inr ⟨g, cap, cur.setIfInBounds (t.length * 4 + 3) (.bool x), rfl, hB, blk_set hh _ _, hnc, hm, by rw [Array.size_setIfInBounds]; exact hsz, ?_⟩⟩
    rw [Array.toList_setIfInBounds, List.length_cons, List.take_set, htk, bksCells_rev, bksCells_rev, List.set_append_right _ _ (by rw [bksCells_rlen]; omega), bksCells_rlen]
    rw [show t.length * 4 + 3 - t.length * 4 = 3 by omega]
    rfl
theorem OwnB.pop {w : World} {B g cap : Nat} {b : Px.Bk} {t : List Px.Bk} (h : OwnB w B (.slice (some ⟨g, 0, none⟩) (t.length + 1) cap) (b :: t)) : OwnB w B (.slice (some ⟨g, 0, none⟩) t.length cap) t := by
  have h' : w.ownsRow B 193 4 (.slice (some ⟨g, 0, none⟩) (t.length + 1) cap) (t.length + 1) (bksCells t.reverse ++ bkCells b) := by rw [← bksCells_rev]; exact h
  exact ownsRow_pop (bksCells_rlen t) h'
theorem infoB : (Tryz.prog.info? 193).map (fun i => (i.zero, i.size, i.bytes)) = some (some (.agg #[.int .i64 0, .int .i64 0, .int .i64 0, .bool false]), 4, 32) := by kernel_rfl
/-- 'append' of a block that lies in a block of memory of its own -/
theorem wp_pushB {o : Oper} {a : Act} {w0 : World} {K : Act → World → Prop} {Q : Exit → Act → World → Prop} (s x : Operand)
    (ho : o.op = .call { callee := .builtin .append, args := #[s, x], argTypes := #[115, 115] }) (B : Nat) (v : Value) (bs : List Px.Bk) (y : Px.Bk) (g c : Nat) (fr : Nat × Nat)
    (hs : a.eval s = v) (hx : a.eval x = .slice (some ⟨g, 0, none⟩) 1 c) (hg : w0.heap[g]? = some (.cells #[.int .i64 y.kind, .int .i64 y.fin, .int .i64 y.col, .bool y.waits] 193 fr)) (hown : OwnB w0 B v bs) (hl : bs.length ≤ 1000) (hB : B ≤ w0.heap.size)
    (h : ∀ v' w', OwnB w' B v' (y :: bs) → Keep [193] B w0 w' → K (a.put o.dst v') w') : o.wp Tryz.prog a w0 K Q := by
  obtain ⟨i0, hi, hz0, hz1, hz2⟩ := info_parts infoB
  refine wp_append_own _ s x 115 ho B 193 i0 _ 4 32 Tryz.underlying115 hi hz0 hz1 hz2 rfl (by decide) v bs.length (bksCells bs.reverse) hs hown ⟨g, 0, none⟩ 1 c (bkCells y) hx rfl
    (World.news_of_block hg) (fun u hu => by unfold bkCells at hu; simp only [List.mem_cons, List.not_mem_nil, or_false] at hu; rcases hu with rfl | rfl | rfl | rfl <;> rfl) (by simp only [maxLen]; omega) (by omega) hB ?_
  intro v' w' ho' hg' _
  refine h v' w' ?_ (keep_row hown (by simp) ((Below.refl B w0).grown hg' hB (fun k hk => (World.ownsRow.lt hown k hk).1)) (fun k hk hne => hg'.block k hk hne.symm))
  unfold OwnB
  rw [List.length_cons, bksCells_rev]
  exact ho'
theorem wpList_pushB {ops : Array Oper} {rest : List Oper} {o : Oper} {a : Act} {w0 : World} {Q : Exit → Act → World → Prop} (hgd : o.guard = none) (s x : Operand)
    (ho : o.op = .call { callee := .builtin .append, args := #[s, x], argTypes := #[115, 115] }) (B : Nat) (v : Value) (bs : List Px.Bk) (y : Px.Bk) (g c : Nat) (fr : Nat × Nat)
    (hs : a.eval s = v) (hx : a.eval x = .slice (some ⟨g, 0, none⟩) 1 c) (hg : w0.heap[g]? = some (.cells #[.int .i64 y.kind, .int .i64 y.fin, .int .i64 y.col, .bool y.waits] 193 fr)) (hown : OwnB w0 B v bs) (hl : bs.length ≤ 1000) (hB : B ≤ w0.heap.size)
    (h : ∀ v' w', OwnB w' B v' (y :: bs) → Keep [193] B w0 w' → wpList Tryz.prog ops Q rest (a.put o.dst v') w') : wpList Tryz.prog ops Q (o :: rest) a w0 :=
  wpList_plain hgd fun _ hK => wp_pushB s x ho B v bs y g c fr hs hx hg hown hl hB fun v' w' h2 h3 => hK _ _ (h v' w' h2 h3)

/-- the types of the blocks that a reader of lines writes -/
abbrev rdT : List TypeId := [119, 47, 193]
/-- a reader of lines lies in memory -/
structure RdAt (w : World) (B R : Nat) (bv ov : Value) (st : Px.St) : Prop where
  cell : w.heap[R]? = some (.cells #[bv, .string (str st.held.anchor), .string (str st.held.tag), ov] 119 (0, 0))
  blocks : OwnB w B bv st.blocks
  out : OwnE w B ov st.out
def RdrAt (w : World) (B R : Nat) (st : Px.St) : Prop := ∃ bv ov, RdAt w B R bv ov st
theorem RdAt.below {w w' : World} {B R : Nat} {bv ov : Value} {st : Px.St} (h : RdAt w B R bv ov st) (hb : Below w.heap.size w w') : RdAt w' B R bv ov st := ⟨blk_below h.cell hb, row_below h.blocks hb, row_below h.out hb⟩
theorem RdAt.drew {w : World} {B R : Nat} {bv ov : Value} {st : Px.St} (h : RdAt w B R bv ov st) : RdAt w.drew B R bv ov st := ⟨h.cell, h.blocks, h.out⟩
theorem RdrAt.call {w w' : World} {B R : Nat} {st : Px.St} (h : RdrAt w B R st) (hb : Below w.heap.size w w') : RdrAt w' B R st := by
  obtain ⟨bv, ov, h⟩ := h
  exact ⟨bv, ov, h.below hb⟩
theorem RdAt.lt {w : World} {B R : Nat} {bv ov : Value} {st : Px.St} (h : RdAt w B R bv ov st) : R < w.heap.size := (Array.getElem?_eq_some_iff.1 h.cell).1
theorem RdrAt.lt {w : World} {B R : Nat} {st : Px.St} (h : RdrAt w B R st) : R < w.heap.size := by
  obtain ⟨bv, ov, h⟩ := h
  exact h.lt
/-- a row of another type stays when a cell of a block is set -/
theorem row_set {w : World} {B e z n F i : Nat} {v u : Value} {xs : List Value} {c : Array Value} {t : TypeId} {fr : Nat × Nat} (h : w.ownsRow B e z v n xs) (hF : w.heap[F]? = some (.cells c t fr)) (ht : t ≠ e) : (w.setCell ⟨F, i, none⟩ u).ownsRow B e z v n xs := by
  refine row_kept h fun k hk => ?_
  refine Below.heap_setCell w ⟨F, i, none⟩ u k ?_
  intro e1
  have e1 : F = k := e1.symm
  subst e1
  rcases h.2 with ⟨rfl, _⟩ | ⟨g, cap, cur, rfl, _, hh, _⟩
  · cases hk
  · have e1 : g = F := by simpa [Value.ownBlock] using hk
    subst e1
    rw [hF] at hh
    cases hh; exact ht rfl
end Go.Proofs.YtjcfmghijfnehaaGreatDoor
