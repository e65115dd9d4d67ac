/-
  Plain mathematics, no program's run in it: rows of events: how deep they stand, how they nest.
-/
import Derived.Test.YtbimjdlkffbncaaDoorProg
namespace Go.Proofs.YtbimjdlkffbncaaDoor
namespace Ev
/-- an event -/
structure E where
  kind : Int
  anchor : List UInt8
  tag : List UInt8
  text : List UInt8
  plain : Bool

def isNode (k : Int) : Bool := decide (k = 2) || decide (k = 4) || decide (k = 6) || decide (k = 7)
def dstep (k : Int) : Int := if k = 2 ∨ k = 4 then 1 else if k = 3 ∨ k = 5 then -1 else 0
/-- the greatest sum of a beginning -/
def dmax : List Int → Int
  | [] => 0
  | k :: t => max 0 (dstep k + dmax t)
def dsum : List Int → Int
  | [] => 0
  | k :: t => dstep k + dsum t
def depthGo : Int → Int → List Int → Int
  | _, m, [] => m
  | d, m, k :: t => depthGo (d + dstep k) (max m (d + dstep k)) t
theorem dmax_nonneg (l : List Int) : 0 ≤ dmax l := by cases l <;> simp only [dmax] <;> omega
theorem depthGo_eq (l : List Int) : ∀ d m, d ≤ m → depthGo d m l = max m (d + dmax l) := by
  induction l with
  | nil => intro d m h; simp only [depthGo, dmax]; omega
  | cons k t ih =>
    intro d m h
    simp only [depthGo, dmax]
    rw [ih _ _ (by omega)]
    have := dmax_nonneg t
    omega
theorem depthGo_zero (l : List Int) : depthGo 0 0 l = dmax l := by rw [depthGo_eq l 0 0 (by omega)]; have := dmax_nonneg l; omega
theorem dmax_le (l : List Int) : dmax l ≤ l.length := by
  induction l with
  | nil => simp [dmax]
  | cons k t ih =>
    simp only [dmax, List.length_cons]
    unfold dstep
    split
    · omega
    · split <;> omega
theorem dmax_app (a b : List Int) : dmax (a ++ b) = max (dmax a) (dsum a + dmax b) := by
  induction a with
  | nil => simp only [List.nil_append, dmax, dsum]; have := dmax_nonneg b; omega
  | cons k t ih => simp only [List.cons_append, dmax, dsum, ih]; omega
theorem dsum_app (a b : List Int) : dsum (a ++ b) = dsum a + dsum b := by
  induction a with
  | nil => simp [dsum]
  | cons k t ih => simp only [List.cons_append, dsum, ih]; omega
def nodesOf (l : List Int) : Nat := l.countP isNode
theorem nodes_app (a b : List Int) : nodesOf (a ++ b) = nodesOf a + nodesOf b := by unfold nodesOf; rw [List.countP_append]
theorem nodes_le (l : List Int) : nodesOf l ≤ l.length := List.countP_le_length

/-- may an event of kind k close a group that one of kind g opened, with n nodes in it? -/
def closes (g : Int) (n : Nat) (k : Int) : Bool := (decide (g = 0) && decide (k = 1) && decide (n = 1)) || (decide (g = 2) && decide (k = 3)) || (decide (g = 4) && decide (k = 5) && decide (n % 2 = 0))
def opens (k : Int) : Bool := decide (k = 0) || decide (k = 2) || decide (k = 4)
abbrev St := List (Int × Nat)
def push (k : Int) (st : St) : St := if opens k then (k, 0) :: st else st
/-- the groups that stand open behind an event (the last one ahead) -/
def step (st : St) (k : Int) : Option St :=
  match st with
  | [] => if k = 0 then some [(0, 0)] else none
  | (g, n) :: r => if k = 0 then none else if isNode k then some (push k ((g, n + 1) :: r)) else if closes g n k then some r else none
def run : St → List Int → Option St
  | st, [] => some st
  | st, k :: t => (step st k).bind fun st' => run st' t
def nested (l : List Int) : Bool := match run [] l with
  | some [] => true
  | _ => false
theorem nested_iff (l : List Int) : nested l = true ↔ run [] l = some [] := by
  unfold nested
  split
  · rename_i h; simp [h]
  · rename_i h
    constructor
    · intro h'; cases h'
    · intro h'; exact absurd h' h
theorem run_app (a b : List Int) : ∀ st, run st (a ++ b) = (run st a).bind fun st' => run st' b := by
  induction a with
  | nil => intro st; rfl
  | cons k t ih =>
    intro st
    simp only [List.cons_append, run]
    cases step st k with
    | none => rfl
    | some st' => simp only [Option.bind_some]; exact ih st'

/-- +1 for what begins so, -1 for what ends so -/
def wt (j k : Int) : Int := if k = j then 1 else if k = j + 1 then -1 else 0
def wsum (j : Int) : List Int → Int
  | [] => 0
  | k :: t => wt j k + wsum j t
def cnt (j : Int) : St → Int
  | [] => 0
  | (g, _) :: r => (if g = j then 1 else 0) + cnt j r
theorem wsum_app (j : Int) (a b : List Int) : wsum j (a ++ b) = wsum j a + wsum j b := by
  induction a with
  | nil => simp [wsum]
  | cons k t ih => simp only [List.cons_append, wsum, ih]; omega
theorem step_wt (j : Int) (hj : j = 0 ∨ j = 2 ∨ j = 4) (st st' : St) (k : Int) (h : step st k = some st') : cnt j st' = cnt j st + wt j k := by
  unfold step at h
  split at h
  · split at h
    · cases h; subst k; simp only [cnt, wt]; rcases hj with rfl | rfl | rfl <;> decide
    · cases h
  · rename_i g n r
    split at h
    · cases h
    · split at h
      · rename_i h0 h1
        cases h
        unfold push
        simp only [isNode, Bool.or_eq_true, decide_eq_true_eq] at h1
        rcases h1 with ((rfl | rfl) | rfl) | rfl <;> simp [opens, cnt, wt] <;> rcases hj with rfl | rfl | rfl <;> simp <;> omega
      · split at h
        · rename_i h0 h1 h2
          cases h
          simp only [closes, Bool.or_eq_true, Bool.and_eq_true, decide_eq_true_eq] at h2
          rcases h2 with (⟨⟨rfl, rfl⟩, _⟩ | ⟨rfl, rfl⟩) | ⟨⟨rfl, rfl⟩, _⟩ <;> simp only [cnt, wt] <;> rcases hj with rfl | rfl | rfl <;> simp <;> omega
        · cases h
theorem run_wt (j : Int) (hj : j = 0 ∨ j = 2 ∨ j = 4) (l : List Int) : ∀ st st', run st l = some st' → cnt j st' = cnt j st + wsum j l := by
  induction l with
  | nil => intro st st' h; cases h; simp [wsum]
  | cons k t ih =>
    intro st st' h
    simp only [run] at h
    cases hs : step st k with
    | none => rw [hs] at h; cases h
    | some s1 =>
      rw [hs] at h
      have h1 := step_wt j hj _ _ _ hs
      have h2 := ih _ _ h
      simp only [wsum]; omega
theorem step_kind (st st' : St) (k : Int) (h : step st k = some st') : 0 ≤ k ∧ k ≤ 7 := by
  unfold step at h
  split at h
  · split at h
    · omega
    · cases h
  · split at h
    · cases h
    · split at h
      · rename_i h0 h1
        simp only [isNode, Bool.or_eq_true, decide_eq_true_eq] at h1
        omega
      · split at h
        · rename_i h0 h1 h2
          simp only [closes, Bool.or_eq_true, Bool.and_eq_true, decide_eq_true_eq] at h2
          omega
        · cases h
theorem run_kinds (l : List Int) : ∀ st st', run st l = some st' → ∀ k ∈ l, 0 ≤ k ∧ k ≤ 7 := by
  induction l with
  | nil => intro _ _ _ k hk; cases hk
  | cons x t ih =>
    intro st st' h k hk
    simp only [run] at h
    cases hs : step st x with
    | none => rw [hs] at h; cases h
    | some s1 =>
      rw [hs] at h
      rcases List.mem_cons.1 hk with rfl | hk
      · exact step_kind _ _ _ hs
      · exact ih _ _ h k hk
theorem dstep_wt (k : Int) : dstep k = wt 2 k + wt 4 k := by
  unfold dstep wt
  split <;> rename_i h
  · rcases h with rfl | rfl <;> simp
  · split <;> rename_i h'
    · rcases h' with rfl | rfl <;> simp
    · rw [if_neg (by omega), if_neg (by omega), if_neg (by omega), if_neg (by omega)]; rfl
theorem dsum_wt (l : List Int) : dsum l = wsum 2 l + wsum 4 l := by
  induction l with
  | nil => rfl
  | cons k t ih => simp only [dsum, wsum, ih, dstep_wt]; omega
theorem nested_sums (l : List Int) (h : nested l = true) : dsum l = 0 ∧ wsum 0 l = 0 ∧ wsum 2 l = 0 ∧ wsum 4 l = 0 := by
  have h' := (nested_iff l).1 h
  have a := run_wt 0 (by simp) l _ _ h'
  have b := run_wt 2 (by simp) l _ _ h'
  have c := run_wt 4 (by simp) l _ _ h'
  simp only [cnt] at a b c
  rw [dsum_wt]
  omega
/-- of rows one behind the other -/
theorem nested_app (a b : List Int) (h : nested a = true) : nested (a ++ b) = nested b := by
  have h' := (nested_iff a).1 h
  rw [Bool.eq_iff_iff, nested_iff, nested_iff, run_app, h']
  rfl
theorem dmax_nested (a b : List Int) (h : nested a = true) : dmax (a ++ b) = max (dmax a) (dmax b) := by
  rw [dmax_app, (nested_sums a h).1]; simp
/-- a row without one of its beginnings, or ends -/
theorem nested_cut (a b : List Int) (k : Int) (h : nested (a ++ k :: b) = true) (hk : k < 6) : nested (a ++ b) = false := by
  rcases hb : nested (a ++ b) with _ | _
  · rfl
  · exfalso
    obtain ⟨_, h0, h2, h4⟩ := nested_sums _ h
    obtain ⟨_, g0, g2, g4⟩ := nested_sums _ hb
    have hr := run_kinds _ _ _ ((nested_iff _).1 h) k (by simp)
    rw [wsum_app] at *
    simp only [wsum] at h0 h2 h4
    have e0 : wt 0 k = 0 := by omega
    have e2 : wt 2 k = 0 := by omega
    have e4 : wt 4 k = 0 := by omega
    unfold wt at e0 e2 e4
    have : k = 0 ∨ k = 1 ∨ k = 2 ∨ k = 3 ∨ k = 4 ∨ k = 5 := by omega
    rcases this with rfl | rfl | rfl | rfl | rfl | rfl <;> simp at e0 e2 e4

theorem push_app (k : Int) (s r : St) : push k (s ++ r) = push k s ++ r := by unfold push; split <;> rfl
/-- a run that never closes its lowest group goes so over whatever group -/
theorem run_base (l : List Int) (h0 : (0 : Int) ∉ l) : ∀ (s : St) (n : Nat) (X : St), run (s ++ [(0, n)]) l = some X → X ≠ [] → ∃ s' d, X = s' ++ [(0, n + d)] ∧ ∀ g m r, run (s ++ (g, m) :: r) l = some (s' ++ (g, m + d) :: r) := by
  induction l with
  | nil =>
    intro s n X h _
    cases h
    exact ⟨s, 0, rfl, fun _ _ _ => rfl⟩
  | cons k t ih =>
    intro s n X h hX
    have hk : k ≠ 0 := fun e => h0 (by simp [e])
    have ht : (0 : Int) ∉ t := fun e => h0 (by simp [e])
    simp only [run] at h ⊢
    cases s with
    | nil =>
      simp only [List.nil_append, step, if_neg hk] at h ⊢
      cases hn : isNode k with
      | true =>
        simp only [hn, if_true, Option.bind_some] at h ⊢
        have e1 : push k [(0, n + 1)] = push k [] ++ [(0, n + 1)] := push_app k [] _
        rw [e1] at h
        obtain ⟨s', d, rfl, hr⟩ := ih ht _ _ _ h hX
        refine ⟨s', 1 + d, by rw [show n + 1 + d = n + (1 + d) by omega], fun g m r => ?_⟩
        have e2 : push k ((g, m + 1) :: r) = push k [] ++ (g, m + 1) :: r := push_app k [] _
        rw [e2, hr, show m + 1 + d = m + (1 + d) by omega]
      | false =>
        exfalso
        simp only [hn, Bool.false_eq_true, if_false] at h
        split at h
        · simp only [Option.bind_some] at h
          cases t with
          | nil => cases h; exact hX rfl
          | cons k2 t2 =>
            have hk2 : k2 ≠ 0 := fun e => ht (by simp [e])
            simp only [run, step, if_neg hk2, Option.bind_none] at h
            cases h
        · cases h
    | cons p s1 =>
      obtain ⟨g1, n1⟩ := p
      simp only [List.cons_append, step, if_neg hk] at h ⊢
      cases hn : isNode k with
      | true =>
        simp only [hn, if_true, Option.bind_some] at h ⊢
        have e1 : push k ((g1, n1 + 1) :: (s1 ++ [(0, n)])) = push k ((g1, n1 + 1) :: s1) ++ [(0, n)] := push_app k ((g1, n1 + 1) :: s1) _
        rw [e1] at h
        obtain ⟨s', d, rfl, hr⟩ := ih ht _ _ _ h hX
        refine ⟨s', d, rfl, fun g m r => ?_⟩
        have e2 : push k ((g1, n1 + 1) :: (s1 ++ (g, m) :: r)) = push k ((g1, n1 + 1) :: s1) ++ (g, m) :: r := push_app k ((g1, n1 + 1) :: s1) _
        rw [e2, hr]
      | false =>
        simp only [hn, Bool.false_eq_true, if_false] at h ⊢
        cases hc : closes g1 n1 k with
        | true =>
          simp only [hc, if_true, Option.bind_some] at h ⊢
          exact ih ht _ _ _ h hX
        | false =>
          simp only [hc, Bool.false_eq_true, if_false, Option.bind_none] at h
          cases h
/-- the one document of a row: its node -/
theorem one_doc (l : List Int) (h : nested l = true) (h1 : l.countP (fun k => decide (k = 0)) = 1) : ∃ nd, l = 0 :: nd ++ [1] ∧ (0 : Int) ∉ nd ∧ ∀ g m r, run ((g, m) :: r) nd = some ((g, m + 1) :: r) := by
  have h' := (nested_iff l).1 h
  cases l with
  | nil => simp at h1
  | cons k t =>
    simp only [run] at h'
    have hk : k = 0 := by
      rcases Classical.em (k = 0) with e | e
      · exact e
      · exfalso; simp only [step, if_neg e, Option.bind_none] at h'; cases h'
    subst hk
    simp only [step, if_true, Option.bind_some] at h'
    have h0 : (0 : Int) ∉ t := by
      rw [List.countP_cons] at h1
      simp only [decide_true, if_true] at h1
      have : t.countP (fun k => decide (k = 0)) = 0 := by omega
      rw [List.countP_eq_zero] at this
      intro e
      have := this 0 e
      simp at this
    rcases List.eq_nil_or_concat t with rfl | ⟨nd, x, rfl⟩
    · cases h'
    · rw [List.concat_eq_append] at *
      rw [run_app] at h'
      have h0' : (0 : Int) ∉ nd := fun e => h0 (by simp [e])
      cases hr : run [(0, 0)] nd with
      | none => rw [hr] at h'; cases h'
      | some X =>
        rw [hr] at h'
        simp only [Option.bind_some, run] at h'
        have hxx : x ≠ 0 := fun e => h0 (by simp [e])
        have hX : X ≠ [] := by
          rintro rfl
          simp only [step, if_neg hxx, Option.bind_none] at h'
          cases h'
        obtain ⟨s', d, rfl, hg⟩ := run_base nd h0' [] 0 X hr hX
        cases hs : step (s' ++ [(0, 0 + d)]) x with
        | none => rw [hs] at h'; cases h'
        | some Y =>
          rw [hs] at h'
          simp only [Option.bind_some] at h'
          obtain rfl : Y = [] := by cases h'; rfl
          have hs0 : s' = [] := by
            have hc := step_wt 0 (by simp) _ _ _ hs
            cases s' with
            | nil => rfl
            | cons p s2 =>
              exfalso
              obtain ⟨g1, n1⟩ := p
              simp only [List.cons_append, step, if_neg hxx] at hs
              split at hs
              · unfold push at hs; split at hs <;> simp at hs
              · split at hs <;> simp at hs
          subst hs0
          simp only [List.nil_append] at hs hg
          simp only [step, if_neg hxx] at hs
          split at hs
          · unfold push at hs; split at hs <;> simp at hs
          · split at hs
            · rename_i _ hc
              simp only [closes, Bool.or_eq_true, Bool.and_eq_true, decide_eq_true_eq] at hc
              have hx1 : x = 1 ∧ d = 1 := by omega
              obtain ⟨rfl, rfl⟩ := hx1
              exact ⟨nd, rfl, h0', hg⟩
            · cases hs
def reps (n : Nat) (nd : List Int) : List Int := (List.replicate n nd).flatten
theorem reps_succ (n : Nat) (nd : List Int) : reps (n + 1) nd = nd ++ reps n nd := by simp [reps, List.replicate_succ]
theorem run_reps (nd : List Int) (hg : ∀ g m r, run ((g, m) :: r) nd = some ((g, m + 1) :: r)) (n : Nat) : ∀ g m r, run ((g, m) :: r) (reps n nd) = some ((g, m + n) :: r) := by
  induction n with
  | zero => intro g m r; rfl
  | succ n ih =>
    intro g m r
    rw [reps_succ, run_app, hg, Option.bind_some, ih, show m + 1 + n = m + (n + 1) by omega]
/-- a node so often in a list, or a map -/
theorem wrap_nested (nd : List Int) (hg : ∀ g m r, run ((g, m) :: r) nd = some ((g, m + 1) :: r)) (n : Nat) (k : Int) (hk : k = 2 ∨ k = 4) : nested ([0, k] ++ reps n nd ++ [k + 1, 1]) = (decide (k = 2) || decide (n % 2 = 0)) := by
  unfold nested
  have e : run [] ([0, k] ++ reps n nd ++ [k + 1, 1]) = run [(k, n), (0, 1)] [k + 1, 1] := by
    rw [run_app, run_app]
    have e1 : run [] [0, k] = some [(k, 0), (0, 1)] := by rcases hk with rfl | rfl <;> rfl
    rw [e1, Option.bind_some, run_reps nd hg]
    simp
  rw [e]
  rcases hk with rfl | rfl
  · rfl
  · rcases Nat.mod_two_eq_zero_or_one n with h | h
    · simp [run, step, isNode, closes, h]
    · simp [run, step, isNode, closes, h]
theorem dsum_reps (nd : List Int) (h : dsum nd = 0) (n : Nat) : dsum (reps n nd) = 0 := by
  induction n with
  | zero => rfl
  | succ n ih => rw [reps_succ, dsum_app, h, ih]; rfl
theorem dmax_reps (nd : List Int) (h : dsum nd = 0) (n : Nat) (hn : 0 < n) : dmax (reps n nd) = dmax nd := by
  induction n with
  | zero => omega
  | succ n ih =>
    rw [reps_succ, dmax_app, h]
    have := dmax_nonneg nd
    rcases Nat.eq_zero_or_pos n with rfl | hp
    · simp only [reps, List.replicate_zero, List.flatten_nil, dmax]; omega
    · rw [ih hp]; omega
theorem dmax_wrap (nd : List Int) (h : dsum nd = 0) (n : Nat) (hn : 0 < n) (k : Int) (hk : k = 2 ∨ k = 4) : dmax ([0, k] ++ reps n nd ++ [k + 1, 1]) = 1 + dmax nd := by
  rw [dmax_app, dmax_app, dsum_app, dmax_reps nd h n hn, dsum_reps nd h n]
  have := dmax_nonneg nd
  rcases hk with rfl | rfl <;> simp only [dmax, dsum, dstep] <;> simp <;> omega
theorem dmax_doc (nd : List Int) (h : dsum nd = 0) : dmax (0 :: nd ++ [1]) = dmax nd := by
  rw [List.cons_append]
  simp only [dmax]
  rw [dmax_app, h]
  have := dmax_nonneg nd
  simp only [dmax, dstep]; simp; omega
theorem dsum_doc (nd : List Int) (h : nested (0 :: nd ++ [1]) = true) : dsum nd = 0 := by
  have := (nested_sums _ h).1
  rw [List.cons_append] at this
  simp only [dsum, dsum_app, dstep] at this
  simp at this
  exact this
end Ev
end Go.Proofs.YtbimjdlkffbncaaDoor
