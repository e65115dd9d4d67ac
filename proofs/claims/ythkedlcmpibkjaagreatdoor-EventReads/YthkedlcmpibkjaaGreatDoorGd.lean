/-
  Plain mathematics, no program's run in it: rows of kinds, each innermost node put in the place of its parts: what is left says whether they nest.
  Rows of integers that a call owns; the walk of the document's reduce.
  The walk of the document's reduce.
-/
import Derived.Test.YthkedlcmpibkjaaGreatDoorVa
import Derived.Test.YthkedlcmpibkjaaGreatDoorGb
namespace Go.Proofs.YthkedlcmpibkjaaGreatDoor
namespace Ev
/-- how many scalars stand ahead -/
def six (t : List Int) : Nat := (t.takeWhile fun k => decide (k = 6)).length
def redC (g : Int) (n : Nat) (x : Int) : Bool := (decide (g = 2) && decide (x = 3)) || (decide (g = 4) && (decide (x = 5) && decide (n % 2 = 0)))
/-- the first innermost node, in one -/
def red (pre : List Int) : List Int → List Int
  | [] => pre
  | g :: t => if six t = t.length then pre ++ g :: t else if redC g (six t) (t.getD (six t) 0) then pre ++ 6 :: t.drop (six t + 1) else red (pre ++ [g]) t
theorem six_le (t : List Int) : six t ≤ t.length := by
  unfold six
  exact (List.takeWhile_sublist _).length_le
theorem six_cons (k : Int) (t : List Int) : six (k :: t) = if k = 6 then six t + 1 else 0 := by
  unfold six
  by_cases h : k = 6
  · subst h; simp
  · simp [h]
theorem six_split (t : List Int) (h : six t < t.length) : t = List.replicate (six t) 6 ++ t.getD (six t) 0 :: t.drop (six t + 1) ∧ t.getD (six t) 0 ≠ 6 := by
  induction t with
  | nil => simp at h
  | cons k t ih =>
    rw [six_cons] at h ⊢
    by_cases hk : k = 6
    · rw [if_pos hk] at h ⊢
      simp only [List.length_cons] at h
      obtain ⟨h1, h2⟩ := ih (by omega)
      subst hk
      refine ⟨?_, by simpa using h2⟩
      rw [List.replicate_succ]
      simp only [List.cons_append, List.getD_cons_succ, List.drop_succ_cons]
      exact congrArg _ h1
    · rw [if_neg hk]
      simp [hk]
theorem six_all (t : List Int) (h : six t = t.length) : ∀ k ∈ t, k = 6 := by
  induction t with
  | nil => intro k hk; cases hk
  | cons x t ih =>
    rw [six_cons] at h
    by_cases hx : x = 6
    · rw [if_pos hx, List.length_cons] at h
      intro k hk
      rcases List.mem_cons.1 hk with rfl | hk
      · exact hx
      · exact ih (by omega) k hk
    · rw [if_neg hx, List.length_cons] at h; omega
theorem six_of_all (t : List Int) (h : ∀ k ∈ t, k = 6) : six t = t.length := by
  induction t with
  | nil => rfl
  | cons x t ih => rw [six_cons, if_pos (h x (by simp)), ih (fun k hk => h k (by simp [hk])), List.length_cons]
theorem run_six (n : Nat) : ∀ (g : Int) (m : Nat) (r : St) (l : List Int), run ((g, m) :: r) (List.replicate n 6 ++ l) = run ((g, m + n) :: r) l := by
  induction n with
  | zero => intro g m r l; rfl
  | succ n ih =>
    intro g m r l
    rw [List.replicate_succ, List.cons_append]
    have e : run ((g, m) :: r) (6 :: (List.replicate n 6 ++ l)) = run ((g, m + 1) :: r) (List.replicate n 6 ++ l) := rfl
    rw [e, ih, show m + 1 + n = m + (n + 1) by omega]
theorem run_red (st : St) (g x : Int) (n : Nat) (post : List Int) (h : redC g n x = true) : run st (g :: (List.replicate n 6 ++ x :: post)) = run st (6 :: post) := by
  cases st with
  | nil =>
    have hg : g ≠ 0 := by
      unfold redC at h
      simp only [Bool.or_eq_true, Bool.and_eq_true, decide_eq_true_eq] at h
      omega
    simp only [run, step, if_neg hg, show ¬ (6 : Int) = 0 by decide, if_false, Option.bind_none]
  | cons p r =>
    obtain ⟨g0, m⟩ := p
    unfold redC at h
    simp only [Bool.or_eq_true, Bool.and_eq_true, decide_eq_true_eq] at h
    have e6 : run ((g0, m) :: r) (6 :: post) = run ((g0, m + 1) :: r) post := rfl
    rw [e6]
    rcases h with ⟨rfl, rfl⟩ | ⟨rfl, rfl, hn⟩
    · have e : run ((g0, m) :: r) (2 :: (List.replicate n 6 ++ 3 :: post)) = run ((2, 0) :: (g0, m + 1) :: r) (List.replicate n 6 ++ 3 :: post) := rfl
      rw [e, run_six]
      rfl
    · have e : run ((g0, m) :: r) (4 :: (List.replicate n 6 ++ 5 :: post)) = run ((4, 0) :: (g0, m + 1) :: r) (List.replicate n 6 ++ 5 :: post) := rfl
      rw [e, run_six]
      have hc : closes 4 (0 + n) 5 = true := by simp [closes, hn]
      have hi : isNode 5 = false := by decide
      simp only [run, step, hi, hc, if_true, show ¬ (5 : Int) = 0 by decide, if_false, Bool.false_eq_true, Option.bind_some]
theorem red_run (l : List Int) : ∀ (pre : List Int) (st : St), run st (red pre l) = run st (pre ++ l) := by
  induction l with
  | nil => intro pre st; simp [red]
  | cons g t ih =>
    intro pre st
    unfold red
    split
    · rfl
    · rename_i h6
      split
      · rename_i hc
        have hlt : six t < t.length := by have := six_le t; omega
        obtain ⟨hs, _⟩ := six_split t hlt
        rw [run_app, run_app]
        congr 1
        funext st'
        have := run_red st' g (t.getD (six t) 0) (six t) (t.drop (six t + 1)) hc
        rw [← hs] at this
        exact this.symm
      · rw [ih, List.append_assoc]; rfl
theorem red_nested (l : List Int) : nested (red [] l) = nested l := by
  unfold nested
  rw [red_run l [] []]
  rfl
/-- no node can be put in one -/
def NoRed (l : List Int) : Prop := ∀ a g t, l = a ++ g :: t → six t = t.length ∨ redC g (six t) (t.getD (six t) 0) = false
theorem red_len (l : List Int) : ∀ pre, (red pre l).length ≤ pre.length + l.length := by
  induction l with
  | nil => intro pre; simp [red]
  | cons g t ih =>
    intro pre
    unfold red
    split
    · simp
    · split
      · simp only [List.length_append, List.length_cons, List.length_drop]; have := six_le t; omega
      · have := ih (pre ++ [g])
        simp only [List.length_append, List.length_cons, List.length_nil] at this ⊢; omega
theorem red_fix (l : List Int) : ∀ pre, (red pre l).length = pre.length + l.length → red pre l = pre ++ l ∧ NoRed l := by
  induction l with
  | nil =>
    intro pre _
    exact ⟨by simp [red], fun a g t h => by simp at h⟩
  | cons g t ih =>
    intro pre h
    unfold red at h ⊢
    split
    · rename_i h6
      refine ⟨rfl, fun a g' t' e => .inl ?_⟩
      have hall := six_all t h6
      cases a with
      | nil => simp only [List.nil_append, List.cons.injEq] at e; rw [← e.2]; exact h6
      | cons x a =>
        simp only [List.cons_append, List.cons.injEq] at e
        exact six_of_all t' fun k hk => hall k (by rw [e.2]; simp [hk])
    · rename_i h6
      rw [if_neg h6] at h
      split
      · rename_i hc
        rw [if_pos hc] at h
        exfalso
        have hlt : six t < t.length := by have := six_le t; omega
        simp only [List.length_append, List.length_cons, List.length_drop] at h
        omega
      · rename_i hc
        rw [if_neg hc] at h
        obtain ⟨h1, h2⟩ := ih (pre ++ [g]) (by simp only [List.length_append, List.length_cons, List.length_nil] at h ⊢; omega)
        refine ⟨by rw [h1]; simp, fun a g' t' e => ?_⟩
        cases a with
        | nil =>
          simp only [List.nil_append, List.cons.injEq] at e
          obtain ⟨rfl, rfl⟩ := e
          exact .inr (by simpa using hc)
        | cons x a =>
          simp only [List.cons_append, List.cons.injEq] at e
          exact h2 a g' t' e.2
theorem red_mem (l : List Int) : ∀ pre k, k ∈ red pre l → k = 6 ∨ k ∈ pre ++ l := by
  induction l with
  | nil => intro pre k h; right; simpa [red] using h
  | cons g t ih =>
    intro pre k h
    unfold red at h
    split at h
    · exact .inr h
    · split at h
      · simp only [List.mem_append, List.mem_cons] at h
        rcases h with h | h | h
        · exact .inr (by simp [h])
        · exact .inl h
        · exact .inr (by simp [List.mem_of_mem_drop h])
      · rcases ih _ _ h with h | h
        · exact .inl h
        · exact .inr (by simpa using h)
theorem last_open (l : List Int) (h : ∃ k ∈ l, k = 2 ∨ k = 4) : ∃ a g t, l = a ++ g :: t ∧ (g = 2 ∨ g = 4) ∧ ∀ k ∈ t, k ≠ 2 ∧ k ≠ 4 := by
  induction l with
  | nil => obtain ⟨k, hk, _⟩ := h; cases hk
  | cons x t ih =>
    by_cases ht : ∃ k ∈ t, k = 2 ∨ k = 4
    · obtain ⟨a, g, t', e, hg, hn⟩ := ih ht
      exact ⟨x :: a, g, t', by rw [e]; rfl, hg, hn⟩
    · obtain ⟨k, hk, h24⟩ := h
      rcases List.mem_cons.1 hk with rfl | hk
      · exact ⟨[], k, t, rfl, h24, fun y hy => ⟨fun e => ht ⟨y, hy, .inl e⟩, fun e => ht ⟨y, hy, .inr e⟩⟩⟩
      · exact absurd ⟨k, hk, h24⟩ ht
/-- a row that nests, in which no node can be put in one, has no list and no map -/
theorem no_open (l : List Int) (hn : run [] l = some []) (hr : NoRed l) (h7 : (7 : Int) ∉ l) : ∀ k ∈ l, k ≠ 2 ∧ k ≠ 4 := by
  intro k hk
  refine ⟨fun e => ?_, fun e => ?_⟩ <;>
  · exfalso
    obtain ⟨a, g, t, rfl, hg, hno⟩ := last_open l ⟨k, hk, by omega⟩
    rw [run_app] at hn
    cases ha : run [] a with
    | none => rw [ha] at hn; cases hn
    | some st1 =>
      rw [ha, Option.bind_some] at hn
      simp only [run] at hn
      have hg0 : g ≠ 0 := by omega
      cases st1 with
      | nil => simp only [step, if_neg hg0, Option.bind_none] at hn; cases hn
      | cons p r =>
        obtain ⟨g0, m⟩ := p
        have hstep : step ((g0, m) :: r) g = some ((g, 0) :: (g0, m + 1) :: r) := by rcases hg with rfl | rfl <;> rfl
        rw [hstep, Option.bind_some] at hn
        have hsix := six_le t
        rcases Nat.lt_or_ge (six t) t.length with hlt | hge
        · obtain ⟨hs, hx6⟩ := six_split t hlt
          have hcond := (hr a g t rfl).resolve_left (by omega)
          have hxm : t.getD (six t) 0 ∈ t := by rw [List.getD_eq_getElem?_getD, List.getElem?_eq_getElem hlt]; exact List.getElem_mem hlt
          generalize t.getD (six t) 0 = x at *
          rw [hs, run_six] at hn
          simp only [run, step] at hn
          have h2 := hno x hxm
          have h77 : x ≠ 7 := fun e => h7 (by simp [← e, hxm])
          by_cases hx0 : x = 0
          · rw [if_pos hx0] at hn; cases hn
          · rw [if_neg hx0] at hn
            have hnode : isNode x = false := by unfold isNode; simp; omega
            rw [hnode] at hn
            simp only [Bool.false_eq_true, if_false] at hn
            by_cases hc : closes g (0 + six t) x = true
            · unfold closes at hc
              unfold redC at hcond
              simp only [Bool.or_eq_true, Bool.and_eq_true, decide_eq_true_eq] at hc
              simp only [Bool.or_eq_false_iff, Bool.and_eq_false_iff, decide_eq_false_iff_not] at hcond
              omega
            · rw [if_neg hc] at hn; cases hn
        · have hall := six_all t (by omega)
          have ht : t = List.replicate t.length 6 := List.eq_replicate_of_mem hall
          have := run_six t.length g 0 ((g0, m + 1) :: r) []
          rw [List.append_nil, ← ht] at this
          rw [this] at hn
          cases hn
/-- begin, scalar, end, over and over -/
def want (i : Nat) : Int := if i % 3 = 0 then 0 else if i % 3 = 1 then 6 else 1
def chk : Nat → List Int → Bool
  | _, [] => true
  | i, k :: t => decide (k = want i) && chk (i + 1) t
theorem chk_of (l : List Int) (hk : ∀ k ∈ l, k ≠ 2 ∧ k ≠ 4 ∧ k ≠ 7) :
    (run [] l = some [] → ∀ i, i % 3 = 0 → chk i l = true ∧ l.length % 3 = 0) ∧ (run [(0, 0)] l = some [] → ∀ i, i % 3 = 1 → chk i l = true ∧ l.length % 3 = 2) ∧
    (run [(0, 1)] l = some [] → ∀ i, i % 3 = 2 → chk i l = true ∧ l.length % 3 = 1) ∧ (∀ n, 2 ≤ n → run [(0, n)] l ≠ some []) := by
  induction l with
  | nil =>
    refine ⟨fun _ i _ => ⟨rfl, rfl⟩, fun h => ?_, fun h => ?_, fun n _ h => ?_⟩
    · cases h
    · cases h
    · cases h
  | cons k t ih =>
    obtain ⟨i0, i1, i2, i3⟩ := ih fun x hx => hk x (by simp [hx])
    have hk' := hk k (by simp)
    refine ⟨fun h i hi => ?_, fun h i hi => ?_, fun h i hi => ?_, fun n hn h => ?_⟩
    · simp only [run, step] at h
      by_cases k0 : k = 0
      · rw [if_pos k0, Option.bind_some] at h
        obtain ⟨a, b⟩ := i1 h (i + 1) (by omega)
        refine ⟨?_, by rw [List.length_cons]; omega⟩
        simp only [chk, want, hi, if_true, k0, decide_true, Bool.true_and]
        exact a
      · rw [if_neg k0] at h; cases h
    · simp only [run, step] at h
      by_cases k0 : k = 0
      · rw [if_pos k0] at h; cases h
      · rw [if_neg k0] at h
        by_cases k6 : k = 6
        · have hno : isNode k = true := by subst k6; rfl
          have hpu : push k [(0, 0 + 1)] = [(0, 1)] := by subst k6; rfl
          rw [hno, if_pos rfl, hpu, Option.bind_some] at h
          obtain ⟨a, b⟩ := i2 h (i + 1) (by omega)
          refine ⟨?_, by rw [List.length_cons]; omega⟩
          simp only [chk, want, hi, show ¬ (1 : Nat) = 0 by decide, if_false, if_true, k6, decide_true, Bool.true_and]
          exact a
        · have hno : isNode k = false := by unfold isNode; simp; omega
          have hcl : closes 0 0 k = false := by simp [closes]
          rw [hno, hcl] at h
          simp at h
    · simp only [run, step] at h
      by_cases k0 : k = 0
      · rw [if_pos k0] at h; cases h
      · rw [if_neg k0] at h
        by_cases k6 : k = 6
        · have hno : isNode k = true := by subst k6; rfl
          have hpu : push k [(0, 1 + 1)] = [(0, 2)] := by subst k6; rfl
          rw [hno, if_pos rfl, hpu, Option.bind_some] at h
          exact absurd h (i3 2 (by omega))
        · have hno : isNode k = false := by unfold isNode; simp; omega
          by_cases k1 : k = 1
          · have hcl : closes 0 1 k = true := by subst k1; rfl
            rw [hno, hcl] at h
            simp only [Bool.false_eq_true, if_false, if_true, Option.bind_some] at h
            obtain ⟨a, b⟩ := i0 h (i + 1) (by omega)
            refine ⟨?_, by rw [List.length_cons]; omega⟩
            simp only [chk, want, hi, show ¬ (2 : Nat) = 0 by decide, show ¬ (2 : Nat) = 1 by decide, if_false, k1, decide_true, Bool.true_and]
            exact a
          · have hcl : closes 0 1 k = false := by simp [closes, k1]
            rw [hno, hcl] at h
            simp at h
    · simp only [run, step] at h
      by_cases k0 : k = 0
      · rw [if_pos k0] at h; cases h
      · rw [if_neg k0] at h
        by_cases k6 : k = 6
        · have hno : isNode k = true := by subst k6; rfl
          have hpu : push k [(0, n + 1)] = [(0, n + 1)] := by subst k6; rfl
          rw [hno, if_pos rfl, hpu, Option.bind_some] at h
          exact absurd h (i3 (n + 1) (by omega))
        · have hno : isNode k = false := by unfold isNode; simp; omega
          have hcl : closes 0 n k = false := by simp [closes]; omega
          rw [hno, hcl] at h
          simp at h
theorem of_chk (l : List Int) : (∀ i, i % 3 = 0 → chk i l = true → l.length % 3 = 0 → run [] l = some []) ∧ (∀ i, i % 3 = 1 → chk i l = true → l.length % 3 = 2 → run [(0, 0)] l = some []) ∧ (∀ i, i % 3 = 2 → chk i l = true → l.length % 3 = 1 → run [(0, 1)] l = some []) := by
  induction l with
  | nil => exact ⟨fun _ _ _ _ => rfl, fun _ _ _ h => by simp at h, fun _ _ _ h => by simp at h⟩
  | cons k t ih =>
    obtain ⟨i0, i1, i2⟩ := ih
    refine ⟨fun i hi h hl => ?_, fun i hi h hl => ?_, fun i hi h hl => ?_⟩
    · simp only [chk, want, hi, if_true, Bool.and_eq_true, decide_eq_true_eq] at h
      obtain ⟨rfl, h⟩ := h
      rw [List.length_cons] at hl
      exact i1 (i + 1) (by omega) h (by omega)
    · simp only [chk, want, hi, show ¬ (1 : Nat) = 0 by decide, if_false, if_true, Bool.and_eq_true, decide_eq_true_eq] at h
      obtain ⟨rfl, h⟩ := h
      rw [List.length_cons] at hl
      exact i2 (i + 1) (by omega) h (by omega)
    · simp only [chk, want, hi, show ¬ (2 : Nat) = 0 by decide, show ¬ (2 : Nat) = 1 by decide, if_false, Bool.and_eq_true, decide_eq_true_eq] at h
      obtain ⟨rfl, h⟩ := h
      rw [List.length_cons] at hl
      exact i0 (i + 1) (by omega) h (by omega)
/-- WHAT IS LEFT SAYS WHETHER THEY NEST -/
theorem nested_chk (l : List Int) (hr : NoRed l) (h7 : (7 : Int) ∉ l) : nested l = (chk 0 l && decide (l.length % 3 = 0)) := by
  rw [Bool.eq_iff_iff, nested_iff, Bool.and_eq_true, decide_eq_true_eq]
  constructor
  · intro h
    have hno := no_open l h hr h7
    exact (chk_of l fun k hk => ⟨(hno k hk).1, (hno k hk).2, fun e => h7 (e ▸ hk)⟩).1 h 0 rfl
  · rintro ⟨h1, h2⟩
    exact (of_chk l).1 0 rfl h1 h2
/-- an alias counts as a scalar -/
def plainK (k : Int) : Int := if k = 7 then 6 else k
theorem step_plain (st : St) (k : Int) : step st (plainK k) = step st k := by
  unfold plainK
  split
  · rename_i h
    subst h
    cases st with
    | nil => rfl
    | cons p r => rfl
  · rfl
theorem run_plain (l : List Int) : ∀ st, run st (l.map plainK) = run st l := by
  induction l with
  | nil => intro st; rfl
  | cons k t ih =>
    intro st
    simp only [List.map_cons, run, step_plain]
    congr 1
    funext st'
    exact ih st'
theorem nested_plain (l : List Int) : nested (l.map plainK) = nested l := by
  unfold nested; rw [run_plain]
theorem plain_no (l : List Int) : (7 : Int) ∉ l.map plainK := by
  intro h
  obtain ⟨k, _, hk⟩ := List.mem_map.1 h
  unfold plainK at hk
  split at hk <;> omega
end Ev
end Go.Proofs.YthkedlcmpibkjaaGreatDoor
namespace Go.Proofs.YthkedlcmpibkjaaGreatDoor
namespace Ev
theorem six_step (t : List Int) (q : Nat) (h : q ≤ six t) : (q < six t → ∃ hq : q < t.length, t[q] = 6) ∧ (¬ q < six t → (q = t.length ∧ six t = t.length) ∨ (q = six t ∧ ∃ hq : q < t.length, t[q] ≠ 6 ∧ t.getD (six t) 0 = t[q])) := by
  have hle := six_le t
  refine ⟨fun hq => ?_, fun hq => ?_⟩
  · have hl : q < t.length := by omega
    refine ⟨hl, ?_⟩
    rcases Nat.lt_or_ge (six t) t.length with hs | hs
    · have he := (six_split t hs).1
      have h1 : t[q]? = some 6 := by
        rw [he, List.getElem?_append_left (by simp; exact hq), List.getElem?_replicate, if_pos hq]
      rw [List.getElem?_eq_getElem hl] at h1
      exact Option.some.inj h1
    · exact six_all t (by omega) _ (List.getElem_mem hl)
  · have e : q = six t := by omega
    rcases Nat.lt_or_ge (six t) t.length with hs | hs
    · right
      refine ⟨e, by omega, ?_⟩
      have hx := (six_split t hs).2
      have hg : t.getD (six t) 0 = t[q]'(by omega) := by
        rw [List.getD_eq_getElem?_getD, ← e, List.getElem?_eq_getElem (by omega)]; rfl
      exact ⟨by rw [← hg]; exact hx, hg⟩
    · left; omega
end Ev
open Go.RowKit
def zC (l : List Int) : List Value := l.map fun r => Value.int .i64 r
theorem zC_len (l : List Int) : (zC l).length = l.length := List.length_map _
theorem zC_app (a b : List Int) : zC (a ++ b) = zC a ++ zC b := List.map_append
theorem zC_one (l : List Int) : ∀ u ∈ zC l, u.oneCell' = true := fun u hu => by
  obtain ⟨r, _, rfl⟩ := List.mem_map.1 hu; rfl
/-- a row of integers that the call owns -/
def OwnZ (w : World) (B : Nat) (v : Value) (l : List Int) : Prop := w.ownsRow B 3 1 v l.length (zC l)
theorem OwnZ.below {w w' : World} {B : Nat} {v : Value} {l : List Int} (h : OwnZ w B v l) (hb : Below w.heap.size w w') : OwnZ w' B v l := row_below h hb
theorem OwnZ.mono {w : World} {B B' : Nat} {v : Value} {l : List Int} (h : OwnZ w B v l) (hb : B' ≤ B) : OwnZ w B' v l := by
  obtain ⟨h1, h2⟩ := h
  refine ⟨h1, ?_⟩
  rcases h2 with h2 | ⟨g, c, cur, h3, h4, h5⟩
  · exact .inl h2
  · exact .inr ⟨g, c, cur, h3, Nat.le_trans hb h4, h5⟩
def NewsZ (w : World) (ad : Addr) (l : List Int) : Prop := ∀ j u, (zC l)[j]? = some u → w.cell? (ad.add j) = some u
theorem NewsZ.below {w w' : World} {B g o : Nat} {l : List Int} (h : NewsZ w ⟨g, o, none⟩ l) (hb : Below B w w') (hg : g < B) : NewsZ w' ⟨g, o, none⟩ l := fun j u hu => by
  have := h j u hu
  rw [Addr.add_lit] at this ⊢
  exact (hb.cell (p := ⟨g, o + j, none⟩) hg).trans this
theorem NewsZ.nil (w : World) (ad : Addr) : NewsZ w ad [] := fun j u hu => by simp [zC] at hu
theorem NewsZ.take {w : World} {ad : Addr} {l : List Int} (h : NewsZ w ad l) (k : Nat) : NewsZ w ad (l.take k) := fun j u hu => h j u (by
  have hj : j < (zC (l.take k)).length := (List.getElem?_eq_some_iff.1 hu).1
  have : zC l = zC (l.take k) ++ zC (l.drop k) := by rw [← zC_app, List.take_append_drop]
  rw [this, List.getElem?_append_left hj]; exact hu)
theorem NewsZ.drop0 {w : World} {g : Nat} {l : List Int} (h : NewsZ w ⟨g, 0, none⟩ l) (k : Nat) (hk : k ≤ l.length) : NewsZ w ⟨g, k, none⟩ (l.drop k) := fun j u hu => by
  have e : zC l = zC (l.take k) ++ zC (l.drop k) := by rw [← zC_app, List.take_append_drop]
  have hlen : (zC (l.take k)).length = k := by rw [zC_len, List.length_take, Nat.min_eq_left hk]
  have := h (k + j) u (by rw [e, List.getElem?_append_right (by omega), hlen, Nat.add_sub_cancel_left]; exact hu)
  rw [Addr.add_lit] at this ⊢
  rwa [Nat.zero_add] at this
theorem newsZ_at {w : World} {g : Nat} {l : List Int} (h : NewsZ w ⟨g, 0, none⟩ l) (k : Nat) (hk : k < l.length) : w.cell? ⟨g, k, none⟩ = some (.int .i64 l[k]) := by
  have := h k (.int .i64 l[k]) (by unfold zC; rw [List.getElem?_map, List.getElem?_eq_getElem hk]; rfl)
  rwa [Addr.add_lit, Nat.zero_add] at this
theorem ownZ_form {w : World} {B : Nat} {v : Value} {l : List Int} (h : OwnZ w B v l) (hn : 0 < l.length) :
    ∃ g c, v = .slice (some ⟨g, 0, none⟩) l.length c ∧ l.length ≤ c ∧ g < w.heap.size ∧ NewsZ w ⟨g, 0, none⟩ l := by
  have h' := h
  rcases h.2 with ⟨_, h0⟩ | ⟨g, c, cur, rfl, hB, hh, hnc, hr⟩
  · omega
  · exact ⟨g, c, rfl, hnc, (Array.getElem?_eq_some_iff.1 hh).1, World.ownsRow.cells h' (g := g) rfl⟩
theorem newsZ_blk {w : World} {b : Nat} {C : Array Value} {t : TypeId} {fr : Nat × Nat} {l : List Int} (h : w.heap[b]? = some (.cells C t fr)) (hc : C.toList = zC l) : NewsZ w ⟨b, 0, none⟩ l := fun j u hu => by
  rw [Addr.add_lit, Nat.zero_add]
  refine cell_blk h j u ?_
  rw [← Array.getElem?_toList, hc]; exact hu
theorem ownZ_empty (w : World) : OwnZ (w.alloc (.cells #[] 3)) w.heap.size (.slice (some ⟨w.heap.size, 0, none⟩) 0 0) [] :=
  ⟨rfl, .inr ⟨w.heap.size, 0, #[], rfl, Nat.le_refl _, alloc_blk w _, Nat.le_refl _, by decide, rfl, rfl⟩⟩
theorem wpList_appZ {ops : Array Oper} {rest : List Oper} {o : Oper} {a : Act} {w : World} {Q : Exit → Act → World → Prop} (hgd : o.guard = none) (s x : Operand)
    (ho : o.op = .call { callee := .builtin .append, args := #[s, x], argTypes := #[72, 72] }) (B : Nat) (v : Value) (xs ys : List Int) (ad : Addr) (m c : Nat) (hs : a.eval s = v) (hx : a.eval x = .slice (some ad) m c)
    (hv : OwnZ w B v xs) (hm : m = ys.length) (hn : NewsZ w ad ys) (hl : xs.length + ys.length ≤ 1000000000) (hB : B ≤ w.heap.size)
    (h : ∀ v' w', OwnZ w' B v' (xs ++ ys) → Below B w w' → wpList Tryz.prog ops Q rest (a.put o.dst v') w') : wpList Tryz.prog ops Q (o :: rest) a w := by
  obtain ⟨i0, hi, hz0, hz1, hz2⟩ := info_parts info3
  subst hm
  refine wpList_append_own _ hgd s x 72 ho B 3 i0 _ 1 8 Tryz.underlying72 hi hz0 hz1 hz2 rfl (by decide) v xs.length (zC xs) hs hv ad ys.length c (zC ys) hx (by rw [zC_len, Nat.mul_one]) hn (zC_one ys) (by simp only [maxLen]; omega) (by omega) hB ?_
  intro v' w' ho' hg _
  refine h v' w' ?_ ((Below.refl B w).grown hg hB (fun k hk => (World.ownsRow.lt hv k hk).1))
  unfold OwnZ
  rw [List.length_append, zC_app]; exact ho'
end Go.Proofs.YthkedlcmpibkjaaGreatDoor
namespace Go.Proofs.YthkedlcmpibkjaaGreatDoor
open Go.RowKit
theorem par0 (q : Nat) (h : q % 2 = 0) : (q : Int) % 2 = 0 ∧ (q : Int).tmod 2 = 0 := by
  have e : (q : Int) % 2 = 0 := by omega
  exact ⟨e, by rw [Int.tmod_eq_emod_of_nonneg (by omega)]; exact e⟩
theorem par1 (q : Nat) (h : ¬ q % 2 = 0) : (q : Int) % 2 = 1 ∧ (q : Int).tmod 2 = 1 := by
  have e : (q : Int) % 2 = 1 := by omega
  exact ⟨e, by rw [Int.tmod_eq_emod_of_nonneg (by omega)]; exact e⟩
theorem fits64 (q : Nat) (h : q ≤ 1000000) : -9223372036854775808 ≤ (q : Int) ∧ (q : Int) ≤ 9223372036854775807 := by omega

set_option maxHeartbeats 8000000 in
set_option maxRecDepth 100000 in
theorem reduce_any (v : Value) (l : List Int) (B : Nat) (w : World) (hv : OwnZ w B v l) (hB : B ≤ w.heap.size) (hl : l.length ≤ 100000) :
    Calls Tryz.prog 49 #[v] w fun e w' => (∃ u, e = .returned u ∧ OwnZ w' B u (Ev.red [] l)) ∧ Below w.heap.size w w' := by
  have HF : Hid (0 < l.length → ∃ g c, v = .slice (some ⟨g, 0, none⟩) l.length c ∧ l.length ≤ c ∧ g < w.heap.size ∧ NewsZ w ⟨g, 0, none⟩ l) := fun h => ownZ_form hv h
  obtain ⟨a, c, rfl⟩ := own_slice hv
  have HV := Lib.hid hv
  obtain ⟨ANS, hANS⟩ : ∃ ANS, Ev.red [] l = ANS := ⟨_, rfl⟩
  rw [hANS]
  have HA : Hid (Ev.red (l.take 0) (l.drop 0) = ANS) := hANS
  clear hv hANS
  go_enter Tryz.func49, Tryz.ntmps49
  go_wp2
  go_loop [3] (fun i => ∃ j : Nat, j ≤ l.length ∧ i = .int .i64 j ∧ Hid (Ev.red (l.take j) (l.drop j) = ANS)) (fun i => l.length - (intOf i).toNat)
  case atStart => exact ⟨0, by omega, rfl, HA⟩
  case round =>
    obtain ⟨j, hj, rfl, HK⟩ := hrel
    clear HA
    by_cases hlt : j < l.length
    · obtain ⟨g, c', hvv, hc, hg, hN⟩ := HF.out (by omega)
      simp only [Value.slice.injEq] at hvv
      obtain ⟨rfl, _, rfl⟩ := hvv
      have hK := HK.out
      rw [List.drop_eq_getElem_cons hlt] at hK
      unfold Ev.red at hK
      have cj := newsZ_at hN j hlt
      have hts : l.take (j + 1) = l.take j ++ [l[j]] := List.take_succ_eq_append_getElem hlt
      have HN := Lib.hid hN
      obtain ⟨t, ht⟩ : ∃ t, t = l.drop (j + 1) := ⟨_, rfl⟩
      rw [← ht] at hK
      have htl : t.length = l.length - (j + 1) := by rw [ht, List.length_drop]
      have HTQ : Hid (∀ q (h : q < t.length) (h' : j + 1 + q < l.length), t[q] = l[j + 1 + q]) := fun q h h' => by
        have e : t[q]? = l[j + 1 + q]? := by rw [ht, List.getElem?_drop]
        rw [List.getElem?_eq_getElem h, List.getElem?_eq_getElem h'] at e
        exact Option.some.inj e
      have HTD : Hid (∀ q, t.drop (q + 1) = l.drop (j + 1 + q + 1)) := fun q => by rw [ht, List.drop_drop]; rfl
      have HLW : Hid (l.take j ++ l[j] :: t = l) := by show _ = _; rw [ht, ← List.drop_eq_getElem_cons hlt, List.take_append_drop]
      have htj : (l.take j).length = j := by rw [List.length_take]; omega
      have HTE := Lib.hid ht
      clear hN HK ht
      generalize l[j] = G at *
      go_wp2
      go_loop [4] (fun k => ∃ q : Nat, q ≤ Ev.six t ∧ k = .int .i64 ((j + 1 + q : Nat) : Int)) (fun k => l.length - (intOf k).toNat)
      case atStart => exact ⟨0, by omega, by go_num⟩
      case round =>
        obtain ⟨q, hq, rfl⟩ := hrel
        have hsl := Ev.six_le t
        have hst := Ev.six_step t q hq
        have HTQ' := Lib.hid (HTQ.out q)
        have htd := HTD.out q
        obtain ⟨K, hKe⟩ : ∃ K, K = j + 1 + q := ⟨_, rfl⟩
        rw [← hKe]
        rw [← hKe] at htd
        by_cases hq6 : q < Ev.six t
        · obtain ⟨h1, h2⟩ := hst.1 hq6
          have hKl : K < l.length := by omega
          have cK := newsZ_at HN.out K hKl
          have e6 : l[K] = 6 := by subst hKe; rw [← HTQ'.out h1 hKl, h2]
          rw [e6] at cK
          have HKe := Lib.hid hKe
          clear hst h2 e6 hK htd hKe htl
          go_wp2
          go_round
          case rel => exact ⟨q + 1, by omega, by rw [show j + 1 + (q + 1) = K + 1 by have := HKe.out; omega]; go_num⟩
          case measure => simp [intOf]; omega
        · rcases hst.2 hq6 with ⟨hqe, hs⟩ | ⟨hqe, hql, hx6, hxe⟩
          · have hKL : K = l.length := by rw [hKe, hqe, htl]; exact Nat.add_sub_of_le hlt
            rw [if_pos hs, HLW.out] at hK
            subst hK
            clear hst htd hKe hqe hs htl
            have bKL : ((K : Int) == (l.length : Int)) = true := beq_iff_eq.2 (by omega)
            have nKL : ¬ (K : Int) < (l.length : Int) := by omega
            have nKN : ¬ K < l.length := by omega
            clear hKL
            go_wp2
            go_ret
            exact ⟨⟨_, rfl, HV.out⟩, Below.refl _ _⟩
          · have hKl : K < l.length := by omega
            have cK := newsZ_at HN.out K hKl
            have eX : t[q] = l[K] := by subst hKe; exact HTQ'.out hql hKl
            rw [eX] at hx6 hxe
            rw [if_neg (by omega), hxe, ← hqe] at hK
            generalize l[K] = X at *
            clear hst eX hxe
            have bKL : ((K : Int) == (l.length : Int)) = false := beq_eq_false_iff_ne.2 (by omega)
            have bX6 : (X == 6) = false := beq_eq_false_iff_ne.2 hx6
            have hw1 : IntKind.i64.wrap ((K : Int) + 1) = (K : Int) + 1 := IntWalk.i64_in _ (by omega)
            have hx4 : (0 : Int) ≤ (K : Int) + 1 := by omega
            have hx6' : ((K : Int) + 1).toNat = K + 1 := by omega
            have hx7 : (K : Int) + 1 ≤ (l.length : Int) := by omega
            have hx6 := hx6'
            have hj0 : (0 : Int) ≤ (j : Int) := by omega
            have hjc : (j : Int) ≤ (c : Int) := by omega
            have hlc : (l.length : Int) ≤ (c : Int) := by omega
            have HS1 : Hid (IntKind.i64.wrap ((K : Int) - (j : Int)) = (q : Int) + 1) := by show _ = _; rw [show (K : Int) - (j : Int) = (q : Int) + 1 by omega]; exact IntWalk.i64_in _ (by omega)
            have HS3 : Hid (wrap64 (q : Int) = (q : Int)) := IntWalk.wrap64_in _ (fits64 q (by omega))
            clear hKe hqe htl
            by_cases hC : Ev.redC G q X = true
            · rw [if_pos hC] at hK
              unfold Ev.redC at hC
              simp only [Bool.or_eq_true, Bool.and_eq_true, decide_eq_true_eq] at hC
              rcases hC with ⟨rfl, rfl⟩ | ⟨rfl, rfl, hpar⟩
              · clear HS1 HS3
                have HFIN : Hid ((([] ++ l.take j) ++ [6]) ++ l.drop (K + 1) = ANS) := by show _ = _; rw [← hK, htd]; simp
                have hdl : (l.drop (K + 1)).length = l.length - (K + 1) := List.length_drop
                clear hK htd
                rcases Nat.lt_or_ge (K + 1) c with hc1 | hc1
                · have hne : ¬ c = K + 1 := by omega
                  go_wp2_with (first
                    | (at_builtin; refine wpList_appZ rfl (.tmp 66) (.tmp 69) rfl w.heap.size _ [] (l.take j) _ _ _ rfl rfl ?o1 ?m1 ?n1 ?l1 ?b1 ?_; (case o1 => exact ownZ_empty w); (case m1 => exact htj.symm); (case n1 => exact (HN.out.below (bnew w _) hg).take j); (case l1 => rw [htj]; simp; omega); (case b1 => rw [World.size_alloc]; omega); intro v1 w1 ho1 hb1; have HB1 := Lib.hid ((bnew w (.cells #[] 3)).trans hb1); have hz1 := HB1.out.size; obtain ⟨a1, c1, rfl⟩ := own_slice ho1; have HO1 : Hid (OwnZ w1 w.heap.size (.slice a1 j c1) ([] ++ l.take j)) := (by have h := ho1; simp only [List.nil_append, htj] at h ⊢; exact h); clear ho1 hb1)
                    | (at_builtin; refine wpList_appZ rfl (.tmp 70) (.tmp 71) rfl w.heap.size _ ([] ++ l.take j) [6] _ _ _ rfl rfl ?o1 ?m1 ?n1 ?l1 ?b1 ?_; (case o1 => exact OwnZ.below HO1.out (bnew w1 _)); (case m1 => rfl); (case n1 => exact newsZ_blk (alloc_blk w1 _) rfl); (case l1 => simp; omega); (case b1 => rw [World.size_alloc]; omega); intro v2 w2 ho2 hb2; have HBW2 := Lib.hid ((HB1.out.alloc hz1 (.cells #[.int .i64 6] 3)).trans hb2); have hz2 := HBW2.out.size; obtain ⟨a2, c2, rfl⟩ := own_slice ho2; have HO2 : Hid (OwnZ w2 w.heap.size (.slice a2 (j + 1) c2) (([] ++ l.take j) ++ [6])) := (by have h := ho2; simp only [List.nil_append, List.length_append, List.length_cons, List.length_nil, htj] at h ⊢; exact h); clear ho2 hb2)
                    | (at_builtin; refine wpList_appZ rfl (.tmp 73) (.tmp 77) rfl w.heap.size _ (([] ++ l.take j) ++ [6]) (l.drop (K + 1)) _ _ _ rfl rfl ?o1 ?m1 ?n1 ?l1 ?b1 ?_; (case o1 => exact HO2.out); (case m1 => exact hdl.symm); (case n1 => exact (by exact (HN.out.below HBW2.out hg).drop0 (K + 1) (by omega))); (case l1 => simp; omega); (case b1 => exact hz2); intro v3 w3 ho3 hb3))
                  go_ret
                  exact ⟨⟨_, rfl, by rw [← HFIN.out]; exact ho3.mono hB⟩, HBW2.out.trans hb3⟩
                · have hnil : l.drop (K + 1) = [] := List.drop_of_length_le (by omega)
                  have HFIN' : Hid ((([] ++ l.take j) ++ [6]) ++ [] = ANS) := by rw [hnil] at HFIN; exact HFIN
                  obtain ⟨n, hn⟩ : ∃ n, n = K + 1 := ⟨_, rfl⟩
                  obtain rfl : c = n := by omega
                  have hm5 : IntKind.i64.wrap ((K : Int) + 1) = (c : Int) := by rw [hw1]; omega
                  have hm6 : (0 : Int) ≤ (c : Int) := by omega
                  have hm7 : (c : Int) ≤ (l.length : Int) := by omega
                  have hjc : (j : Int) ≤ (c : Int) := by omega
                  have HQ := Lib.hid hn
                  clear hw1 hx4 hx6 hx7 hc1 hn HFIN hnil hdl
                  go_wp2_with (first
                    | (at_builtin; refine wpList_appZ rfl (.tmp 66) (.tmp 69) rfl w.heap.size _ [] (l.take j) _ _ _ rfl rfl ?o1 ?m1 ?n1 ?l1 ?b1 ?_; (case o1 => exact ownZ_empty w); (case m1 => exact htj.symm); (case n1 => exact (HN.out.below (bnew w _) hg).take j); (case l1 => rw [htj]; simp; omega); (case b1 => rw [World.size_alloc]; omega); intro v1 w1 ho1 hb1; have HB1 := Lib.hid ((bnew w (.cells #[] 3)).trans hb1); have hz1 := HB1.out.size; obtain ⟨a1, c1, rfl⟩ := own_slice ho1; have HO1 : Hid (OwnZ w1 w.heap.size (.slice a1 j c1) ([] ++ l.take j)) := (by have h := ho1; simp only [List.nil_append, htj] at h ⊢; exact h); clear ho1 hb1)
                    | (at_builtin; refine wpList_appZ rfl (.tmp 70) (.tmp 71) rfl w.heap.size _ ([] ++ l.take j) [6] _ _ _ rfl rfl ?o1 ?m1 ?n1 ?l1 ?b1 ?_; (case o1 => exact OwnZ.below HO1.out (bnew w1 _)); (case m1 => rfl); (case n1 => exact newsZ_blk (alloc_blk w1 _) rfl); (case l1 => simp; omega); (case b1 => rw [World.size_alloc]; omega); intro v2 w2 ho2 hb2; have HBW2 := Lib.hid ((HB1.out.alloc hz1 (.cells #[.int .i64 6] 3)).trans hb2); have hz2 := HBW2.out.size; obtain ⟨a2, c2, rfl⟩ := own_slice ho2; have HO2 : Hid (OwnZ w2 w.heap.size (.slice a2 (j + 1) c2) (([] ++ l.take j) ++ [6])) := (by have h := ho2; simp only [List.nil_append, List.length_append, List.length_cons, List.length_nil, htj] at h ⊢; exact h); clear ho2 hb2)
                    | (at_builtin; refine wpList_appZ rfl (.tmp 73) (.tmp 77) rfl w.heap.size _ (([] ++ l.take j) ++ [6]) [] _ _ _ rfl rfl ?o1 ?m1 ?n1 ?l1 ?b1 ?_; (case o1 => exact HO2.out); (case m1 => exact rfl); (case n1 => exact (by exact NewsZ.nil _ _)); (case l1 => simp; omega); (case b1 => exact hz2); intro v3 w3 ho3 hb3))
                  go_ret
                  exact ⟨⟨_, rfl, by rw [← HFIN'.out]; exact ho3.mono hB⟩, HBW2.out.trans hb3⟩
              · obtain ⟨hp2, hpt⟩ := par0 q hpar
                clear hpar
                have HFIN : Hid ((([] ++ l.take j) ++ [6]) ++ l.drop (K + 1) = ANS) := by show _ = _; rw [← hK, htd]; simp
                have hdl : (l.drop (K + 1)).length = l.length - (K + 1) := List.length_drop
                clear hK htd
                rcases Nat.lt_or_ge (K + 1) c with hc1 | hc1
                · have hne : ¬ c = K + 1 := by omega
                  have hs1 := HS1.out
                  have hs3 := HS3.out
                  go_wp2_with (first
                    | (at_builtin; refine wpList_appZ rfl (.tmp 66) (.tmp 69) rfl w.heap.size _ [] (l.take j) _ _ _ rfl rfl ?o1 ?m1 ?n1 ?l1 ?b1 ?_; (case o1 => exact ownZ_empty w); (case m1 => exact htj.symm); (case n1 => exact (HN.out.below (bnew w _) hg).take j); (case l1 => rw [htj]; simp; omega); (case b1 => rw [World.size_alloc]; omega); intro v1 w1 ho1 hb1; have HB1 := Lib.hid ((bnew w (.cells #[] 3)).trans hb1); have hz1 := HB1.out.size; obtain ⟨a1, c1, rfl⟩ := own_slice ho1; have HO1 : Hid (OwnZ w1 w.heap.size (.slice a1 j c1) ([] ++ l.take j)) := (by have h := ho1; simp only [List.nil_append, htj] at h ⊢; exact h); clear ho1 hb1)
                    | (at_builtin; refine wpList_appZ rfl (.tmp 70) (.tmp 71) rfl w.heap.size _ ([] ++ l.take j) [6] _ _ _ rfl rfl ?o1 ?m1 ?n1 ?l1 ?b1 ?_; (case o1 => exact OwnZ.below HO1.out (bnew w1 _)); (case m1 => rfl); (case n1 => exact newsZ_blk (alloc_blk w1 _) rfl); (case l1 => simp; omega); (case b1 => rw [World.size_alloc]; omega); intro v2 w2 ho2 hb2; have HBW2 := Lib.hid ((HB1.out.alloc hz1 (.cells #[.int .i64 6] 3)).trans hb2); have hz2 := HBW2.out.size; obtain ⟨a2, c2, rfl⟩ := own_slice ho2; have HO2 : Hid (OwnZ w2 w.heap.size (.slice a2 (j + 1) c2) (([] ++ l.take j) ++ [6])) := (by have h := ho2; simp only [List.nil_append, List.length_append, List.length_cons, List.length_nil, htj] at h ⊢; exact h); clear ho2 hb2)
                    | (at_builtin; refine wpList_appZ rfl (.tmp 73) (.tmp 77) rfl w.heap.size _ (([] ++ l.take j) ++ [6]) (l.drop (K + 1)) _ _ _ rfl rfl ?o1 ?m1 ?n1 ?l1 ?b1 ?_; (case o1 => exact HO2.out); (case m1 => exact hdl.symm); (case n1 => exact (by exact (HN.out.below HBW2.out hg).drop0 (K + 1) (by omega))); (case l1 => simp; omega); (case b1 => exact hz2); intro v3 w3 ho3 hb3))
                  go_ret
                  exact ⟨⟨_, rfl, by rw [← HFIN.out]; exact ho3.mono hB⟩, HBW2.out.trans hb3⟩
                · have hnil : l.drop (K + 1) = [] := List.drop_of_length_le (by omega)
                  have HFIN' : Hid ((([] ++ l.take j) ++ [6]) ++ [] = ANS) := by rw [hnil] at HFIN; exact HFIN
                  obtain ⟨n, hn⟩ : ∃ n, n = K + 1 := ⟨_, rfl⟩
                  obtain rfl : c = n := by omega
                  have hm5 : IntKind.i64.wrap ((K : Int) + 1) = (c : Int) := by rw [hw1]; omega
                  have hm6 : (0 : Int) ≤ (c : Int) := by omega
                  have hm7 : (c : Int) ≤ (l.length : Int) := by omega
                  have hjc : (j : Int) ≤ (c : Int) := by omega
                  have HQ := Lib.hid hn
                  clear hw1 hx4 hx6 hx7 hc1 hn HFIN hnil hdl
                  have hs1 := HS1.out
                  have hs3 := HS3.out
                  go_wp2_with (first
                    | (at_builtin; refine wpList_appZ rfl (.tmp 66) (.tmp 69) rfl w.heap.size _ [] (l.take j) _ _ _ rfl rfl ?o1 ?m1 ?n1 ?l1 ?b1 ?_; (case o1 => exact ownZ_empty w); (case m1 => exact htj.symm); (case n1 => exact (HN.out.below (bnew w _) hg).take j); (case l1 => rw [htj]; simp; omega); (case b1 => rw [World.size_alloc]; omega); intro v1 w1 ho1 hb1; have HB1 := Lib.hid ((bnew w (.cells #[] 3)).trans hb1); have hz1 := HB1.out.size; obtain ⟨a1, c1, rfl⟩ := own_slice ho1; have HO1 : Hid (OwnZ w1 w.heap.size (.slice a1 j c1) ([] ++ l.take j)) := (by have h := ho1; simp only [List.nil_append, htj] at h ⊢; exact h); clear ho1 hb1)
                    | (at_builtin; refine wpList_appZ rfl (.tmp 70) (.tmp 71) rfl w.heap.size _ ([] ++ l.take j) [6] _ _ _ rfl rfl ?o1 ?m1 ?n1 ?l1 ?b1 ?_; (case o1 => exact OwnZ.below HO1.out (bnew w1 _)); (case m1 => rfl); (case n1 => exact newsZ_blk (alloc_blk w1 _) rfl); (case l1 => simp; omega); (case b1 => rw [World.size_alloc]; omega); intro v2 w2 ho2 hb2; have HBW2 := Lib.hid ((HB1.out.alloc hz1 (.cells #[.int .i64 6] 3)).trans hb2); have hz2 := HBW2.out.size; obtain ⟨a2, c2, rfl⟩ := own_slice ho2; have HO2 : Hid (OwnZ w2 w.heap.size (.slice a2 (j + 1) c2) (([] ++ l.take j) ++ [6])) := (by have h := ho2; simp only [List.nil_append, List.length_append, List.length_cons, List.length_nil, htj] at h ⊢; exact h); clear ho2 hb2)
                    | (at_builtin; refine wpList_appZ rfl (.tmp 73) (.tmp 77) rfl w.heap.size _ (([] ++ l.take j) ++ [6]) [] _ _ _ rfl rfl ?o1 ?m1 ?n1 ?l1 ?b1 ?_; (case o1 => exact HO2.out); (case m1 => exact rfl); (case n1 => exact (by exact NewsZ.nil _ _)); (case l1 => simp; omega); (case b1 => exact hz2); intro v3 w3 ho3 hb3))
                  go_ret
                  exact ⟨⟨_, rfl, by rw [← HFIN'.out]; exact ho3.mono hB⟩, HBW2.out.trans hb3⟩
            · rw [if_neg hC] at hK
              have HN2 : Hid (Ev.red (l.take (j + 1)) (l.drop (j + 1)) = ANS) := by show _ = _; rw [hts, ← HTE.out]; exact hK
              clear hK htd hts
              unfold Ev.redC at hC
              simp only [Bool.or_eq_true, Bool.and_eq_true, decide_eq_true_eq] at hC
              by_cases g2 : G = 2
              · subst g2
                have x3 : (X == 3) = false := beq_eq_false_iff_ne.2 (fun e => hC (.inl ⟨rfl, e⟩))
                clear hC HS1 HS3
                go_wp2
                go_round
                case rel => exact ⟨j + 1, by omega, by go_num, HN2⟩
                case measure => simp [intOf]; omega
              · have b2 : (G == 2) = false := beq_eq_false_iff_ne.2 g2
                by_cases g4 : G = 4
                · subst g4
                  by_cases x5 : X = 5
                  · subst x5
                    obtain ⟨hp2, hpt⟩ := par1 q (fun e => hC (.inr ⟨rfl, rfl, e⟩))
                    clear hC g2 b2
                    have hs1 := HS1.out
                    have hs3 := HS3.out
                    go_wp2
                    go_round
                    case rel => exact ⟨j + 1, by omega, by go_num, HN2⟩
                    case measure => simp [intOf]; omega
                  · have b5 : (X == 5) = false := beq_eq_false_iff_ne.2 x5
                    clear hC g2 b2 HS1 HS3
                    go_wp2
                    go_round
                    case rel => exact ⟨j + 1, by omega, by go_num, HN2⟩
                    case measure => simp [intOf]; omega
                · have b4 : (G == 4) = false := beq_eq_false_iff_ne.2 g4
                  clear hC HS1 HS3
                  go_wp2
                  go_round
                  case rel => exact ⟨j + 1, by omega, by go_num, HN2⟩
                  case measure => simp [intOf]; omega
    · obtain rfl : j = l.length := by omega
      have hA : ANS = l := by rw [← HK.out, List.drop_of_length_le (Nat.le_refl _), List.take_of_length_le (Nat.le_refl _)]; rfl
      subst hA
      clear HK
      go_wp2
      go_ret
      exact ⟨⟨_, rfl, HV.out⟩, Below.refl _ _⟩
end Go.Proofs.YthkedlcmpibkjaaGreatDoor
