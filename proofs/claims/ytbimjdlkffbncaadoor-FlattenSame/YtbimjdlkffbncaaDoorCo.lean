/-
  The plain functions of compose: documents, graphs; rows of documents one behind the other.
-/
import Derived.Test.YtbimjdlkffbncaaDoorCt
import Derived.Test.YtbimjdlkffbncaaDoorUf
namespace Go.Proofs.YtbimjdlkffbncaaDoor
namespace Co
/-- a document, as far as it was read: its graph, the names (the newest one first), what is open (the innermost one last) -/
structure D where
  g : List Ar.Nd
  names : List (List UInt8 × Nat)
  opn : List Nat
def D.new : D := ⟨[], [], []⟩
def kindOf (k : Int) : Int := if k = 2 then 1 else if k = 4 then 2 else 0
def addKid (x : Ar.Nd) (a : Nat) : Ar.Nd := ⟨x.kind, x.tag, x.text, x.kids ++ [(a : Int)]⟩
/-- a node as the next kid of what is open -/
def hang (d : D) (a : Nat) : Int × D :=
  if d.opn = [] then (0, d)
  else
    let o := d.opn.getLastD 0
    if (Ar.at' d.g (o : Nat)).kind = 2 ∧ (Ar.at' d.g (o : Nat)).kids.length % 2 = 0 ∧ (Ar.at' d.g (a : Nat)).kind ≠ 0 then (eForm, d)
    else (0, ⟨d.g.set o (addKid (Ar.at' d.g (o : Nat)) a), d.names, d.opn⟩)
/-- behind a node that was hung: its name, and whether it is open -/
def named (x : Ev.E) (a : Nat) (d : D) : D := ⟨d.g, if x.anchor = [] then d.names else (x.anchor, a) :: d.names, if kindOf x.kind = 0 then d.opn else d.opn ++ [a]⟩
def add (d : D) (x : Ev.E) : Int × D :=
  if d.g.length = 2000 then (eLimit, d)
  else match tagOf x with
    | .error e => (e, d)
    | .ok t =>
      let r := hang ⟨d.g ++ [⟨kindOf x.kind, t, x.text, []⟩], d.names, d.opn⟩ d.g.length
      if r.1 = 0 then (0, named x d.g.length r.2) else r
def take (d : D) (x : Ev.E) : Int × D :=
  if x.kind = 3 ∨ x.kind = 5 then (0, ⟨d.g, d.names, d.opn.dropLast⟩)
  else if x.kind = 7 then (match d.names.lookup x.anchor with
    | none => (eAnchor, d)
    | some a => hang d a)
  else add d x
/-- graphs that were told ahead, or an error, of events that are right -/
def go : D → List (List Ar.Nd) → List Ev.E → Except Int (List (List Ar.Nd))
  | _, out, [] => .ok out
  | d, out, x :: t =>
    if x.kind = 0 then go D.new out t
    else if x.kind = 1 then (if Ar.twice d.g = true then .error eTwice else go d (out ++ [d.g]) t)
    else if (take d x).1 = 0 then go (take d x).2 out t else .error (take d x).1
def graphs (es : List Ev.E) : Except Int (List (List Ar.Nd)) := if Evn.Ev.right es = true then go D.new [] es else .error eForm
theorem go_cons (d : D) (out : List (List Ar.Nd)) (x : Ev.E) (t : List Ev.E) : go d out (x :: t) = if x.kind = 0 then go D.new out t
    else if x.kind = 1 then (if Ar.twice d.g = true then .error eTwice else go d (out ++ [d.g]) t)
    else if (take d x).1 = 0 then go (take d x).2 out t else .error (take d x).1 := rfl
theorem go_out : ∀ (es : List Ev.E) (d : D) (o out : List (List Ar.Nd)), go d (o ++ out) es = (go d out es).map (o ++ ·)
  | [], _, o, out => rfl
  | x :: t, d, o, out => by
    unfold go
    split
    · exact go_out t _ o out
    · split
      · split
        · rfl
        · rw [List.append_assoc]; exact go_out t _ o _
      · split
        · exact go_out t _ o out
        · rfl
/-- a row that is empty, or begins with a document, does not hang on what was ahead -/
theorem go_fresh (es : List Ev.E) (d d' : D) (out : List (List Ar.Nd)) (h : ∀ x t, es = x :: t → x.kind = 0) : go d out es = go d' out es := by
  cases es with
  | nil => rfl
  | cons x t => unfold go; rw [if_pos (h x t rfl), if_pos (h x t rfl)]
theorem go_app : ∀ (xs bs : List Ev.E) (d : D) (out : List (List Ar.Nd)), (∀ x t, bs = x :: t → x.kind = 0) →
    go d out (xs ++ bs) = (go d out xs).bind fun o => go D.new o bs
  | [], bs, d, out, h => go_fresh bs d D.new out h
  | x :: t, bs, d, out, h => by
    rw [List.cons_append, go_cons, go_cons]
    split
    · exact go_app t bs _ _ h
    · split
      · split
        · rfl
        · exact go_app t bs _ _ h
      · split
        · exact go_app t bs _ _ h
        · rfl
theorem right_head (es : List Ev.E) (h : Evn.Ev.right es = true) : ∀ x t, es = x :: t → x.kind = 0 := by
  intro x t e
  subst e
  unfold Evn.Ev.right at h
  simp only [Bool.and_eq_true, decide_eq_true_eq] at h
  have hn := (Ev.nested_iff _).1 h.2.2
  apply Classical.byContradiction
  intro hx
  have e : Ev.kinds (x :: t) = x.kind :: Ev.kinds t := rfl
  rw [e] at hn
  have e2 : Ev.step [] x.kind = none := by simp only [Ev.step, if_neg hx]
  unfold Ev.run at hn
  rw [e2] at hn
  cases hn
end Co
end Go.Proofs.YtbimjdlkffbncaaDoor
