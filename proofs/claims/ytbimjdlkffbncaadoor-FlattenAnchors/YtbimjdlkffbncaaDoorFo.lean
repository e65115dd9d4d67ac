/-
  Mathematics: how often each node is met while a graph is told; anchors: who has one, and that they differ.
  The plain functions of compose: documents, graphs; rows of documents one behind the other.
  Mathematics: what compose reads of what flatten told is the graph again.
  Mathematics: anchors are told once each, numbered as they come; an alias tells one that was told; each is asked for.
-/
import Derived.Test.YtbimjdlkffbncaaDoorFi
import Derived.Test.YtbimjdlkffbncaaDoorBc
import Derived.Test.YtbimjdlkffbncaaDoorCt
import Derived.Test.YtbimjdlkffbncaaDoorUf
import Derived.Test.YtbimjdlkffbncaaDoorFs
namespace Go.Proofs.YtbimjdlkffbncaaDoor
namespace Fl
/-- the nodes in the order in which they are told -/
def trace : Nat → List Ar.Nd → Nat → Nat × List Nat → Nat × List Nat
  | 0, _, _, s => s
  | f + 1, g, a, s => if a < s.1 then (s.1, s.2 ++ [a]) else (Ar.at' g a).kids.foldl (fun s k => trace f g k.toNat s) (s.1 + 1, s.2 ++ [a])
/-- how often a node is a kid of nodes below a number -/
def asKid (g : List Ar.Nd) (x : Nat) : Nat → Nat
  | 0 => 0
  | m + 1 => asKid g x m + ((Ar.at' g (m : Nat)).kids.map Int.toNat).count x
def Traced (g : List Ar.Nd) (c : Nat → Nat) (m m' : Nat) (tr : List Nat) : Prop :=
  (∀ x, tr.count x + asKid g x m = c x + asKid g x m') ∧ ∀ i, m ≤ i → i < m' → i ∈ tr
def one (a x : Nat) : Nat := if a = x then 1 else 0
theorem count_one (a x : Nat) : [a].count x = one a x := by
  unfold one
  rw [List.count_singleton]
  by_cases h : a = x
  · subst h; simp
  · have : (x == a) = false := beq_eq_false_iff_ne.2 (fun e => h e.symm)
    have : (a == x) = false := beq_eq_false_iff_ne.2 h
    simp [*]
theorem trace_fold (g : List Ar.Nd) (n f : Nat)
    (ih : ∀ (a m : Nat) (tr : List Nat), Ar.meet f g a (List.range m) <+: List.range n → n + 1 ≤ f + m →
      ∃ m' es, Ar.meet f g a (List.range m) = List.range m' ∧ trace f g a (m, tr) = (m', tr ++ es) ∧ m ≤ m' ∧ Traced g (one a) m m' es) :
    ∀ (ks : List Int) (m : Nat) (tr : List Nat), ks.foldl (fun s k => Ar.meet f g k.toNat s) (List.range m) <+: List.range n → n + 1 ≤ f + m →
      ∃ m' es, ks.foldl (fun s k => Ar.meet f g k.toNat s) (List.range m) = List.range m' ∧ ks.foldl (fun s k => trace f g k.toNat s) (m, tr) = (m', tr ++ es) ∧ m ≤ m' ∧ Traced g (fun x => (ks.map Int.toNat).count x) m m' es
  | [], m, tr, _, _ => ⟨m, [], rfl, by simp, Nat.le_refl _, fun x => by simp, fun i h1 h2 => absurd h1 (by omega)⟩
  | k :: t, m, tr, hp, hf => by
    rw [List.foldl_cons] at hp
    have hp1 := (foldl_pre (fun s (k : Int) => Ar.meet f g k.toNat s) (fun s k => meet_pre g f _ s) t (Ar.meet f g k.toNat (List.range m))).trans hp
    obtain ⟨m1, e1, h1, h2, hmm, h3, h4⟩ := ih k.toNat m tr hp1 hf
    rw [h1] at hp
    obtain ⟨m2, e2, g1, g2, gm, g3, g4⟩ := trace_fold g n f ih t m1 (tr ++ e1) hp (by omega)
    refine ⟨m2, e1 ++ e2, ?_, ?_, Nat.le_trans hmm gm, fun x => ?_, fun i hi1 hi2 => ?_⟩
    · rw [List.foldl_cons, h1, g1]
    · rw [List.foldl_cons, h2, g2, List.append_assoc]
    · have a1 := h3 x
      have a2 := g3 x
      show (e1 ++ e2).count x + asKid g x m = (k.toNat :: t.map Int.toNat).count x + asKid g x m2
      rw [List.count_append]
      have : (k.toNat :: t.map Int.toNat).count x = one k.toNat x + (t.map Int.toNat).count x := by
        rw [show k.toNat :: t.map Int.toNat = [k.toNat] ++ t.map Int.toNat from rfl, List.count_append, count_one]
      simp only at a2
      omega
    · by_cases hi : i < m1
      · exact List.mem_append_left _ (h4 i hi1 hi)
      · exact List.mem_append_right _ (g4 i (by omega) hi2)
theorem trace_told (g : List Ar.Nd) (n : Nat) :
    ∀ (f a m : Nat) (tr : List Nat), Ar.meet f g a (List.range m) <+: List.range n → n + 1 ≤ f + m →
      ∃ m' es, Ar.meet f g a (List.range m) = List.range m' ∧ trace f g a (m, tr) = (m', tr ++ es) ∧ m ≤ m' ∧ Traced g (one a) m m' es
  | 0, a, m, tr, hp, hf => by
    have := hp.length_le
    have h2 : Ar.meet 0 g a (List.range m) = List.range m := rfl
    rw [h2] at this
    simp at this
    omega
  | f + 1, a, m, tr, hp, hf => by
    unfold Ar.meet at hp ⊢
    unfold trace
    rw [contains_range] at hp ⊢
    by_cases ha : a < m
    · rw [if_pos (decide_eq_true ha)] at hp ⊢
      rw [if_pos ha]
      exact ⟨m, [a], rfl, rfl, Nat.le_refl _, fun x => by rw [count_one], fun i h1 h2 => absurd h1 (by omega)⟩
    · have hd : decide (a < m) = false := decide_eq_false ha
      rw [hd, if_neg (by decide)] at hp ⊢
      rw [if_neg ha]
      have hp1 := (foldl_pre (fun s (k : Int) => Ar.meet f g k.toNat s) (fun s k => meet_pre g f _ s) (Ar.at' g (a : Nat)).kids (List.range m ++ [a])).trans hp
      have hr := range_pre hp1
      have hl : (List.range m ++ [a]).length = m + 1 := by simp
      rw [hl, List.range_succ] at hr
      obtain rfl : a = m := by simpa using List.append_cancel_left hr
      rw [← List.range_succ] at hp ⊢
      obtain ⟨m', es, h1, h2, hm, h3, h4⟩ := trace_fold g n f (fun a m tr => trace_told g n f a m tr) (Ar.at' g (a : Nat)).kids (a + 1) (tr ++ [a]) hp (by omega)
      refine ⟨m', [a] ++ es, h1, by rw [h2, List.append_assoc], by omega, fun x => ?_, fun i hi1 hi2 => ?_⟩
      · have a1 := h3 x
        have hs : asKid g x (a + 1) = asKid g x a + ((Ar.at' g (a : Nat)).kids.map Int.toNat).count x := rfl
        rw [List.count_append, count_one]
        simp only at a1
        omega
      · by_cases hi : i = a
        · subst hi; exact List.mem_append_left _ (List.mem_singleton.2 rfl)
        · exact List.mem_append_right _ (h4 i (by omega) hi2)
/-- as often as each node is met, all in all -/
theorem trace_all (n : List Ar.Nd) (h : InOrder n) :
    ∃ T, trace (n.length + 1) n 0 (0, []) = (n.length, T) ∧ ∀ x, T.count x = one 0 x + asKid n x n.length := by
  have hp : Ar.meet (n.length + 1) n 0 (List.range 0) <+: List.range n.length := by
    show Ar.meet (n.length + 1) n 0 [] <+: _
    rw [h.order]
    exact List.prefix_refl _
  obtain ⟨m', es, h1, h2, _, h3, _⟩ := trace_told n n.length (n.length + 1) 0 0 [] hp (by omega)
  have h1 : Ar.meet (n.length + 1) n 0 [] = List.range m' := h1
  rw [h.order] at h1
  obtain rfl : n.length = m' := by have := congrArg List.length h1; simpa using this
  refine ⟨es, by rw [h2]; rfl, fun x => ?_⟩
  have := h3 x
  have h0 : asKid n x 0 = 0 := rfl
  omega
theorem addAt_get (cs : List Int) (k : Int) (x : Nat) (hx : x < cs.length) : (Ar.addAt cs k).getD x 0 = cs.getD x 0 + (one k.toNat x : Nat) := by
  unfold Ar.addAt one
  rw [List.getD_eq_getElem?_getD, List.getD_eq_getElem?_getD, List.getElem?_set]
  by_cases h : k.toNat = x
  · subst h
    rw [if_pos rfl, if_pos rfl, if_pos hx, List.getD_eq_getElem?_getD]
    rfl
  · rw [if_neg h, if_neg h]
    simp
theorem addAll_get (x : Nat) : ∀ (ks : List Int) (cs : List Int), x < cs.length → (Ar.addAll cs ks).getD x 0 = cs.getD x 0 + ((ks.map Int.toNat).count x : Nat)
  | [], cs, _ => by simp [Ar.addAll]
  | k :: t, cs, hx => by
    have h1 := addAll_get x t (Ar.addAt cs k) (by rw [Ar.addAt_len]; exact hx)
    have h2 := addAt_get cs k x hx
    have h3 : Ar.addAll cs (k :: t) = Ar.addAll (Ar.addAt cs k) t := rfl
    rw [h3, h1, h2, List.map_cons]
    have : (k.toNat :: t.map Int.toNat).count x = one k.toNat x + (t.map Int.toNat).count x := by
      rw [show k.toNat :: t.map Int.toNat = [k.toNat] ++ t.map Int.toNat from rfl, List.count_append, count_one]
    omega
def kidSum (x : Nat) : List Ar.Nd → Nat
  | [] => 0
  | y :: t => (y.kids.map Int.toNat).count x + kidSum x t
theorem kidSum_cons (x : Nat) (y : Ar.Nd) (t : List Ar.Nd) : kidSum x (y :: t) = (y.kids.map Int.toNat).count x + kidSum x t := rfl
theorem insGo_get (x : Nat) : ∀ (g : List Ar.Nd) (cs : List Int), x < cs.length → (Ar.insGo g cs).getD x 0 = cs.getD x 0 + (kidSum x g : Nat)
  | [], cs, _ => by simp [Ar.insGo, kidSum]
  | y :: t, cs, hx => by
    have h1 := insGo_get x t (Ar.addAll cs y.kids) (by rw [Ar.addAll_len]; exact hx)
    have h2 := addAll_get x y.kids cs hx
    have h3 : Ar.insGo (y :: t) cs = Ar.insGo t (Ar.addAll cs y.kids) := rfl
    rw [h3, h1, h2, kidSum_cons]
    omega
theorem kidSum_app (x : Nat) (a b : List Ar.Nd) : kidSum x (a ++ b) = kidSum x a + kidSum x b := by
  induction a with
  | nil => simp [kidSum]
  | cons y t ih => rw [List.cons_append, kidSum_cons, kidSum_cons, ih]; omega
theorem kidSum_take (g : List Ar.Nd) (x : Nat) : ∀ m, m ≤ g.length → kidSum x (g.take m) = asKid g x m
  | 0, _ => by simp [kidSum, asKid]
  | m + 1, h => by
    rw [List.take_succ_eq_append_getElem (by omega), kidSum_app, kidSum_take g x m (by omega), kidSum_cons]
    show _ = asKid g x m + _
    rw [Ar.at_mem g m (by omega)]
    rfl
theorem kidsTo_take (g : List Ar.Nd) : ∀ m, m ≤ g.length → Ar.total (g.take m) = kidsTo g m
  | 0, _ => by simp [Ar.total, kidsTo]
  | m + 1, h => by
    have ih := kidsTo_take g m (by omega)
    rw [List.take_succ_eq_append_getElem (by omega)]
    unfold kidsTo
    rw [Ar.at_mem g m (by omega), ← ih]
    unfold Ar.total
    rw [List.map_append, List.sum_append]
    simp
theorem kidsTo_all (g : List Ar.Nd) : kidsTo g g.length = Ar.total g := by rw [← kidsTo_take g g.length (Nat.le_refl _), List.take_of_length_le (Nat.le_refl _)]
theorem ins_asKid (n : List Ar.Nd) (hr : Ar.right n = true) (x : Nat) (hx : x < n.length) : (Ar.ins n).getD x 0 = (asKid n x n.length : Nat) := by
  unfold Ar.ins
  rw [if_pos hr, insGo_get x n _ (by simpa using hx), ← kidSum_take n x n.length (Nat.le_refl _), List.take_of_length_le (Nat.le_refl _)]
  rw [List.getD_eq_getElem?_getD, List.getElem?_replicate]
  split <;> simp
theorem addRoot_get (cs : List Int) (x : Nat) (hx : x < cs.length) : (addRoot cs).getD x 0 = cs.getD x 0 + (one 0 x : Nat) := by
  cases cs with
  | nil => simp at hx
  | cons c t =>
    cases x with
    | zero => simp [addRoot, one]
    | succ x => simp [addRoot, one]
/-- who is met more than once has an anchor -/
theorem names_get : ∀ (cs : List Int) (r x : Nat), x < cs.length → ((namesGo r cs).getD x [] ≠ [] ↔ 1 < cs.getD x 0)
  | [], _, x, h => absurd h (by simp)
  | c :: t, r, 0, _ => by
    unfold namesGo
    by_cases hc : 1 < c
    · rw [if_pos hc]; simp [hc]
    · rw [if_neg hc]; simp [hc]
  | c :: t, r, x + 1, h => by
    unfold namesGo
    have ih := fun r => names_get t r x (by simpa using h)
    split
    · simpa using ih (r + 1)
    · simpa using ih r
/-- each anchor is "a" and a number above those that were given; none is given twice -/
theorem names_num : ∀ (cs : List Int) (r x : Nat), (namesGo r cs).getD x [] ≠ [] → ∃ j : Nat, r < j ∧ (namesGo r cs).getD x [] = 97 :: Lib.itoa (j : Int)
  | [], r, x, h => absurd (by simp [namesGo]) h
  | c :: t, r, 0, h => by
    unfold namesGo at h ⊢
    by_cases hc : 1 < c
    · rw [if_pos hc] at h ⊢; exact ⟨r + 1, Nat.lt_succ_self _, rfl⟩
    · rw [if_neg hc] at h; exact absurd rfl h
  | c :: t, r, x + 1, h => by
    unfold namesGo at h ⊢
    by_cases hc : 1 < c
    · rw [if_pos hc] at h ⊢
      obtain ⟨j, h1, h2⟩ := names_num t (r + 1) x h
      exact ⟨j, by omega, h2⟩
    · rw [if_neg hc] at h ⊢
      exact names_num t r x h
def val (l : List UInt8) : Nat := l.foldl (fun a b => a * 10 + (b.toNat - 48)) 0
theorem dec_digits : ∀ (n u : Nat), u ≤ n → (∀ b ∈ Lib.decDigits u, 48 ≤ b.toNat ∧ b.toNat ≤ 57) ∧ val (Lib.decDigits u) = u
  | n, u, h => by
    rw [Lib.decDigits]
    split
    · rename_i h10
      have e : (UInt8.ofNat (48 + u)).toNat = 48 + u := by rw [UInt8.toNat_ofNat']; omega
      refine ⟨fun b hb => ?_, ?_⟩
      · rw [List.mem_singleton.1 hb, e]; omega
      · show 0 * 10 + ((UInt8.ofNat (48 + u)).toNat - 48) = u
        rw [e]; omega
    · rename_i h10
      have e : (UInt8.ofNat (48 + u % 10)).toNat = 48 + u % 10 := by rw [UInt8.toNat_ofNat']; omega
      match n, h with
      | 0, h => omega
      | n + 1, h =>
        obtain ⟨i1, i2⟩ := dec_digits n (u / 10) (by omega)
        refine ⟨fun b hb => ?_, ?_⟩
        · rcases List.mem_append.1 hb with hb | hb
          · exact i1 b hb
          · rw [List.mem_singleton.1 hb, e]; omega
        · unfold val at i2 ⊢
          rw [List.foldl_append, i2, List.foldl_cons, List.foldl_nil, e]
          omega
theorem itoa_inj (k m : Int) (h : 0 ≤ k) (h' : 0 ≤ m) (e : Lib.itoa k = Lib.itoa m) : k = m := by
  unfold Lib.itoa at e
  rw [if_neg (by omega), if_neg (by omega)] at e
  have h1 := (dec_digits k.toNat k.toNat (Nat.le_refl _)).2
  have h2 := (dec_digits m.toNat m.toNat (Nat.le_refl _)).2
  rw [e, h2] at h1
  omega
theorem digit_inj (k m : Nat) (h : Lib.itoa (k : Int) = Lib.itoa (m : Int)) : k = m := by
  have := itoa_inj (k : Int) (m : Int) (by omega) (by omega) h
  omega
theorem names_inj : ∀ (cs : List Int) (r x y : Nat), (namesGo r cs).getD x [] ≠ [] → (namesGo r cs).getD x [] = (namesGo r cs).getD y [] → x = y
  | [], r, x, _, h, _ => absurd (by simp [namesGo]) h
  | c :: t, r, 0, 0, _, _ => rfl
  | c :: t, r, 0, y + 1, h, e => by
    unfold namesGo at h e
    by_cases hc : 1 < c
    · rw [if_pos hc] at h e
      have e : 97 :: Lib.itoa ((r + 1 : Nat) : Int) = (namesGo (r + 1) t).getD y [] := e
      obtain ⟨j, h1, h2⟩ := names_num t (r + 1) y (by rw [← e]; simp)
      rw [h2] at e
      have := digit_inj _ _ (List.cons.inj e).2
      omega
    · rw [if_neg hc] at h; exact absurd rfl h
  | c :: t, r, x + 1, 0, h, e => by
    unfold namesGo at h e
    by_cases hc : 1 < c
    · rw [if_pos hc] at h e
      have e : (namesGo (r + 1) t).getD x [] = 97 :: Lib.itoa ((r + 1 : Nat) : Int) := e
      obtain ⟨j, h1, h2⟩ := names_num t (r + 1) x h
      rw [h2] at e
      have := digit_inj _ _ (List.cons.inj e).2
      omega
    · rw [if_neg hc] at h e
      have e : (namesGo r t).getD x [] = [] := e
      exact absurd e h
  | c :: t, r, x + 1, y + 1, h, e => by
    unfold namesGo at h e
    by_cases hc : 1 < c
    · rw [if_pos hc] at h e
      have := names_inj t (r + 1) x y h e
      omega
    · rw [if_neg hc] at h e
      have := names_inj t r x y h e
      omega
end Fl
end Go.Proofs.YtbimjdlkffbncaaDoor
namespace Go.Proofs.YtbimjdlkffbncaaDoor
namespace Co
/-- a document, as far as it was read: its graph, the names (the newest one first), what is open (the innermost one last) -/
structure D where
  g : List Ar.Nd
  names : List (List UInt8 × Nat)
  opn : List Nat
def D.new : D := ⟨[], [], []⟩
def kindOf (k : Int) : Int := if k = 2 then 1 else if k = 4 then 2 else 0
def addKid (x : Ar.Nd) (a : Nat) : Ar.Nd := ⟨x.kind, x.tag, x.text, x.kids ++ [(a : Int)]⟩
/-- a node as the next kid of what is open -/
def hang (d : D) (a : Nat) : Int × D :=
  if d.opn = [] then (0, d)
  else
    let o := d.opn.getLastD 0
    if (Ar.at' d.g (o : Nat)).kind = 2 ∧ (Ar.at' d.g (o : Nat)).kids.length % 2 = 0 ∧ (Ar.at' d.g (a : Nat)).kind ≠ 0 then (eForm, d)
    else (0, ⟨d.g.set o (addKid (Ar.at' d.g (o : Nat)) a), d.names, d.opn⟩)
/-- behind a node that was hung: its name, and whether it is open -/
def named (x : Ev.E) (a : Nat) (d : D) : D := ⟨d.g, if x.anchor = [] then d.names else (x.anchor, a) :: d.names, if kindOf x.kind = 0 then d.opn else d.opn ++ [a]⟩
def add (d : D) (x : Ev.E) : Int × D :=
  if d.g.length = 2000 then (eLimit, d)
  else match tagOf x with
    | .error e => (e, d)
    | .ok t =>
      let r := hang ⟨d.g ++ [⟨kindOf x.kind, t, x.text, []⟩], d.names, d.opn⟩ d.g.length
      if r.1 = 0 then (0, named x d.g.length r.2) else r
def take (d : D) (x : Ev.E) : Int × D :=
  if x.kind = 3 ∨ x.kind = 5 then (0, ⟨d.g, d.names, d.opn.dropLast⟩)
  else if x.kind = 7 then (match d.names.lookup x.anchor with
    | none => (eAnchor, d)
    | some a => hang d a)
  else add d x
/-- graphs that were told ahead, or an error, of events that are right -/
def go : D → List (List Ar.Nd) → List Ev.E → Except Int (List (List Ar.Nd))
  | _, out, [] => .ok out
  | d, out, x :: t =>
    if x.kind = 0 then go D.new out t
    else if x.kind = 1 then (if Ar.twice d.g = true then .error eTwice else go d (out ++ [d.g]) t)
    else if (take d x).1 = 0 then go (take d x).2 out t else .error (take d x).1
def graphs (es : List Ev.E) : Except Int (List (List Ar.Nd)) := if Evn.Ev.right es = true then go D.new [] es else .error eForm
theorem go_cons (d : D) (out : List (List Ar.Nd)) (x : Ev.E) (t : List Ev.E) : go d out (x :: t) = if x.kind = 0 then go D.new out t
    else if x.kind = 1 then (if Ar.twice d.g = true then .error eTwice else go d (out ++ [d.g]) t)
    else if (take d x).1 = 0 then go (take d x).2 out t else .error (take d x).1 := rfl
theorem go_out : ∀ (es : List Ev.E) (d : D) (o out : List (List Ar.Nd)), go d (o ++ out) es = (go d out es).map (o ++ ·)
  | [], _, o, out => rfl
  | x :: t, d, o, out => by
    unfold go
    split
    · exact go_out t _ o out
    · split
      · split
        · rfl
        · rw [List.append_assoc]; exact go_out t _ o _
      · split
        · exact go_out t _ o out
        · rfl
/-- a row that is empty, or begins with a document, does not hang on what was ahead -/
theorem go_fresh (es : List Ev.E) (d d' : D) (out : List (List Ar.Nd)) (h : ∀ x t, es = x :: t → x.kind = 0) : go d out es = go d' out es := by
  cases es with
  | nil => rfl
  | cons x t => unfold go; rw [if_pos (h x t rfl), if_pos (h x t rfl)]
theorem go_app : ∀ (xs bs : List Ev.E) (d : D) (out : List (List Ar.Nd)), (∀ x t, bs = x :: t → x.kind = 0) →
    go d out (xs ++ bs) = (go d out xs).bind fun o => go D.new o bs
  | [], bs, d, out, h => go_fresh bs d D.new out h
  | x :: t, bs, d, out, h => by
    rw [List.cons_append, go_cons, go_cons]
    split
    · exact go_app t bs _ _ h
    · split
      · split
        · rfl
        · exact go_app t bs _ _ h
      · split
        · exact go_app t bs _ _ h
        · rfl
theorem right_head (es : List Ev.E) (h : Evn.Ev.right es = true) : ∀ x t, es = x :: t → x.kind = 0 := by
  intro x t e
  subst e
  unfold Evn.Ev.right at h
  simp only [Bool.and_eq_true, decide_eq_true_eq] at h
  have hn := (Ev.nested_iff _).1 h.2.2
  apply Classical.byContradiction
  intro hx
  have e : Ev.kinds (x :: t) = x.kind :: Ev.kinds t := rfl
  rw [e] at hn
  have e2 : Ev.step [] x.kind = none := by simp only [Ev.step, if_neg hx]
  unfold Ev.run at hn
  rw [e2] at hn
  cases hn
end Co
end Go.Proofs.YtbimjdlkffbncaaDoor
namespace Go.Proofs.YtbimjdlkffbncaaDoor
namespace Fl
open Ar (at' Nd)
theorem atN (g : List Nd) (i : Nat) : at' g ((i : Nat) : Int) = g.getD i Ar.nd0 := rfl
theorem at_left (g h : List Nd) (i : Nat) (hi : i < g.length) : at' (g ++ h) ((i : Nat) : Int) = at' g ((i : Nat) : Int) := by
  rw [atN, atN, List.getD_eq_getElem?_getD, List.getD_eq_getElem?_getD, List.getElem?_append_left hi]
theorem at_here (g h : List Nd) (x : Nd) (i : Nat) (hi : i = g.length) : at' (g ++ (x :: h)) ((i : Nat) : Int) = x := by
  rw [atN, List.getD_eq_getElem?_getD, List.getElem?_append_right (by omega), hi, Nat.sub_self]; rfl
theorem set_left {α : Type} (g h : List α) (i : Nat) (y : α) (hi : i < g.length) : (g ++ h).set i y = g.set i y ++ h := by
  rw [List.set_append, if_pos hi]
theorem set_here {α : Type} (g h : List α) (x y : α) (i : Nat) (hi : i = g.length) : (g ++ (x :: h)).set i y = g ++ (y :: h) := by
  rw [List.set_append, if_neg (by omega), hi, Nat.sub_self]; rfl
theorem take_more {α : Type} (n : List α) (a b c : Nat) (h1 : a ≤ b) (h2 : b ≤ c) : (n.drop a).take (b - a) ++ (n.drop b).take (c - b) = (n.drop a).take (c - a) := by
  have e1 : c - a = (b - a) + (c - b) := by omega
  have e2 : n.drop b = (n.drop a).drop (b - a) := by rw [List.drop_drop]; congr 1; omega
  rw [e1, e2, List.take_add]
/-- behind a node that was hung on what is open -/
def hung (g : List Nd) (opn : List Nat) (a : Nat) : List Nd := if opn = [] then g else g.set (opn.getLastD 0) (Co.addKid (at' g ((opn.getLastD 0 : Nat) : Int)) a)
theorem hung_len (g : List Nd) (opn : List Nat) (a : Nat) : (hung g opn a).length = g.length := by
  unfold hung; split
  · rfl
  · rw [List.length_set]
theorem atQ (g : List Nd) (i : Nat) : at' g ((i : Nat) : Int) = (g[i]?).getD Ar.nd0 := by rw [atN, List.getD_eq_getElem?_getD]
theorem hung_kind (g : List Nd) (opn : List Nat) (a i : Nat) : (at' (hung g opn a) ((i : Nat) : Int)).kind = (at' g ((i : Nat) : Int)).kind := by
  unfold hung
  split
  · rfl
  · obtain ⟨y, hy⟩ : ∃ y, at' g ((opn.getLastD 0 : Nat) : Int) = y := ⟨_, rfl⟩
    rw [hy, atQ, atQ, List.getElem?_set]
    split
    · rename_i h
      split
      · rw [← atQ, ← h, hy]; rfl
      · rename_i h2
        rw [List.getElem?_eq_none (show g.length ≤ i by omega)]
    · rfl
theorem hung_app (g h : List Nd) (opn : List Nat) (a : Nat) (ho : ∀ o ∈ opn, o < g.length) : hung (g ++ h) opn a = hung g opn a ++ h := by
  unfold hung
  split
  · rfl
  · rename_i hne
    have hl : opn.getLastD 0 < g.length := ho _ (by
      cases opn with
      | nil => exact absurd rfl hne
      | cons x t => rw [List.getLastD_cons]; exact List.getLastD_mem_cons ..)
    rw [set_left _ _ _ _ hl, at_left _ _ _ hl]
/-- may a node be hung on what is open? -/
def MayHang (n : List Nd) (d : Co.D) (a : Nat) : Prop :=
  d.opn = [] ∨ ¬ ((at' d.g ((d.opn.getLastD 0 : Nat) : Int)).kind = 2 ∧ (at' d.g ((d.opn.getLastD 0 : Nat) : Int)).kids.length % 2 = 0 ∧ (at' n ((a : Nat) : Int)).kind ≠ 0)
theorem hang_ok (n : List Nd) (d : Co.D) (a : Nat) (h : MayHang n d a) (hk : (at' d.g ((a : Nat) : Int)).kind = (at' n ((a : Nat) : Int)).kind) : Co.hang d a = (0, ⟨hung d.g d.opn a, d.names, d.opn⟩) := by
  unfold Co.hang hung
  by_cases ho : d.opn = []
  · rw [if_pos ho, if_pos ho]
  · rw [if_neg ho, if_neg ho]
    rcases h with h | h
    · exact absurd h ho
    · rw [← hk] at h
      simp only
      rw [if_neg h]
/-- what was read fits the graph, as far as it was told -/
structure Fit (n : List Nd) (an : List (List UInt8)) (d : Co.D) (m : Nat) : Prop where
  len : d.g.length = m
  kind : ∀ i, i < m → (at' d.g ((i : Nat) : Int)).kind = (at' n ((i : Nat) : Int)).kind
  names : ∀ i, i < m → an.getD i [] ≠ [] → d.names.lookup (an.getD i []) = some i
  opn : ∀ o ∈ d.opn, o < m
theorem lookup_self (a : List UInt8) (i : Nat) (l : List (List UInt8 × Nat)) : ((a, i) :: l).lookup a = some i := by
  rw [List.lookup_cons]; simp
theorem lookup_other (a b : List UInt8) (i : Nat) (l : List (List UInt8 × Nat)) (h : b ≠ a) : ((a, i) :: l).lookup b = l.lookup b := by
  rw [List.lookup_cons]
  have : (b == a) = false := beq_eq_false_iff_ne.2 h
  rw [this]
theorem pairs_key (g : List Nd) : ∀ (pre : List Int) (k : Int) (t : List Int), Ar.pairs g (pre ++ k :: t) = true → pre.length % 2 = 0 → (at' g k).kind = 0
  | [], k, [], h, _ => by simp [Ar.pairs] at h
  | [], k, _ :: t, h, _ => by
    simp only [List.nil_append, Ar.pairs, Bool.and_eq_true, beq_iff_eq] at h
    exact h.1
  | [a], k, t, h, hl => by simp at hl
  | a :: b :: pre, k, t, h, hl => by
    simp only [List.cons_append, Ar.pairs, Bool.and_eq_true] at h
    exact pairs_key g pre k t h.2 (by simp at hl; omega)
/-- an event of a node begins one -/
theorem take_node (d : Co.D) (x : Ev.E) (h : x.kind = 6 ∨ x.kind = 2 ∨ x.kind = 4) : Co.take d x = Co.add d x := by
  unfold Co.take
  rw [if_neg (by omega), if_neg (by omega)]
theorem go_node (d : Co.D) (x : Ev.E) (acc : List (List Nd)) (t : List Ev.E) (h0 : x.kind ≠ 0) (h1 : x.kind ≠ 1) (d' : Co.D) (h : Co.take d x = (0, d')) : Co.go d acc (x :: t) = Co.go d' acc t := by
  conv => lhs; unfold Co.go
  rw [if_neg h0, if_neg h1, h, if_pos rfl]
/-- what the whole graph has to be -/
structure Whole (n : List Nd) (an : List (List UInt8)) (T : List Nat) : Prop where
  len : n.length ≤ 2000
  may : ∀ a, a < n.length → Ar.mayBe n (at' n ((a : Nat) : Int)) = true
  kids : Ar.Kids n
  inj : ∀ x y, an.getD x [] ≠ [] → an.getD x [] = an.getD y [] → x = y
  twice : ∀ x, x < n.length → 2 ≤ T.count x → an.getD x [] ≠ []
theorem foldl_pre2 {α : Type} (f : Nat × List Nat → α → Nat × List Nat) (hf : ∀ s k, s.2 <+: (f s k).2) : ∀ (ks : List α) (s : Nat × List Nat), s.2 <+: (ks.foldl f s).2
  | [], _ => List.prefix_refl _
  | k :: t, s => (hf s k).trans (foldl_pre2 f hf t (f s k))
theorem trace_pre (g : List Nd) : ∀ (f a : Nat) (s : Nat × List Nat), s.2 <+: (trace f g a s).2
  | 0, _, _ => List.prefix_refl _
  | f + 1, a, s => by
    unfold trace
    split
    · exact List.prefix_append _ _
    · exact (List.prefix_append s.2 [a]).trans (foldl_pre2 (fun s (k : Int) => trace f g k.toNat s) (fun s k => trace_pre g f _ s) (at' g ((a : Nat) : Int)).kids (s.1 + 1, s.2 ++ [a]))
/-- what a call of 'tell' comes to -/
def Comes (n : List Nd) (an : List (List UInt8)) (f a m : Nat) (d : Co.D) (g' : List Nd) : Prop :=
  ∃ m' es d', Ar.meet f n a (List.range m) = List.range m' ∧ m ≤ m' ∧ m' ≤ n.length ∧ (∀ out, tell f n an a (m, out) = (m', out ++ es)) ∧ Fit n an d' m' ∧ d'.opn = d.opn ∧ d'.g = g' ++ (n.drop m).take (m' - m)
    ∧ ∀ acc rest, Co.go d acc (es ++ rest) = Co.go d' acc rest
def withKids (x : Nd) (ks : List Int) : Nd := ⟨x.kind, x.tag, x.text, ks⟩
theorem back_fold (n : List Nd) (an : List (List UInt8)) (T : List Nat) (hW : Whole n an T) (f p : Nat) (opn : List Nat) (G : List Nd) (hG : G.length = p) (hp : p < n.length)
    (ih : ∀ (a m : Nat) (tr : List Nat) (d : Co.D), Ar.meet f n a (List.range m) <+: List.range n.length → n.length + 1 ≤ f + m → a < n.length → Fit n an d m → MayHang n d a → (trace f n a (m, tr)).2 <+: T → (∀ i, i < m → i ∈ tr) →
      Comes n an f a m d (hung d.g d.opn a)) :
    ∀ (ks pre : List Int) (m : Nat) (tr : List Nat) (d : Co.D), pre ++ ks = (at' n ((p : Nat) : Int)).kids → ks.foldl (fun s k => Ar.meet f n k.toNat s) (List.range m) <+: List.range n.length → n.length + 1 ≤ f + m → p + 1 ≤ m →
      Fit n an d m → d.opn = opn ++ [p] → d.g = G ++ (withKids (at' n ((p : Nat) : Int)) pre :: (n.drop (p + 1)).take (m - (p + 1))) → (ks.foldl (fun s (k : Int) => trace f n k.toNat s) (m, tr)).2 <+: T → (∀ i, i < m → i ∈ tr) →
      ∃ m' es d', ks.foldl (fun s k => Ar.meet f n k.toNat s) (List.range m) = List.range m' ∧ m ≤ m' ∧ m' ≤ n.length ∧ (∀ out, ks.foldl (fun s k => tell f n an k.toNat s) (m, out) = (m', out ++ es)) ∧ Fit n an d' m' ∧ d'.opn = opn ++ [p]
        ∧ d'.g = G ++ (withKids (at' n ((p : Nat) : Int)) (pre ++ ks) :: (n.drop (p + 1)).take (m' - (p + 1))) ∧ ∀ acc rest, Co.go d acc (es ++ rest) = Co.go d' acc rest
  | [], pre, m, tr, d, _, hpf, _, _, hF, ho, hg, _, _ => by
    refine ⟨m, [], d, rfl, Nat.le_refl _, ?_, fun out => by simp, hF, ho, by rw [List.append_nil]; exact hg, fun acc rest => rfl⟩
    have := hpf.length_le
    simpa using this
  | k :: t, pre, m, tr, d, hks, hpf, hf, hpm, hF, ho, hg, hT, htr => by
    rw [List.foldl_cons] at hpf hT
    have hp1 := (foldl_pre (fun s (k : Int) => Ar.meet f n k.toNat s) (fun s k => meet_pre n f _ s) t (Ar.meet f n k.toNat (List.range m))).trans hpf
    have hT1 := (foldl_pre2 (fun s (k : Int) => trace f n k.toNat s) (fun s k => trace_pre n f _ s) t (trace f n k.toNat (m, tr))).trans hT
    have hkm : k ∈ (at' n ((p : Nat) : Int)).kids := by rw [← hks]; simp
    obtain ⟨hk0, hkn⟩ := hW.kids.at' hp k hkm
    have hlast : d.opn.getLastD 0 = p := by rw [ho]; simp
    have hatp : at' d.g ((p : Nat) : Int) = withKids (at' n ((p : Nat) : Int)) pre := by rw [hg]; exact at_here _ _ _ _ hG.symm
    have hMH : MayHang n d k.toNat := by
      refine .inr fun h => ?_
      rw [hlast, hatp] at h
      obtain ⟨h1, h2, h3⟩ := h
      have hmay := hW.may p hp
      have h1 : (at' n ((p : Nat) : Int)).kind = 2 := h1
      have hpr := Ar.mayBe_pairs hmay h1
      rw [← hks] at hpr
      have := pairs_key n pre k t hpr h2
      rw [Ar.at_nat] at h3
      exact h3 this
    obtain ⟨m1, e1, d1, h1, hmm, hmn, h2, h3, h4, h5, h6⟩ := ih k.toNat m tr d hp1 hf hkn hF hMH hT1 htr
    obtain ⟨m1', tr1, q1, q2, _, q3⟩ := trace_told n n.length f k.toNat m tr hp1 hf
    rw [h1] at q1
    obtain rfl : m1 = m1' := by have := congrArg List.length q1; simpa using this
    rw [q2] at hT
    rw [h1] at hpf
    have hne : d.opn ≠ [] := by rw [ho]; simp
    have hg1 : d1.g = G ++ (withKids (at' n ((p : Nat) : Int)) (pre ++ [k]) :: (n.drop (p + 1)).take (m1 - (p + 1))) := by
      rw [h5]
      unfold hung
      rw [if_neg hne, hlast, hatp, hg, set_here _ _ _ _ _ hG.symm, List.append_assoc, List.cons_append, take_more n (p + 1) m m1 hpm hmm]
      have : Co.addKid (withKids (at' n ((p : Nat) : Int)) pre) k.toNat = withKids (at' n ((p : Nat) : Int)) (pre ++ [k]) := by
        unfold Co.addKid withKids
        rw [Int.toNat_of_nonneg hk0]
      rw [this]
    obtain ⟨m2, e2, d2, g1, gm, gn, g2, g3, g4, g5, g6⟩ := back_fold n an T hW f p opn G hG hp ih t (pre ++ [k]) m1 (tr ++ tr1) d1 (by rw [← hks]; simp) hpf (by omega) (by omega) h3 (by rw [h4, ho]) hg1 hT (fun i hi => by
      by_cases hi2 : i < m
      · exact List.mem_append_left _ (htr i hi2)
      · exact List.mem_append_right _ (q3.2 i (by omega) hi))
    refine ⟨m2, e1 ++ e2, d2, ?_, by omega, gn, fun out => ?_, g3, g4, ?_, fun acc rest => ?_⟩
    · rw [List.foldl_cons, h1, g1]
    · rw [List.foldl_cons, h2, g2, List.append_assoc]
    · rw [g5]; simp
    · rw [List.append_assoc, h6, g6]
theorem tell_back (n : List Nd) (an : List (List UInt8)) (T : List Nat) (hW : Whole n an T) :
    ∀ (f a m : Nat) (tr : List Nat) (d : Co.D), Ar.meet f n a (List.range m) <+: List.range n.length → n.length + 1 ≤ f + m → a < n.length → Fit n an d m → MayHang n d a → (trace f n a (m, tr)).2 <+: T → (∀ i, i < m → i ∈ tr) →
      Comes n an f a m d (hung d.g d.opn a)
  | 0, a, m, tr, d, hp, hf, _, _, _, _, _ => by
    have := hp.length_le
    have h2 : Ar.meet 0 n a (List.range m) = List.range m := rfl
    rw [h2] at this
    simp at this
    omega
  | f + 1, a, m, tr, d, hp, hf, han, hF, hMH, hT, htr => by
    unfold Comes
    unfold Ar.meet at hp ⊢
    unfold tell
    unfold trace at hT
    rw [contains_range] at hp ⊢
    by_cases ha : a < m
    · rw [if_pos (decide_eq_true ha)] at hp ⊢
      rw [if_pos ha] at hT
      have hmn : m ≤ n.length := by have := hp.length_le; simpa using this
      have hc : 2 ≤ T.count a := by
        have h1 : (tr ++ [a]).count a ≤ T.count a := (hT.sublist).count_le a
        have h2 : 0 < tr.count a := List.count_pos_iff.2 (htr a ha)
        rw [List.count_append, count_one] at h1
        unfold one at h1
        rw [if_pos rfl] at h1
        omega
      have hne := hW.twice a han hc
      have hlk := hF.names a ha hne
      have hh := hang_ok n d a hMH (hF.kind a ha)
      have hk7 : (alias' (an.getD a [])).kind = 7 := rfl
      have htk : Co.take d (alias' (an.getD a [])) = (0, ⟨hung d.g d.opn a, d.names, d.opn⟩) := by
        unfold Co.take
        rw [if_neg (by rw [hk7]; decide), if_pos hk7]
        show (match d.names.lookup (an.getD a []) with | none => _ | some a => Co.hang d a) = _
        rw [hlk]
        exact hh
      refine ⟨m, [alias' (an.getD a [])], ⟨hung d.g d.opn a, d.names, d.opn⟩, rfl, Nat.le_refl _, hmn, fun out => by rw [if_pos ha], ⟨by rw [hung_len]; exact hF.len, fun i hi => by rw [hung_kind]; exact hF.kind i hi, hF.names, hF.opn⟩, rfl, by simp, fun acc rest => ?_⟩
      exact go_node d _ acc rest (by rw [hk7]; decide) (by rw [hk7]; decide) _ htk
    · have hd : decide (a < m) = false := decide_eq_false ha
      rw [hd, if_neg (by decide)] at hp ⊢
      rw [if_neg ha] at hT
      have hp1 := (foldl_pre (fun s (k : Int) => Ar.meet f n k.toNat s) (fun s k => meet_pre n f _ s) (at' n ((a : Nat) : Int)).kids (List.range m ++ [a])).trans hp
      have hr := range_pre hp1
      have hl : (List.range m ++ [a]).length = m + 1 := by simp
      rw [hl, List.range_succ] at hr
      obtain rfl : a = m := by simpa using List.append_cancel_left hr
      rw [← List.range_succ] at hp ⊢
      have hmay := hW.may a han
      have hTa := may_tell hmay
      have hek := event_kind _ hTa
      obtain ⟨htag, htext, _, _⟩ := tag_back n _ hmay
      have hat : at' n ((a : Nat) : Int) = n[a] := Ar.at_mem n a han
      obtain ⟨X, hX⟩ : ∃ X, at' n ((a : Nat) : Int) = X := ⟨_, rfl⟩
      obtain ⟨A, hA⟩ : ∃ A, an.getD a [] = A := ⟨_, rfl⟩
      have hda : (n.drop a) = X :: n.drop (a + 1) := by rw [← hX, hat]; exact List.drop_eq_getElem_cons han
      rw [hX] at hmay hTa hek htag htext hp hT ⊢
      rw [hA]
      have hkof : Co.kindOf (event X).kind = X.kind := by
        rw [hek]
        rcases hTa with ⟨h, _⟩ | h | h
        · rw [h]; rfl
        · rw [h]; rfl
        · rw [h]; rfl
      have hlenA := hF.len
      -- the node is added
      obtain ⟨d1, hd1⟩ : ∃ d1, d1 = Co.named (anch A (event X)) a ⟨hung d.g d.opn a ++ [withKids X []], d.names, d.opn⟩ := ⟨_, rfl⟩
      have hadd : Co.take d (anch A (event X)) = (0, d1) := by
        rw [take_node _ _ (by
          show (event X).kind = 6 ∨ (event X).kind = 2 ∨ (event X).kind = 4
          rw [hek]
          split
          · exact .inl rfl
          · split
            · exact .inr (.inl rfl)
            · exact .inr (.inr rfl))]
        unfold Co.add
        rw [if_neg (by have := hW.len; omega)]
        have ht : Co.tagOf (anch A (event X)) = .ok X.tag := htag
        rw [ht]
        simp only
        have hx0 : (⟨Co.kindOf (anch A (event X)).kind, X.tag, (anch A (event X)).text, []⟩ : Nd) = withKids X [] := by
          unfold withKids
          show (⟨Co.kindOf (event X).kind, X.tag, (event X).text, []⟩ : Nd) = _
          rw [hkof, htext]
        rw [hx0, hlenA]
        have hMH2 : MayHang n ⟨d.g ++ [withKids X []], d.names, d.opn⟩ a := by
          rcases hMH with h | h
          · exact .inl h
          · by_cases ho : d.opn = []
            · exact .inl ho
            · refine .inr ?_
              have hlt : d.opn.getLastD 0 < d.g.length := by
                rw [hlenA]
                apply hF.opn
                cases hq : d.opn with
                | nil => exact absurd hq ho
                | cons x t => rw [List.getLastD_cons]; exact List.getLastD_mem_cons ..
              show ¬ ((at' (d.g ++ [withKids X []]) ((d.opn.getLastD 0 : Nat) : Int)).kind = 2 ∧ (at' (d.g ++ [withKids X []]) ((d.opn.getLastD 0 : Nat) : Int)).kids.length % 2 = 0 ∧ _)
              rw [at_left _ _ _ hlt]
              exact h
        have hh := hang_ok n ⟨d.g ++ [withKids X []], d.names, d.opn⟩ a hMH2 (by
          show (at' (d.g ++ [withKids X []]) ((a : Nat) : Int)).kind = _
          rw [at_here _ _ _ _ hlenA.symm, hX]; rfl)
        rw [hh, if_pos rfl, hd1]
        show (0, Co.named _ a ⟨hung (d.g ++ [withKids X []]) d.opn a, d.names, d.opn⟩) = _
        rw [hung_app _ _ _ _ (by rw [hlenA]; exact hF.opn)]
      have hg1 : d1.g = hung d.g d.opn a ++ [withKids X []] := by rw [hd1]; rfl
      have hF1 : Fit n an d1 (a + 1) := by
        refine ⟨by rw [hg1, List.length_append, hung_len, hlenA]; rfl, fun i hi => ?_, fun i hi hne => ?_, fun o ho => ?_⟩
        · rw [hg1]
          by_cases hia : i < a
          · rw [at_left _ _ _ (by rw [hung_len, hlenA]; exact hia), hung_kind]
            exact hF.kind i hia
          · obtain rfl : i = a := by omega
            rw [at_here _ _ _ _ (by rw [hung_len]; exact hlenA.symm), hX]; rfl
        · rw [hd1]
          show (if A = [] then d.names else (A, a) :: d.names).lookup _ = _
          by_cases hia : i < a
          · have hlk := hF.names i hia hne
            split
            · exact hlk
            · rw [lookup_other _ _ _ _ (fun e => by rw [← hA] at e; have := hW.inj i a hne e; omega)]
              exact hlk
          · obtain rfl : i = a := by omega
            rw [hA] at hne ⊢
            rw [if_neg hne]
            exact lookup_self _ _ _
        · rw [hd1] at ho
          have ho : o ∈ (if Co.kindOf (event X).kind = 0 then d.opn else d.opn ++ [a]) := ho
          split at ho
          · have := hF.opn o ho; omega
          · rcases List.mem_append.1 ho with h | h
            · have := hF.opn o h; omega
            · rw [List.mem_singleton.1 h]; omega
      have hkind0 : (anch A (event X)).kind ≠ 0 ∧ (anch A (event X)).kind ≠ 1 := by
        show (event X).kind ≠ 0 ∧ (event X).kind ≠ 1
        rw [hek]
        split
        · decide
        · split <;> decide
      by_cases h0 : X.kind = 0
      · have hks : X.kids = [] := by
          rcases hTa with ⟨_, h⟩ | h | h
          · exact h
          · omega
          · omega
        rw [hks]
        have hself : withKids X [] = X := by
          obtain ⟨k, t, s, ks⟩ := X
          simp only at hks
          subst hks; rfl
        refine ⟨a + 1, [anch A (event X)], d1, rfl, Nat.le_succ _, by omega, fun out => ?_, hF1, ?_, ?_, fun acc rest => ?_⟩
        · rw [if_neg ha, h0]
          simp only [List.foldl_nil]
          show (a + 1, (out ++ [_]) ++ []) = _
          rw [List.append_nil]
        · rw [hd1]
          show (if Co.kindOf (event X).kind = 0 then d.opn else d.opn ++ [a]) = _
          rw [hkof, if_pos h0]
        · rw [hg1, hself, hda, show a + 1 - a = 1 by omega]
          rfl
        · exact go_node d _ acc rest hkind0.1 hkind0.2 d1 hadd
      · have hk12 : X.kind = 1 ∨ X.kind = 2 := by
          rcases hTa with ⟨h, _⟩ | h
          · exact absurd h h0
          · exact h
        have hop1 : d1.opn = d.opn ++ [a] := by
          rw [hd1]
          show (if Co.kindOf (event X).kind = 0 then d.opn else d.opn ++ [a]) = _
          rw [hkof, if_neg h0]
        obtain ⟨m', es, d', g1, gm, gn, g2, g3, g4, g5, g6⟩ := back_fold n an T hW f a d.opn (hung d.g d.opn a) (by rw [hung_len]; exact hlenA) han
          (fun a m tr d => tell_back n an T hW f a m tr d) X.kids [] (a + 1) (tr ++ [a]) d1 (by rw [hX]; rfl) hp (by omega) (Nat.le_refl _) hF1 hop1 (by rw [hg1, hX, Nat.sub_self]; rfl) hT (fun i hi => by
            by_cases hia : i < a
            · exact List.mem_append_left _ (htr i hia)
            · exact List.mem_append_right _ (List.mem_singleton.2 (by omega)))
        obtain ⟨c, hc, hc0, hc1, hc35⟩ : ∃ c, closing X.kind = [c] ∧ c.kind ≠ 0 ∧ c.kind ≠ 1 ∧ (c.kind = 3 ∨ c.kind = 5) := by
          rcases hk12 with h | h
          · exact ⟨bare 3, by rw [h]; rfl, by decide, by decide, .inl rfl⟩
          · exact ⟨bare 5, by rw [h]; rfl, by decide, by decide, .inr rfl⟩
        have htc : Co.take d' c = (0, ⟨d'.g, d'.names, d.opn⟩) := by
          unfold Co.take
          rw [if_pos hc35, g4, List.dropLast_concat]
        refine ⟨m', [anch A (event X)] ++ (es ++ [c]), ⟨d'.g, d'.names, d.opn⟩, g1, by omega, gn, fun out => ?_, ⟨g3.len, g3.kind, g3.names, fun o ho => by have := hF.opn o ho; omega⟩, rfl, ?_, fun acc rest => ?_⟩
        · rw [if_neg ha]
          simp only
          rw [g2, hc]
          simp
        · show d'.g = _
          have hself : withKids X ([] ++ X.kids) = X := rfl
          rw [g5, hX, hself, hda, show m' - a = (m' - (a + 1)) + 1 by omega, List.take_succ_cons]
        · rw [List.append_assoc, List.append_assoc]
          show Co.go d acc (anch A (event X) :: (es ++ ([c] ++ rest))) = _
          rw [go_node d _ acc _ hkind0.1 hkind0.2 d1 hadd, g6]
          exact go_node d' c acc rest hc0 hc1 _ htc
theorem whole_normal (g : List Nd) (hr : Ar.right g = true) : ∃ T, trace ((Ar.normal g).length + 1) (Ar.normal g) 0 (0, []) = ((Ar.normal g).length, T) ∧ Whole (Ar.normal g) (anchors (Ar.normal g)) T := by
  have hn := Ar.normal_right g hr
  obtain ⟨T, h1, h2⟩ := trace_all _ (normal_inOrder g hr)
  have hl := Ar.ins_len _ hn
  refine ⟨T, h1, (right_len hn).2, fun a ha => ?_, right_kids hn, fun x y hx hxy => names_inj _ _ _ _ hx hxy, fun x hx h => ?_⟩
  · rw [Ar.at_mem _ a ha]
    exact (Ar.right_parts hn).1 _ (List.getElem_mem ha)
  · unfold anchors
    rw [names_get _ _ _ (by rw [addRoot_len, hl]; exact hx), addRoot_get _ _ (by rw [hl]; exact hx), ins_asKid _ hn x hx]
    rw [h2 x] at h
    omega
theorem normal_pos (g : List Nd) (hr : Ar.right g = true) : 0 < (Ar.normal g).length := (right_len (Ar.normal_right g hr)).1
/-- the graph of a document that was told -/
theorem doc_back (g : List Nd) (hr : Ar.right g = true) (acc : List (List Nd)) (d : Co.D) (rest : List Ev.E) : ∃ d', Co.go d acc (doc g ++ rest) = Co.go d' (acc ++ [Ar.normal g]) rest := by
  have hn := Ar.normal_right g hr
  have h0 := normal_pos g hr
  obtain ⟨T, hT, hW⟩ := whole_normal g hr
  have hO := normal_inOrder g hr
  unfold doc
  generalize Ar.normal g = n at *
  have hp : Ar.meet (n.length + 1) n 0 (List.range 0) <+: List.range n.length := by
    show Ar.meet (n.length + 1) n 0 [] <+: _
    rw [hO.order]
    exact List.prefix_refl _
  obtain ⟨m', es, d', h1, _, _, h2, h3, h4, h5, h6⟩ := tell_back n (anchors n) T hW (n.length + 1) 0 0 [] Co.D.new hp (by omega) h0 ⟨rfl, fun i hi => absurd hi (by omega), fun i hi => absurd hi (by omega), fun o ho => by cases ho⟩ (.inl rfl) (by rw [hT]; exact List.prefix_refl _) (fun i hi => absurd hi (by omega))
  have h1 : Ar.meet (n.length + 1) n 0 [] = List.range m' := h1
  rw [hO.order] at h1
  obtain rfl : n.length = m' := by have := congrArg List.length h1; simpa using this
  have hg : d'.g = n := by
    rw [h5]
    show [] ++ (n.drop 0).take (n.length - 0) = n
    simp
  refine ⟨d', ?_⟩
  have hd : docN n ++ rest = bare 0 :: (es ++ (bare 1 :: rest)) := by
    unfold docN
    rw [h2 []]
    simp
  rw [hd, Co.go_cons, if_pos (show (bare 0).kind = 0 from rfl), h6, Co.go_cons, if_neg (show ¬ (bare 1).kind = 0 by decide), if_pos (show (bare 1).kind = 1 from rfl), hg, (Ar.right_parts hn).2, if_neg (by decide)]
theorem docs_back : ∀ (l : List (List Nd)) (acc : List (List Nd)) (d : Co.D), (∀ g ∈ l, Ar.right g = true) → Co.go d acc (l.flatMap doc) = .ok (acc ++ l.map Ar.normal)
  | [], acc, d, _ => by simp [Co.go]
  | g :: t, acc, d, h => by
    rw [List.flatMap_cons]
    obtain ⟨d', h1⟩ := doc_back g (h g List.mem_cons_self) acc d (t.flatMap doc)
    rw [h1, docs_back t _ _ (fun x hx => h x (List.mem_cons_of_mem _ hx))]
    simp
end Fl
end Go.Proofs.YtbimjdlkffbncaaDoor
namespace Go.Proofs.YtbimjdlkffbncaaDoor
namespace Fl
open Ar (at' Nd)
/-- the anchors that are told: the rules of the numbering -/
def runT : List Ev.E → List (List UInt8) → Option (List (List UInt8))
  | [], T => some T
  | x :: t, T =>
    if x.anchor = [] then runT t T
    else if x.kind = 7 then (if T.contains x.anchor = true then runT t T else none)
    else if T.contains x.anchor = true then none
    else if x.anchor = 97 :: Lib.itoa ((T.length + 1 : Nat) : Int) then runT t (T ++ [x.anchor]) else none
def isAsk (x : Ev.E) : Bool := decide (x.kind = 7) && !x.anchor.isEmpty
/-- the anchors that are asked for -/
def asked (es : List Ev.E) : List (List UInt8) := (es.filter isAsk).map (·.anchor)
theorem runT_cons (x : Ev.E) (t : List Ev.E) (T : List (List UInt8)) : runT (x :: t) T = if x.anchor = [] then runT t T
    else if x.kind = 7 then (if T.contains x.anchor = true then runT t T else none)
    else if T.contains x.anchor = true then none
    else if x.anchor = 97 :: Lib.itoa ((T.length + 1 : Nat) : Int) then runT t (T ++ [x.anchor]) else none := rfl
theorem runT_app : ∀ (a b : List Ev.E) (T T' : List (List UInt8)), runT a T = some T' → runT (a ++ b) T = runT b T'
  | [], b, T, T', h => by cases h; rfl
  | x :: t, b, T, T', h => by
    rw [List.cons_append, runT_cons]
    rw [runT_cons] at h
    split at h
    · rename_i h1; rw [if_pos h1]; exact runT_app t b _ _ h
    · rename_i h1
      rw [if_neg h1]
      split at h
      · rename_i h2
        rw [if_pos h2]
        split at h
        · rename_i h3; rw [if_pos h3]; exact runT_app t b _ _ h
        · cases h
      · rename_i h2
        rw [if_neg h2]
        split at h
        · cases h
        · rename_i h3
          rw [if_neg h3]
          split at h
          · rename_i h4; rw [if_pos h4]; exact runT_app t b _ _ h
          · cases h
theorem asked_app (a b : List Ev.E) : asked (a ++ b) = asked a ++ asked b := by unfold asked; rw [List.filter_append, List.map_append]
/-- the anchors of the nodes below a number -/
def toldTo (an : List (List UInt8)) (m : Nat) : List (List UInt8) := (an.take m).filter fun a => !a.isEmpty
theorem toldTo_succ (an : List (List UInt8)) (m : Nat) (hm : m < an.length) : toldTo an (m + 1) = if an.getD m [] = [] then toldTo an m else toldTo an m ++ [an.getD m []] := by
  unfold toldTo
  rw [List.take_succ_eq_append_getElem hm, List.filter_append]
  have e : an.getD m [] = an[m] := by rw [List.getD_eq_getElem?_getD, List.getElem?_eq_getElem hm]; rfl
  rw [e]
  split
  · rename_i h; rw [h]; simp
  · rename_i h
    have : (an[m].isEmpty) = false := by
      cases hh : an[m] with
      | nil => exact absurd hh h
      | cons a t => rfl
    simp [this]
theorem mem_toldTo (an : List (List UInt8)) (m : Nat) (hm : m ≤ an.length) (x : List UInt8) : x ∈ toldTo an m ↔ ∃ i, i < m ∧ an.getD i [] = x ∧ x ≠ [] := by
  unfold toldTo
  rw [List.mem_filter, List.mem_take_iff_getElem]
  constructor
  · rintro ⟨⟨i, hi, rfl⟩, hx⟩
    refine ⟨i, by omega, by rw [List.getD_eq_getElem?_getD, List.getElem?_eq_getElem (by omega)]; rfl, ?_⟩
    intro e
    rw [e] at hx
    cases hx
  · rintro ⟨i, hi, rfl, hx⟩
    refine ⟨⟨i, by omega, by rw [List.getD_eq_getElem?_getD, List.getElem?_eq_getElem (by omega)]; rfl⟩, ?_⟩
    cases hh : an.getD i [] with
    | nil => exact absurd hh hx
    | cons a t => rfl
/-- how anchors are numbered -/
def Numbered (an : List (List UInt8)) : Prop := ∀ m, m < an.length → an.getD m [] ≠ [] → an.getD m [] = 97 :: Lib.itoa (((toldTo an m).length + 1 : Nat) : Int)
theorem names_told : ∀ (cs : List Int) (r x : Nat), x < cs.length → (namesGo r cs).getD x [] ≠ [] → (namesGo r cs).getD x [] = 97 :: Lib.itoa ((r + (toldTo (namesGo r cs) x).length + 1 : Nat) : Int)
  | [], _, x, h, _ => absurd h (by simp)
  | c :: t, r, 0, _, h => by
    have h0 : toldTo (namesGo r (c :: t)) 0 = [] := rfl
    rw [h0]
    unfold namesGo at h ⊢
    by_cases hc : 1 < c
    · rw [if_pos hc]; rfl
    · rw [if_neg hc] at h; exact absurd rfl h
  | c :: t, r, x + 1, hx, h => by
    unfold namesGo at h ⊢
    by_cases hc : 1 < c
    · rw [if_pos hc] at h ⊢
      have ih := names_told t (r + 1) x (by simpa using hx) h
      have e : toldTo ((97 :: Lib.itoa ((r + 1 : Nat) : Int)) :: namesGo (r + 1) t) (x + 1) = (97 :: Lib.itoa ((r + 1 : Nat) : Int)) :: toldTo (namesGo (r + 1) t) x := rfl
      rw [e, List.length_cons]
      show (namesGo (r + 1) t).getD x [] = _
      rw [ih]
      congr 3
      omega
    · rw [if_neg hc] at h ⊢
      have ih := names_told t r x (by simpa using hx) h
      have e : toldTo ([] :: namesGo r t) (x + 1) = toldTo (namesGo r t) x := rfl
      rw [e]
      exact ih
theorem anchors_numbered (n : List Nd) : Numbered (anchors n) := by
  intro m hm h
  have hl : m < (addRoot (Ar.ins n)).length := by
    unfold anchors at hm
    rw [namesGo_len] at hm
    exact hm
  have := names_told _ 0 m hl h
  rw [Nat.zero_add] at this
  exact this
def Comes2 (n : List Nd) (an : List (List UInt8)) (f a m : Nat) (tr : List Nat) : Prop :=
  ∃ m' es tr', Ar.meet f n a (List.range m) = List.range m' ∧ m ≤ m' ∧ m' ≤ n.length ∧ (∀ out, tell f n an a (m, out) = (m', out ++ es)) ∧ trace f n a (m, tr) = (m', tr ++ tr') ∧ (∀ i, m ≤ i → i < m' → i ∈ tr')
    ∧ runT es (toldTo an m) = some (toldTo an m') ∧ ∀ i, an.getD i [] ≠ [] → (asked es).count (an.getD i []) + (if m ≤ i ∧ i < m' then 1 else 0) = tr'.count i
theorem ind_split (m m1 m2 i : Nat) (h1 : m ≤ m1) (h2 : m1 ≤ m2) : (if m ≤ i ∧ i < m2 then 1 else 0) = (if m ≤ i ∧ i < m1 then 1 else 0) + (if m1 ≤ i ∧ i < m2 then 1 else 0 : Nat) := by
  by_cases a : m ≤ i ∧ i < m1
  · rw [if_pos a, if_pos ⟨a.1, by omega⟩, if_neg (by omega)]
  · by_cases b : m1 ≤ i ∧ i < m2
    · rw [if_neg a, if_pos b, if_pos ⟨by omega, b.2⟩]
    · rw [if_neg a, if_neg b, if_neg (by omega)]
theorem anc_fold (n : List Nd) (an : List (List UInt8)) (T : List Nat) (hk : Ar.Kids n) (f p : Nat) (hp : p < n.length)
    (ih : ∀ (a m : Nat) (tr : List Nat), Ar.meet f n a (List.range m) <+: List.range n.length → n.length + 1 ≤ f + m → a < n.length → (trace f n a (m, tr)).2 <+: T → (∀ i, i < m → i ∈ tr) → Comes2 n an f a m tr) :
    ∀ (ks : List Int) (m : Nat) (tr : List Nat), (∀ k ∈ ks, k ∈ (at' n ((p : Nat) : Int)).kids) → ks.foldl (fun s k => Ar.meet f n k.toNat s) (List.range m) <+: List.range n.length → n.length + 1 ≤ f + m → (ks.foldl (fun s (k : Int) => trace f n k.toNat s) (m, tr)).2 <+: T → (∀ i, i < m → i ∈ tr) →
      ∃ m' es tr', ks.foldl (fun s k => Ar.meet f n k.toNat s) (List.range m) = List.range m' ∧ m ≤ m' ∧ m' ≤ n.length ∧ (∀ out, ks.foldl (fun s k => tell f n an k.toNat s) (m, out) = (m', out ++ es)) ∧ ks.foldl (fun s (k : Int) => trace f n k.toNat s) (m, tr) = (m', tr ++ tr') ∧ (∀ i, m ≤ i → i < m' → i ∈ tr')
        ∧ runT es (toldTo an m) = some (toldTo an m') ∧ ∀ i, an.getD i [] ≠ [] → (asked es).count (an.getD i []) + (if m ≤ i ∧ i < m' then 1 else 0) = tr'.count i
  | [], m, tr, _, hpf, _, _, _ => by
    refine ⟨m, [], [], rfl, Nat.le_refl _, ?_, fun out => by simp, by simp, fun i h1 h2 => absurd h1 (by omega), rfl, fun i _ => ?_⟩
    · have := hpf.length_le
      simpa using this
    · rw [if_neg (by omega)]; rfl
  | k :: t, m, tr, hks, hpf, hf, hT, htr => by
    rw [List.foldl_cons] at hpf hT
    have hp1 := (foldl_pre (fun s (k : Int) => Ar.meet f n k.toNat s) (fun s k => meet_pre n f _ s) t (Ar.meet f n k.toNat (List.range m))).trans hpf
    have hT1 := (foldl_pre2 (fun s (k : Int) => trace f n k.toNat s) (fun s k => trace_pre n f _ s) t (trace f n k.toNat (m, tr))).trans hT
    obtain ⟨hk0, hkn⟩ := hk.at' hp k (hks k List.mem_cons_self)
    obtain ⟨m1, e1, t1, h1, hmm, hmn, h2, h3, h4, h5, h6⟩ := ih k.toNat m tr hp1 hf hkn hT1 htr
    rw [h3] at hT
    rw [h1] at hpf
    obtain ⟨m2, e2, t2, g1, gm, gn, g2, g3, g4, g5, g6⟩ := anc_fold n an T hk f p hp ih t m1 (tr ++ t1) (fun k hk => hks k (List.mem_cons_of_mem _ hk)) hpf (by omega) hT (fun i hi => by
      by_cases hi2 : i < m
      · exact List.mem_append_left _ (htr i hi2)
      · exact List.mem_append_right _ (h4 i (by omega) hi))
    refine ⟨m2, e1 ++ e2, t1 ++ t2, ?_, by omega, gn, fun out => ?_, ?_, fun i hi1 hi2 => ?_, ?_, fun i hi => ?_⟩
    · rw [List.foldl_cons, h1, g1]
    · rw [List.foldl_cons, h2, g2, List.append_assoc]
    · rw [List.foldl_cons, h3, g3, List.append_assoc]
    · by_cases hi : i < m1
      · exact List.mem_append_left _ (h4 i hi1 hi)
      · exact List.mem_append_right _ (g4 i (by omega) hi2)
    · rw [runT_app _ _ _ _ h5]; exact g5
    · rw [asked_app, List.count_append, List.count_append, ← h6 i hi, ← g6 i hi, ind_split m m1 m2 i hmm gm]
      omega
theorem anc_tell (n : List Nd) (an : List (List UInt8)) (T : List Nat) (hW : Whole n an T) (hal : an.length = n.length) (hN : Numbered an) :
    ∀ (f a m : Nat) (tr : List Nat), Ar.meet f n a (List.range m) <+: List.range n.length → n.length + 1 ≤ f + m → a < n.length → (trace f n a (m, tr)).2 <+: T → (∀ i, i < m → i ∈ tr) → Comes2 n an f a m tr
  | 0, a, m, tr, hp, hf, _, _, _ => by
    have := hp.length_le
    have h2 : Ar.meet 0 n a (List.range m) = List.range m := rfl
    rw [h2] at this
    simp at this
    omega
  | f + 1, a, m, tr, hp, hf, han, hT, htr => by
    unfold Comes2
    unfold Ar.meet at hp ⊢
    unfold tell
    unfold trace at hT ⊢
    rw [contains_range] at hp ⊢
    by_cases ha : a < m
    · rw [if_pos (decide_eq_true ha)] at hp ⊢
      rw [if_pos ha] at hT ⊢
      have hmn : m ≤ n.length := by have := hp.length_le; simpa using this
      have hc : 2 ≤ T.count a := by
        have h1 : (tr ++ [a]).count a ≤ T.count a := (hT.sublist).count_le a
        have h2 : 0 < tr.count a := List.count_pos_iff.2 (htr a ha)
        rw [List.count_append, count_one] at h1
        unfold one at h1
        rw [if_pos rfl] at h1
        omega
      have hne := hW.twice a han hc
      have hmem : (toldTo an m).contains (an.getD a []) = true := List.contains_iff_mem.2 ((mem_toldTo an m (by omega) _).2 ⟨a, ha, rfl, hne⟩)
      have hk7 : (alias' (an.getD a [])).kind = 7 := rfl
      have hka : (alias' (an.getD a [])).anchor = an.getD a [] := rfl
      refine ⟨m, [alias' (an.getD a [])], [a], rfl, Nat.le_refl _, hmn, fun out => by rw [if_pos ha], rfl, fun i h1 h2 => absurd h1 (by omega), ?_, fun i hi => ?_⟩
      · rw [runT_cons, hka, if_neg hne, if_pos hk7, if_pos hmem]; rfl
      · rw [if_neg (by omega)]
        have e1 : asked [alias' (an.getD a [])] = [an.getD a []] := by
          unfold asked
          have : isAsk (alias' (an.getD a [])) = true := by
            unfold isAsk
            rw [hk7, hka]
            cases hh : an.getD a [] with
            | nil => exact absurd hh hne
            | cons b t => rfl
          rw [List.filter_cons, if_pos this]
          rfl
        rw [e1, List.count_singleton, List.count_singleton]
        by_cases hia : a = i
        · subst hia; simp
        · have : (an.getD a [] == an.getD i []) = false := beq_eq_false_iff_ne.2 (fun e => hia (hW.inj a i hne e))
          have h2 : (a == i) = false := beq_eq_false_iff_ne.2 hia
          rw [this, h2]; rfl
    · have hd : decide (a < m) = false := decide_eq_false ha
      rw [hd, if_neg (by decide)] at hp ⊢
      rw [if_neg ha] at hT ⊢
      have hp1 := (foldl_pre (fun s (k : Int) => Ar.meet f n k.toNat s) (fun s k => meet_pre n f _ s) (at' n ((a : Nat) : Int)).kids (List.range m ++ [a])).trans hp
      have hr := range_pre hp1
      have hl : (List.range m ++ [a]).length = m + 1 := by simp
      rw [hl, List.range_succ] at hr
      obtain rfl : a = m := by simpa using List.append_cancel_left hr
      rw [← List.range_succ] at hp ⊢
      have hTa := may_tell (hW.may a han)
      have hek := event_kind _ hTa
      obtain ⟨m', es, tr', g1, gm, gn, g2, g3, g4, g5, g6⟩ := anc_fold n an T hW.kids f a han (fun a m tr => anc_tell n an T hW hal hN f a m tr) (at' n ((a : Nat) : Int)).kids (a + 1) (tr ++ [a]) (fun k hk => hk) hp (by omega) hT (fun i hi => by
        by_cases hia : i < a
        · exact List.mem_append_left _ (htr i hia)
        · exact List.mem_append_right _ (List.mem_singleton.2 (by omega)))
      obtain ⟨e0, he0⟩ : ∃ e0, anch (an.getD a []) (event (at' n ((a : Nat) : Int))) = e0 := ⟨_, rfl⟩
      have hk0 : e0.kind ≠ 7 := by
        rw [← he0]
        show (event _).kind ≠ 7
        rw [hek]
        split
        · decide
        · split <;> decide
      have ha0 : e0.anchor = an.getD a [] := by rw [← he0]; rfl
      have hhead : runT [e0] (toldTo an a) = some (toldTo an (a + 1)) := by
        rw [runT_cons, ha0, toldTo_succ an a (by omega)]
        by_cases h0 : an.getD a [] = []
        · rw [if_pos h0, if_pos h0]; rfl
        · rw [if_neg h0, if_neg h0, if_neg hk0]
          have hnc : ¬ (toldTo an a).contains (an.getD a []) = true := by
            intro hc
            obtain ⟨i, hi, e, _⟩ := (mem_toldTo an a (by omega) _).1 (List.contains_iff_mem.1 hc)
            have := hW.inj a i h0 e.symm
            omega
          rw [if_neg hnc, if_pos (hN a (by omega) h0)]
          rfl
      have hask0 : asked [e0] = [] := by
        unfold asked
        have : isAsk e0 = false := by unfold isAsk; rw [decide_eq_false hk0]; rfl
        rw [List.filter_cons, if_neg (by rw [this]; decide)]
        rfl
      obtain ⟨cl, hcl, hcr, hca⟩ : ∃ cl, closing (at' n ((a : Nat) : Int)).kind = cl ∧ (∀ T, runT cl T = some T) ∧ asked cl = [] := by
        unfold closing
        split
        · exact ⟨_, rfl, fun T => rfl, rfl⟩
        · split
          · exact ⟨_, rfl, fun T => rfl, rfl⟩
          · exact ⟨_, rfl, fun T => rfl, rfl⟩
      refine ⟨m', [e0] ++ (es ++ cl), [a] ++ tr', g1, by omega, gn, fun out => ?_, by rw [g3, List.append_assoc], fun i hi1 hi2 => ?_, ?_, fun i hi => ?_⟩
      · rw [if_neg ha]
        simp only
        rw [he0, g2, hcl]
        simp
      · by_cases hia : i = a
        · subst hia; exact List.mem_append_left _ (List.mem_singleton.2 rfl)
        · exact List.mem_append_right _ (g4 i (by omega) hi2)
      · rw [runT_app _ _ _ _ hhead, runT_app _ _ _ _ g5]
        exact hcr _
      · rw [asked_app, asked_app, hask0, hca, List.append_nil, List.nil_append, List.count_append, ← g6 i hi, ind_split a (a + 1) m' i (by omega) gm, count_one]
        unfold one
        by_cases hia : a = i
        · subst hia; rw [if_pos ⟨Nat.le_refl _, Nat.lt_succ_self _⟩, if_pos rfl]; omega
        · rw [if_neg (by omega), if_neg hia]; omega
/-- what was told and asked stays told -/
theorem runT_sub : ∀ (es : List Ev.E) (T T' : List (List UInt8)), runT es T = some T' → T.Nodup → T'.Nodup ∧ (∀ x ∈ T, x ∈ T') ∧ ∀ x ∈ asked es, x ∈ T'
  | [], T, T', h, hn => by cases h; exact ⟨hn, fun x hx => hx, fun x hx => by cases hx⟩
  | x :: t, T, T', h, hn => by
    have hcons : ∀ y, y ∈ asked (x :: t) → (y = x.anchor ∧ x.kind = 7 ∧ x.anchor ≠ []) ∨ y ∈ asked t := by
      intro y hy
      rw [show x :: t = [x] ++ t from rfl, asked_app] at hy
      rcases List.mem_append.1 hy with hy | hy
      · unfold asked at hy
        rw [List.mem_map] at hy
        obtain ⟨z, hz, rfl⟩ := hy
        rw [List.mem_filter, List.mem_singleton] at hz
        obtain ⟨rfl, hz⟩ := hz
        unfold isAsk at hz
        rw [Bool.and_eq_true, decide_eq_true_eq] at hz
        refine .inl ⟨rfl, hz.1, fun e => ?_⟩
        rw [e] at hz
        cases hz.2
      · exact .inr hy
    rw [runT_cons] at h
    split at h
    · rename_i h1
      obtain ⟨a, b, c⟩ := runT_sub t T T' h hn
      exact ⟨a, b, fun y hy => (hcons y hy).elim (fun q => absurd h1 q.2.2) (c y)⟩
    · split at h
      · split at h
        · rename_i h3
          obtain ⟨a, b, c⟩ := runT_sub t T T' h hn
          exact ⟨a, b, fun y hy => (hcons y hy).elim (fun q => by rw [q.1]; exact b _ (List.contains_iff_mem.1 h3)) (c y)⟩
        · cases h
      · rename_i h2
        split at h
        · cases h
        · rename_i h3
          split at h
          · have hn2 : (T ++ [x.anchor]).Nodup := List.nodup_append.2 ⟨hn, by simp, fun p hp q hq => by
              rw [List.mem_singleton] at hq
              subst hq
              exact fun e => h3 (List.contains_iff_mem.2 (e ▸ hp))⟩
            obtain ⟨a, b, c⟩ := runT_sub t _ T' h hn2
            exact ⟨a, fun y hy => b y (List.mem_append_left _ hy), fun y hy => (hcons y hy).elim (fun q => absurd q.2.1 h2) (c y)⟩
          · cases h
theorem doc_anchors (g : List Nd) (hr : Ar.right g = true) : ∃ T, runT (doc g) [] = some T ∧ T.Nodup ∧ ∀ x, x ∈ asked (doc g) ↔ x ∈ T := by
  have hn := Ar.normal_right g hr
  have h0 := normal_pos g hr
  obtain ⟨Tr, hT, hW⟩ := whole_normal g hr
  have hO := normal_inOrder g hr
  obtain ⟨Tr2, hT2, hcnt⟩ := trace_all _ hO
  obtain rfl : Tr = Tr2 := by rw [hT] at hT2; injection hT2
  have hal : (anchors (Ar.normal g)).length = (Ar.normal g).length := by unfold anchors; rw [namesGo_len, addRoot_len, Ar.ins_len _ hn]
  have hil := Ar.ins_len _ hn
  unfold doc
  generalize Ar.normal g = n at *
  have hp : Ar.meet (n.length + 1) n 0 (List.range 0) <+: List.range n.length := by
    show Ar.meet (n.length + 1) n 0 [] <+: _
    rw [hO.order]
    exact List.prefix_refl _
  obtain ⟨m', es, tr', h1, _, _, h2, h3, _, h5, h6⟩ := anc_tell n (anchors n) Tr hW hal (anchors_numbered n) (n.length + 1) 0 0 [] hp (by omega) h0 (by rw [hT]; exact List.prefix_refl _) (fun i hi => absurd hi (by omega))
  have h1 : Ar.meet (n.length + 1) n 0 [] = List.range m' := h1
  rw [hO.order] at h1
  obtain rfl : n.length = m' := by have := congrArg List.length h1; simpa using this
  rw [hT] at h3
  obtain rfl : Tr = tr' := by injection h3
  have hd : docN n = [bare 0] ++ (es ++ [bare 1]) := by
    unfold docN
    rw [h2 []]
    rfl
  have hrun : runT (docN n) [] = some (toldTo (anchors n) n.length) := by
    have h5 : runT es [] = some (toldTo (anchors n) n.length) := h5
    rw [hd, runT_app [bare 0] _ [] [] rfl, runT_app es _ _ _ h5]
    rfl
  have hask : asked (docN n) = asked es := by
    rw [hd, asked_app, asked_app]
    show [] ++ (asked es ++ []) = _
    simp
  obtain ⟨q1, q2, q3⟩ := runT_sub _ _ _ hrun List.nodup_nil
  refine ⟨_, hrun, q1, fun x => ⟨q3 x, fun hx => ?_⟩⟩
  obtain ⟨i, hi, rfl, hne⟩ := (mem_toldTo _ _ (by omega) x).1 hx
  rw [hask]
  have h7 := h6 i hne
  rw [if_pos ⟨Nat.zero_le _, hi⟩, hcnt i] at h7
  have hne2 := hne
  unfold anchors at hne2
  rw [names_get _ _ _ (by rw [addRoot_len, hil]; exact hi), addRoot_get _ _ (by rw [hil]; exact hi), ins_asKid _ hn i hi] at hne2
  exact List.count_pos_iff.1 (by omega)
end Fl
end Go.Proofs.YtbimjdlkffbncaaDoor
