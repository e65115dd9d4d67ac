/-
  Rows of events that a call reads, or owns; what a call keeps, but for blocks of some types.
-/
import Derived.Test.YtbimjdlkffbncaaDoorAm
import Derived.Test.YtbimjdlkffbncaaDoorVa
import Derived.Deep.RegionHeld3
import Derived.Deep.AppendLies
import Derived.Laws.AppendOwnNone
namespace Go.Proofs.YtbimjdlkffbncaaDoor
open Go.RowKit

/-- the cells of an event -/
def evCells (x : Ev.E) : List Value := [.int .i64 x.kind, .string (str x.anchor), .string (str x.tag), .string (str x.text), .bool x.plain]
/-- an event lies at a place -/
structure EvAt (w : World) (g o : Nat) (x : Ev.E) : Prop where
  kind : w.cell? ⟨g, o, none⟩ = some (.int .i64 x.kind)
  anchor : w.cell? ⟨g, o + 1, none⟩ = some (.string (str x.anchor))
  tag : w.cell? ⟨g, o + 2, none⟩ = some (.string (str x.tag))
  text : w.cell? ⟨g, o + 3, none⟩ = some (.string (str x.text))
  plain : w.cell? ⟨g, o + 4, none⟩ = some (.bool x.plain)
theorem EvAt.below {w w' : World} {B g o : Nat} {x : Ev.E} (h : EvAt w g o x) (hb : Below B w w') (hg : g < B) : EvAt w' g o x where
  kind := (hb.cell (p := ⟨g, o, none⟩) hg).trans h.kind
  anchor := (hb.cell (p := ⟨g, o + 1, none⟩) hg).trans h.anchor
  tag := (hb.cell (p := ⟨g, o + 2, none⟩) hg).trans h.tag
  text := (hb.cell (p := ⟨g, o + 3, none⟩) hg).trans h.text
  plain := (hb.cell (p := ⟨g, o + 4, none⟩) hg).trans h.plain
/-- a slice that reads as a row of events (of the program's, or of the document's) -/
def RdE (w : World) (B : Nat) (v : Value) (es : List Ev.E) : Prop :=
  ∃ a c, v = .slice a es.length c ∧ es.length ≤ c ∧ (0 < es.length → ∃ g o, a = some ⟨g, o, none⟩ ∧ g < B ∧ ∀ j (hj : j < es.length), EvAt w g (o + j * 5) es[j])
theorem RdE.below {w w' : World} {B : Nat} {v : Value} {es : List Ev.E} (h : RdE w B v es) (hb : Below B w w') : RdE w' B v es := by
  obtain ⟨a, c, hv, hc, h1⟩ := h
  refine ⟨a, c, hv, hc, fun h0 => ?_⟩
  obtain ⟨g, o, ha, hg, hcl⟩ := h1 h0
  exact ⟨g, o, ha, hg, fun j hj => (hcl j hj).below hb hg⟩
theorem RdE.mono {w : World} {B C : Nat} {v : Value} {es : List Ev.E} (h : RdE w B v es) (hb : B ≤ C) : RdE w C v es := by
  obtain ⟨a, c, hv, hc, h1⟩ := h
  refine ⟨a, c, hv, hc, fun h0 => ?_⟩
  obtain ⟨g, o, ha, hg, hcl⟩ := h1 h0
  exact ⟨g, o, ha, Nat.lt_of_lt_of_le hg hb, hcl⟩
def Ev.kinds (es : List Ev.E) : List Int := es.map (·.kind)
theorem Ev.kinds_len (es : List Ev.E) : (Ev.kinds es).length = es.length := List.length_map _
theorem Ev.kinds_drop (es : List Ev.E) (j : Nat) (h : j < es.length) : (Ev.kinds es).drop j = es[j].kind :: (Ev.kinds es).drop (j + 1) := by
  unfold Ev.kinds
  rw [List.drop_eq_getElem_cons (by simpa using h), List.getElem_map]

def evsCells (es : List Ev.E) : List Value := es.flatMap evCells
theorem evsCells_snoc (es : List Ev.E) (x : Ev.E) : evsCells (es ++ [x]) = evsCells es ++ evCells x := by
  unfold evsCells; rw [List.flatMap_append]; simp
theorem evsCells_at (es : List Ev.E) : ∀ (j : Nat) (h : j < es.length) (i : Nat), i < 5 → (evsCells es)[j * 5 + i]? = (evCells es[j])[i]? := by
  induction es with
  | nil => intro j h; simp at h
  | cons x t ih =>
    intro j h i hi
    have hx : (evCells x).length = 5 := rfl
    have e : evsCells (x :: t) = evCells x ++ evsCells t := rfl
    rw [e]
    cases j with
    | zero => rw [List.getElem?_append_left (by omega)]; simp
    | succ j =>
      rw [List.getElem?_append_right (by omega), hx, show (j + 1) * 5 + i - 5 = j * 5 + i by omega, ih j (by simpa using h) i hi]
      simp
/-- events that the call owns -/
def OwnE (w : World) (B : Nat) (v : Value) (es : List Ev.E) : Prop := w.ownsRow B 40 5 v es.length (evsCells es)
theorem OwnE.below {w w' : World} {B : Nat} {v : Value} {es : List Ev.E} (h : OwnE w B v es) (hb : Below w.heap.size w w') : OwnE w' B v es := row_below h hb
/-- a row that a call owns is read as events, whatever its type's number -/
theorem rowE_rd {w : World} {B t : Nat} {v : Value} {es : List Ev.E} (h : w.ownsRow B t 5 v es.length (evsCells es)) : RdE w w.heap.size v es := by
  have h' := h
  rcases h.2 with ⟨rfl, h0⟩ | ⟨g, cap, cur, rfl, hB, hh, hnc, hr⟩
  · have : es = [] := List.eq_nil_of_length_eq_zero h0
    subst this
    exact ⟨none, 0, rfl, Nat.le_refl _, fun h => absurd h (by simp)⟩
  · refine ⟨_, cap, rfl, hnc, fun _ => ⟨g, 0, rfl, (Array.getElem?_eq_some_iff.1 hh).1, fun j hj => ?_⟩⟩
    have hc := World.ownsRow.cells h' (g := g) rfl
    have hadd : ∀ k, (⟨g, 0, none⟩ : Addr).add k = ⟨g, k, none⟩ := fun k => by unfold Addr.add; split <;> simp_all
    have at_ : ∀ (i : Nat) (u : Value), i < 5 → (evCells es[j])[i]? = some u → w.cell? ⟨g, 0 + j * 5 + i, none⟩ = some u := fun i u hi hu => by
      rw [Nat.zero_add, ← hadd]
      exact hc _ _ ((evsCells_at es j hj i hi).trans hu)
    exact ⟨at_ 0 _ (by decide) rfl, at_ 1 _ (by decide) rfl, at_ 2 _ (by decide) rfl, at_ 3 _ (by decide) rfl, at_ 4 _ (by decide) rfl⟩
theorem infoE : (Tryd.prog.info? 40).map (fun i => (i.zero, i.size, i.bytes)) = some (some (.agg #[.int .i64 0, .string ⟨#[]⟩, .string ⟨#[]⟩, .string ⟨#[]⟩, .bool false]), 5, 64) := by kernel_rfl

theorem evsCells_len (es : List Ev.E) : (evsCells es).length = es.length * 5 := by
  induction es with
  | nil => rfl
  | cons x t ih =>
    have e : evsCells (x :: t) = evCells x ++ evsCells t := rfl
    rw [e, List.length_append, ih]; simp [evCells]; omega
theorem evsCells_app (a b : List Ev.E) : evsCells (a ++ b) = evsCells a ++ evsCells b := by unfold evsCells; rw [List.flatMap_append]
theorem evsCells_one (es : List Ev.E) : ∀ u ∈ evsCells es, u.oneCell' = true := by
  intro u hu
  unfold evsCells at hu
  rw [List.mem_flatMap] at hu
  obtain ⟨p, _, hu⟩ := hu
  unfold evCells at hu
  simp only [List.mem_cons, List.not_mem_nil, or_false] at hu
  rcases hu with rfl | rfl | rfl | rfl | rfl <;> rfl
/-- append(x, y...), as an equation of its run -/
theorem run_appE (w : World) (ty : TypeId) (B B' : Nat) (v u : Value) (xs ys : List Ev.E) (hv : OwnE w B v xs) (hu : OwnE w B' u ys) (hl : xs.length + ys.length ≤ 2199023255489) (hB : B ≤ w.heap.size) :
    ∃ v' w', (Builtin.append_ #[29, 29] ty #[v, u]).run Tryd.prog w = .ok v' w' ∧ OwnE w' B v' (xs ++ ys) ∧ Below B w w' ∧ ∀ k, k < w.heap.size → v.ownBlock ≠ some k → w'.heap[k]? = w.heap[k]? := by
  obtain ⟨i0, hi, hz0, hz1, hz2⟩ := info_parts infoE
  have hu' := hu
  rcases hu.2 with ⟨e, h0⟩ | ⟨g, c, cur, e, _, _⟩
  · subst e
    have : ys = [] := List.length_eq_zero_iff.1 h0
    subst this
    refine ⟨v, w, run_append_owned_none (P := Tryd.prog) (w := w) B 29 ty 40 i0 5 Tryd.underlying29 hi v xs.length (evsCells xs) hv, ?_, Below.refl B w, fun _ _ _ => rfl⟩
    rw [List.append_nil]; exact hv
  subst e
  obtain ⟨v', w', hr, h2, h3, _, _⟩ := run_append_own_at (P := Tryd.prog) w B 29 ty 40 i0 _ 5 64 Tryd.underlying29 hi hz0 hz1 hz2 rfl (by decide) v xs.length (evsCells xs) hv ⟨g, 0, none⟩ ys.length c (evsCells ys) (evsCells_len ys) (World.ownsRow.cells hu' (g := g) rfl) (evsCells_one ys) (by simp only [maxLen]; omega) (by omega) hB
  refine ⟨v', w', hr, ?_, (Below.refl B w).grown h3 hB (fun k hk => (World.ownsRow.lt hv k hk).1), fun k hk hne => h3.block k hk hne.symm⟩
  unfold OwnE
  rw [List.length_append, evsCells_app]; exact h2

/-- the block of a struct: its cells, which are not frozen -/
theorem five {w : World} {b : Nat} {a0 a1 a2 a3 a4 : Value} {t : TypeId} (h : w.heap[b]? = some (.cells #[a0, a1, a2, a3, a4] t)) :
    (w.cell? ⟨b, 0, none⟩ = some a0 ∧ w.cell? ⟨b, 1, none⟩ = some a1 ∧ w.cell? ⟨b, 2, none⟩ = some a2 ∧ w.cell? ⟨b, 3, none⟩ = some a3 ∧ w.cell? ⟨b, 4, none⟩ = some a4) ∧ (w.frozen? ⟨b, 0, none⟩ = false ∧ w.frozen? ⟨b, 1, none⟩ = false ∧ w.frozen? ⟨b, 2, none⟩ = false ∧ w.frozen? ⟨b, 3, none⟩ = false ∧ w.frozen? ⟨b, 4, none⟩ = false) :=
  ⟨⟨cell_blk h 0 _ rfl, cell_blk h 1 _ rfl, cell_blk h 2 _ rfl, cell_blk h 3 _ rfl, cell_blk h 4 _ rfl⟩, frozen_blk h 0, frozen_blk h 1, frozen_blk h 2, frozen_blk h 3, frozen_blk h 4⟩

theorem two {w : World} {b : Nat} {a0 a1 : Value} {t : TypeId} (h : w.heap[b]? = some (.cells #[a0, a1] t)) :
    (w.cell? ⟨b, 0, none⟩ = some a0 ∧ w.cell? ⟨b, 1, none⟩ = some a1) ∧ (w.frozen? ⟨b, 0, none⟩ = false ∧ w.frozen? ⟨b, 1, none⟩ = false) :=
  ⟨⟨cell_blk h 0 _ rfl, cell_blk h 1 _ rfl⟩, frozen_blk h 0, frozen_blk h 1⟩
theorem three {w : World} {b : Nat} {a0 a1 a2 : Value} {t : TypeId} (h : w.heap[b]? = some (.cells #[a0, a1, a2] t)) :
    (w.cell? ⟨b, 0, none⟩ = some a0 ∧ w.cell? ⟨b, 1, none⟩ = some a1 ∧ w.cell? ⟨b, 2, none⟩ = some a2) ∧ (w.frozen? ⟨b, 0, none⟩ = false ∧ w.frozen? ⟨b, 1, none⟩ = false ∧ w.frozen? ⟨b, 2, none⟩ = false) :=
  ⟨⟨cell_blk h 0 _ rfl, cell_blk h 1 _ rfl, cell_blk h 2 _ rfl⟩, frozen_blk h 0, frozen_blk h 1, frozen_blk h 2⟩
theorem four {w : World} {b : Nat} {a0 a1 a2 a3 : Value} {t : TypeId} (h : w.heap[b]? = some (.cells #[a0, a1, a2, a3] t)) :
    (w.cell? ⟨b, 0, none⟩ = some a0 ∧ w.cell? ⟨b, 1, none⟩ = some a1 ∧ w.cell? ⟨b, 2, none⟩ = some a2 ∧ w.cell? ⟨b, 3, none⟩ = some a3) ∧ (w.frozen? ⟨b, 0, none⟩ = false ∧ w.frozen? ⟨b, 1, none⟩ = false ∧ w.frozen? ⟨b, 2, none⟩ = false ∧ w.frozen? ⟨b, 3, none⟩ = false) :=
  ⟨⟨cell_blk h 0 _ rfl, cell_blk h 1 _ rfl, cell_blk h 2 _ rfl, cell_blk h 3 _ rfl⟩, frozen_blk h 0, frozen_blk h 1, frozen_blk h 2, frozen_blk h 3⟩
theorem new_blk (w : World) (o p : Obj) (k : Nat) (h : w.heap[k]? = some o) : (w.alloc p).heap[k]? = some o := by
  show (w.heap.push p)[k]? = _
  rw [Array.getElem?_push, if_neg (by have := (Array.getElem?_eq_some_iff.1 h).1; omega)]; exact h
theorem new_at (w : World) (o : Obj) (k : Nat) (h : k = w.heap.size) : (w.alloc o).heap[k]? = some o := by subst h; exact alloc_blk w o
theorem bset2 {B g : Nat} {w w1 : World} {a b : Value} (h : Below B w w1) (hg : B ≤ g) : Below B w ((w1.setCell ⟨g, 0, none⟩ a).setCell ⟨g, 1, none⟩ b) := Below.setCell (p := ⟨g, 1, none⟩) (Below.setCell (p := ⟨g, 0, none⟩) h hg a) hg b
theorem bset5 {B g : Nat} {w w1 : World} {a b c d e : Value} (h : Below B w w1) (hg : B ≤ g) : Below B w (((((w1.setCell ⟨g, 0, none⟩ a).setCell ⟨g, 1, none⟩ b).setCell ⟨g, 2, none⟩ c).setCell ⟨g, 3, none⟩ d).setCell ⟨g, 4, none⟩ e) :=
  Below.setCell (p := ⟨g, 4, none⟩) (Below.setCell (p := ⟨g, 3, none⟩) (Below.setCell (p := ⟨g, 2, none⟩) (bset2 h hg) hg c) hg d) hg e
theorem bdrew {B : Nat} {a b : World} (h : Below B a b) : Below B a b.drew := ⟨h.os, h.tape, h.output, h.size, h.block⟩
/-- all that stood stays, but for blocks of these types, and what is older than B -/
structure Keep (ts : List TypeId) (B : Nat) (w w' : World) : Prop where
  below : Below B w w'
  rest : ∀ (k : Nat) (o : Obj), w.heap[k]? = some o → (∀ c t fr, o = .cells c t fr → t ∉ ts) → w'.heap[k]? = some o
theorem Keep.refl (ts : List TypeId) (B : Nat) (w : World) : Keep ts B w w := ⟨Below.refl _ _, fun _ _ h _ => h⟩
theorem Keep.trans {ts : List TypeId} {B : Nat} {a b c : World} (h : Keep ts B a b) (k : Keep ts B b c) : Keep ts B a c := ⟨h.below.trans k.below, fun i o hi ht => k.rest i o (h.rest i o hi ht) ht⟩
theorem Keep.size {ts : List TypeId} {B : Nat} {w w' : World} (h : Keep ts B w w') : w.heap.size ≤ w'.heap.size := h.below.size
theorem keep_of {ts : List TypeId} {B : Nat} {w w' : World} (h : Below w.heap.size w w') (hB : B ≤ w.heap.size) : Keep ts B w w' := ⟨h.mono hB, fun _ _ hk _ => blk_below hk h⟩
theorem Keep.blk {ts : List TypeId} {B : Nat} {w w' : World} (h : Keep ts B w w') {k : Nat} {c : Array Value} {t : TypeId} {fr : Nat × Nat} (hk : w.heap[k]? = some (.cells c t fr)) (ht : t ∉ ts) : w'.heap[k]? = some (.cells c t fr) :=
  h.rest k _ hk fun _ _ _ e => by cases e; exact ht
theorem Keep.row {ts : List TypeId} {B : Nat} {w w' : World} (h : Keep ts B w w') {b e z n : Nat} {v : Value} {xs : List Value} (hr : w.ownsRow b e z v n xs) (ht : e ∉ ts) : w'.ownsRow b e z v n xs := by
  obtain ⟨h1, h2⟩ := hr
  refine ⟨h1, ?_⟩
  rcases h2 with h2 | ⟨g, cap, cur, hv, hB, hh, hr⟩
  · exact .inl h2
  · exact .inr ⟨g, cap, cur, hv, hB, h.blk hh ht, hr⟩
theorem keep_set {ts : List TypeId} {B : Nat} {w : World} {b i : Nat} {v : Value} {c : Array Value} {t : TypeId} {fr : Nat × Nat} (hb : w.heap[b]? = some (.cells c t fr)) (ht : t ∈ ts) (hB : B ≤ b) : Keep ts B w (w.setCell ⟨b, i, none⟩ v) := by
  refine ⟨(Below.refl B w).setCell hB v, fun k o hk hn => ?_⟩
  unfold World.setCell
  simp only
  rw [Array.getElem?_modify]
  by_cases he : b = k
  · subst he
    rw [hb] at hk
    cases hk
    exact absurd ht (hn _ _ _ rfl)
  · rw [if_neg he]; exact hk
theorem keep_row {ts : List TypeId} {B b e z n : Nat} {w w' : World} {v : Value} {xs : List Value} (hr : w.ownsRow b e z v n xs) (ht : e ∈ ts) (hb : Below B w w') (h : ∀ k, k < w.heap.size → v.ownBlock ≠ some k → w'.heap[k]? = w.heap[k]?) : Keep ts B w w' := by
  refine ⟨hb, fun k o hk hn => ?_⟩
  rw [h k (Array.getElem?_eq_some_iff.1 hk).1 ?_]
  · exact hk
  · intro he
    rcases hr.2 with ⟨rfl, _⟩ | ⟨g, cap, cur, rfl, _, hh, _⟩
    · cases he
    · have e1 : g = k := by simpa [Value.ownBlock] using he
      subst e1
      rw [hh] at hk
      cases hk
      exact hn _ _ _ rfl ht

theorem Keep.set {ts : List TypeId} {B : Nat} {w w' : World} (h : Keep ts B w w') {b i : Nat} {v : Value} {c : Array Value} {t : TypeId} {fr : Nat × Nat} (hb : w'.heap[b]? = some (.cells c t fr)) (ht : t ∈ ts) (hB : B ≤ b) : Keep ts B w (w'.setCell ⟨b, i, none⟩ v) := h.trans (keep_set hb ht hB)
theorem Keep.fresh {ts : List TypeId} {B : Nat} {w w' : World} (h : Keep ts B w w') {b i : Nat} {v : Value} (hb : w.heap.size ≤ b) (hB : B ≤ w.heap.size) : Keep ts B w (w'.setCell ⟨b, i, none⟩ v) :=
  ⟨h.below.setCell (p := ⟨b, i, none⟩) (Nat.le_trans hB hb) v, fun k o hk hn => other_set (h.rest k o hk hn) ⟨b, i, none⟩ v (fun e => by have := (Array.getElem?_eq_some_iff.1 hk).1; simp only at e; omega)⟩
theorem Keep.alloc {ts : List TypeId} {B : Nat} {w w' : World} (h : Keep ts B w w') (hB : B ≤ w.heap.size) (o : Obj) : Keep ts B w (w'.alloc o) := h.trans (keep_of (bnew w' o) (Nat.le_trans hB h.size))
theorem Keep.call {ts : List TypeId} {B : Nat} {w w1 w2 : World} (h : Keep ts B w w1) (hb : Below w1.heap.size w1 w2) (hB : B ≤ w.heap.size) : Keep ts B w w2 := h.trans (keep_of hb (Nat.le_trans hB h.size))
theorem Keep.drew {ts : List TypeId} {B : Nat} {w w' : World} (h : Keep ts B w w') : Keep ts B w w'.drew := ⟨bdrew h.below, h.rest⟩
theorem own_not {w : World} {B e z n : Nat} {v : Value} {xs : List Value} (h : w.ownsRow B e z v n xs) {k : Nat} (hk : w.heap.size ≤ k) : v.ownBlock ≠ some k := fun e => by have := (World.ownsRow.lt h k e).2; omega
theorem Keep.wide {ts us : List TypeId} {B : Nat} {w w' : World} (h : Keep ts B w w') (hs : ∀ t ∈ ts, t ∈ us) : Keep us B w w' := ⟨h.below, fun k o hk hn => h.rest k o hk fun c t fr e ht => hn c t fr e (hs t ht)⟩
/-- 'append' of an event that lies in a block of its own -/
theorem wp_pushE {o : Oper} {a : Act} {w0 : World} {K : Act → World → Prop} {Q : Exit → Act → World → Prop} (s x : Operand)
    (ho : o.op = .call { callee := .builtin .append, args := #[s, x], argTypes := #[29, 29] }) (B : Nat) (v : Value) (es : List Ev.E) (y : Ev.E) (g c : Nat) (fr : Nat × Nat)
    (hs : a.eval s = v) (hx : a.eval x = .slice (some ⟨g, 0, none⟩) 1 c) (hg : w0.heap[g]? = some (.cells #[.int .i64 y.kind, .string (str y.anchor), .string (str y.tag), .string (str y.text), .bool y.plain] 40 fr)) (hown : OwnE w0 B v es) (hl : es.length ≤ 2199023255488) (hB : B ≤ w0.heap.size)
    (h : ∀ v' w', OwnE w' B v' (es ++ [y]) → Keep [40] B w0 w' → (∀ k, k < w0.heap.size → v.ownBlock ≠ some k → w'.heap[k]? = w0.heap[k]?) → K (a.put o.dst v') w') : o.wp Tryd.prog a w0 K Q := by
  obtain ⟨i0, hi, hz0, hz1, hz2⟩ := info_parts infoE
  refine wp_append_own _ s x 29 ho B 40 i0 _ 5 64 Tryd.underlying29 hi hz0 hz1 hz2 rfl (by decide) v es.length (evsCells es) hs hown ⟨g, 0, none⟩ 1 c (evCells y) hx rfl
    (World.news_of_block hg) (fun u hu => by unfold evCells at hu; simp only [List.mem_cons, List.not_mem_nil, or_false] at hu; rcases hu with rfl | rfl | rfl | rfl | rfl <;> rfl) (by simp only [maxLen]; omega) (by omega) hB ?_
  intro v' w' ho' hg' _
  refine h v' w' ?_ (keep_row hown (by simp) ((Below.refl B w0).grown hg' hB (fun k hk => (World.ownsRow.lt hown k hk).1)) (fun k hk hne => hg'.block k hk hne.symm)) (fun k hk hne => hg'.block k hk hne.symm)
  unfold OwnE
  rw [List.length_append, evsCells_snoc]
  exact ho'
theorem wpList_pushE {ops : Array Oper} {rest : List Oper} {o : Oper} {a : Act} {w0 : World} {Q : Exit → Act → World → Prop} (hgd : o.guard = none) (s x : Operand)
    (ho : o.op = .call { callee := .builtin .append, args := #[s, x], argTypes := #[29, 29] }) (B : Nat) (v : Value) (es : List Ev.E) (y : Ev.E) (g c : Nat) (fr : Nat × Nat)
    (hs : a.eval s = v) (hx : a.eval x = .slice (some ⟨g, 0, none⟩) 1 c) (hg : w0.heap[g]? = some (.cells #[.int .i64 y.kind, .string (str y.anchor), .string (str y.tag), .string (str y.text), .bool y.plain] 40 fr)) (hown : OwnE w0 B v es) (hl : es.length ≤ 2199023255488) (hB : B ≤ w0.heap.size)
    (h : ∀ v' w', OwnE w' B v' (es ++ [y]) → Keep [40] B w0 w' → (∀ k, k < w0.heap.size → v.ownBlock ≠ some k → w'.heap[k]? = w0.heap[k]?) → wpList Tryd.prog ops Q rest (a.put o.dst v') w') : wpList Tryd.prog ops Q (o :: rest) a w0 :=
  wpList_plain hgd fun _ hK => wp_pushE s x ho B v es y g c fr hs hx hg hown hl hB fun v' w' h2 h3 h4 => hK _ _ (h v' w' h2 h3 h4)
theorem step_pushE {ops : Array Oper} {o : Oper} {a : Act} {w0 : World} {K : Act → World → Prop} {Q : Exit → Act → World → Prop} {E : Prop} (hgd : o.guard = none) (s x : Operand)
    (ho : o.op = .call { callee := .builtin .append, args := #[s, x], argTypes := #[29, 29] }) (B : Nat) (v : Value) (es : List Ev.E) (y : Ev.E) (g c : Nat) (fr : Nat × Nat)
    (hs : a.eval s = v) (hx : a.eval x = .slice (some ⟨g, 0, none⟩) 1 c) (hg : w0.heap[g]? = some (.cells #[.int .i64 y.kind, .string (str y.anchor), .string (str y.tag), .string (str y.text), .bool y.plain] 40 fr)) (hown : OwnE w0 B v es) (hl : es.length ≤ 2199023255488) (hB : B ≤ w0.heap.size)
    (h : ∀ v' w', OwnE w' B v' (es ++ [y]) → Keep [40] B w0 w' → (∀ k, k < w0.heap.size → v.ownBlock ≠ some k → w'.heap[k]? = w0.heap[k]?) → K (a.put o.dst v') w') :
    if Region.wanted o (yielded ops a.tmps) = true then Oper.wp Tryd.prog o a w0 K Q else E := by
  have hw : Region.wanted o (yielded ops a.tmps) = true := by simp [Region.wanted, hgd]
  rw [if_pos hw]
  exact wp_pushE s x ho B v es y g c fr hs hx hg hown hl hB h
end Go.Proofs.YtbimjdlkffbncaaDoor
