/-
  The plain functions of arena (which graphs may be), and graphs in memory.
-/
import Derived.Test.YtbimjdlkffbncaaDoorGg
import Derived.Test.YtbimjdlkffbncaaDoorWd
import Derived.Shelf.Abstract
namespace Go.Proofs.YtbimjdlkffbncaaDoor
namespace Ar
/-- a node -/
structure Nd where
  kind : Int
  tag : List UInt8
  text : List UInt8
  kids : List Int
def isNode (n : Nat) (k : Int) : Bool := decide (0 ≤ k) && decide (k < (n : Int))
def isTagOf (c t : List UInt8) : Bool := (t == c) || (Tg.right t && !Tg.core t)
/-- the node at a number (any that is none: a Scalar) -/
def nd0 : Nd := ⟨0, [], [], []⟩
def at' (g : List Nd) (k : Int) : Nd := g.getD k.toNat nd0
/-- has each key a value, and is it a Scalar? -/
def pairs (g : List Nd) : List Int → Bool
  | [] => true
  | [_] => false
  | k :: _ :: t => ((at' g k).kind == 0) && pairs g t
def seqW : List UInt8 := [115, 101, 113]
def mapW : List UInt8 := [109, 97, 112]
/-- may a graph have such a node? (all its kids are nodes) -/
def may1 (g : List Nd) (x : Nd) : Bool :=
  if x.kind = 0 then x.kids.isEmpty && (Lib.validD x.text && Tg.fits x.tag x.text)
  else if x.kind = 1 then x.text.isEmpty && isTagOf seqW x.tag
  else if x.kind = 2 then x.text.isEmpty && (isTagOf mapW x.tag && pairs g x.kids)
  else false
def mayBe (g : List Nd) (x : Nd) : Bool := x.kids.all (isNode g.length) && may1 g x
theorem at_get (g : List Nd) (k : Int) (h0 : 0 ≤ k) (h : k.toNat < g.length) : at' g k = g[k.toNat] := by
  unfold at'; rw [List.getD_eq_getElem?_getD, List.getElem?_eq_getElem h]; rfl
end Ar
open Go.RowKit
/-- numbers at a place -/
def RdI (w : World) (B : Nat) (v : Value) (ks : List Int) : Prop :=
  ∃ a c, v = .slice a ks.length c ∧ ks.length ≤ c ∧ (0 < ks.length → ∃ g o, a = some ⟨g, o, none⟩ ∧ g < B ∧ ∀ j (hj : j < ks.length), w.cell? ⟨g, o + j, none⟩ = some (.int .i64 ks[j]))
theorem RdI.below {w w' : World} {B : Nat} {v : Value} {ks : List Int} (h : RdI w B v ks) (hb : Below B w w') : RdI w' B v ks := by
  obtain ⟨a, c, hv, hc, h1⟩ := h
  refine ⟨a, c, hv, hc, fun h0 => ?_⟩
  obtain ⟨g, o, ha, hg, hcl⟩ := h1 h0
  exact ⟨g, o, ha, hg, fun j hj => (hb.cell (p := ⟨g, o + j, none⟩) hg).trans (hcl j hj)⟩
theorem RdI.mono {w : World} {B C : Nat} {v : Value} {ks : List Int} (h : RdI w B v ks) (hb : B ≤ C) : RdI w C v ks := by
  obtain ⟨a, c, hv, hc, h1⟩ := h
  refine ⟨a, c, hv, hc, fun h0 => ?_⟩
  obtain ⟨g, o, ha, hg, hcl⟩ := h1 h0
  exact ⟨g, o, ha, Nat.lt_of_lt_of_le hg hb, hcl⟩
/-- a node lies at a place -/
structure NdAt (w : World) (B g o : Nat) (x : Ar.Nd) : Prop where
  kind : w.cell? ⟨g, o, none⟩ = some (.int .i64 x.kind)
  tag : w.cell? ⟨g, o + 1, none⟩ = some (.string (str x.tag))
  text : w.cell? ⟨g, o + 2, none⟩ = some (.string (str x.text))
  kids : ∃ a c, w.cell? ⟨g, o + 3, none⟩ = some (.slice a x.kids.length c) ∧ RdI w B (.slice a x.kids.length c) x.kids
theorem NdAt.below {w w' : World} {B g o : Nat} {x : Ar.Nd} (h : NdAt w B g o x) (hb : Below B w w') (hg : g < B) : NdAt w' B g o x := by
  obtain ⟨h0, h1, h2, ⟨a, c, h3, h4⟩⟩ := h
  exact ⟨(hb.cell (p := ⟨g, o, none⟩) hg).trans h0, (hb.cell (p := ⟨g, o + 1, none⟩) hg).trans h1, (hb.cell (p := ⟨g, o + 2, none⟩) hg).trans h2, ⟨a, c, (hb.cell (p := ⟨g, o + 3, none⟩) hg).trans h3, h4.below hb⟩⟩
theorem NdAt.mono {w : World} {B C g o : Nat} {x : Ar.Nd} (h : NdAt w B g o x) (hb : B ≤ C) : NdAt w C g o x := by
  obtain ⟨h0, h1, h2, ⟨a, c, h3, h4⟩⟩ := h
  exact ⟨h0, h1, h2, ⟨a, c, h3, h4.mono hb⟩⟩
/-- a slice that reads as a graph -/
def RdG (w : World) (B : Nat) (v : Value) (ns : List Ar.Nd) : Prop :=
  ∃ a c, v = .slice a ns.length c ∧ ns.length ≤ c ∧ (0 < ns.length → ∃ g, a = some ⟨g, 0, none⟩ ∧ g < B ∧ ∀ j (hj : j < ns.length), NdAt w B g (j * 4) ns[j])
theorem RdG.below {w w' : World} {B : Nat} {v : Value} {ns : List Ar.Nd} (h : RdG w B v ns) (hb : Below B w w') : RdG w' B v ns := by
  obtain ⟨a, c, hv, hc, h1⟩ := h
  refine ⟨a, c, hv, hc, fun h0 => ?_⟩
  obtain ⟨g, ha, hg, hcl⟩ := h1 h0
  exact ⟨g, ha, hg, fun j hj => (hcl j hj).below hb hg⟩
theorem RdG.mono {w : World} {B C : Nat} {v : Value} {ns : List Ar.Nd} (h : RdG w B v ns) (hb : B ≤ C) : RdG w C v ns := by
  obtain ⟨a, c, hv, hc, h1⟩ := h
  refine ⟨a, c, hv, hc, fun h0 => ?_⟩
  obtain ⟨g, ha, hg, hcl⟩ := h1 h0
  exact ⟨g, ha, Nat.lt_of_lt_of_le hg hb, fun j hj => (hcl j hj).mono hb⟩
/-- a slice that reads as a graph, at any offset (as it comes in) -/
def RdGo (w : World) (B : Nat) (v : Value) (ns : List Ar.Nd) : Prop :=
  ∃ a c, v = .slice a ns.length c ∧ ns.length ≤ c ∧ (0 < ns.length → ∃ g o, a = some ⟨g, o, none⟩ ∧ g < B ∧ ∀ j (hj : j < ns.length), NdAt w B g (o + j * 4) ns[j])
theorem RdGo.below {w w' : World} {B : Nat} {v : Value} {ns : List Ar.Nd} (h : RdGo w B v ns) (hb : Below B w w') : RdGo w' B v ns := by
  obtain ⟨a, c, hv, hc, h1⟩ := h
  refine ⟨a, c, hv, hc, fun h0 => ?_⟩
  obtain ⟨g, o, ha, hg, hcl⟩ := h1 h0
  exact ⟨g, o, ha, hg, fun j hj => (hcl j hj).below hb hg⟩
theorem RdGo.mono {w : World} {B C : Nat} {v : Value} {ns : List Ar.Nd} (h : RdGo w B v ns) (hb : B ≤ C) : RdGo w C v ns := by
  obtain ⟨a, c, hv, hc, h1⟩ := h
  refine ⟨a, c, hv, hc, fun h0 => ?_⟩
  obtain ⟨g, o, ha, hg, hcl⟩ := h1 h0
  exact ⟨g, o, ha, Nat.lt_of_lt_of_le hg hb, fun j hj => (hcl j hj).mono hb⟩
theorem RdG.any {w : World} {B : Nat} {v : Value} {ns : List Ar.Nd} (h : RdG w B v ns) : RdGo w B v ns := by
  obtain ⟨a, c, hv, hc, h1⟩ := h
  refine ⟨a, c, hv, hc, fun h0 => ?_⟩
  obtain ⟨g, ha, hg, hcl⟩ := h1 h0
  exact ⟨g, 0, ha, hg, fun j hj => by rw [Nat.zero_add]; exact hcl j hj⟩
/-- a node as a value -/
def ndV (x : Ar.Nd) (a : Option Addr) (c : Nat) : Value := .agg #[.int .i64 x.kind, .string (str x.tag), .string (str x.text), .slice a x.kids.length c]
/-- nothing in a graph is too great -/
structure Fine (x : Ar.Nd) : Prop where
  tag : x.tag.length ≤ 1000000
  text : x.text.length ≤ 1000000
  kids : x.kids.length ≤ 1000000
theorem alloc_blk (w : World) (o : Obj) : (w.alloc o).heap[w.heap.size]? = some o := by
  show (w.heap.push o)[w.heap.size]? = some o; simp
theorem bnew (w : World) (o : Obj) : Below w.heap.size w (w.alloc o) := (Below.refl _ w).alloc (Nat.le_refl _) o
theorem blk_below {w w' : World} {b : Nat} {o : Obj} (h : w.heap[b]? = some o) (hb : Below w.heap.size w w') : w'.heap[b]? = some o := (hb.block b (Array.getElem?_eq_some_iff.1 h).1).trans h
theorem bthen {a b c : World} (h : Below a.heap.size a b) (k : Below b.heap.size b c) : Below a.heap.size a c := h.trans (k.mono h.size)
theorem quad {w : World} {b : Nat} {a0 a1 a2 a3 : Value} {t : TypeId} {fr : Nat × Nat} (h : w.heap[b]? = some (.cells #[a0, a1, a2, a3] t fr)) :
    w.cell? ⟨b, 0, none⟩ = some a0 ∧ w.cell? ⟨b, 1, none⟩ = some a1 ∧ w.cell? ⟨b, 2, none⟩ = some a2 ∧ w.cell? ⟨b, 3, none⟩ = some a3 := by
  simp [World.cell?, h]
end Go.Proofs.YtbimjdlkffbncaaDoor
