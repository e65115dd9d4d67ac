/-
  The state in which a graph's events are told: the teller, the events so far, the anchors, the closure.
-/
import Derived.Test.YtbimjdlkffbncaaDoorFe
namespace Go.Proofs.YtbimjdlkffbncaaDoor
open Go.RowKit Go.Maps
theorem Env.keep {B : Nat} {w w' : World} (h : Env w) (hB : 4 ≤ B) (hk : Below B w w') : Env w' where
  tabs := by
    obtain ⟨h1, h2⟩ := h.tabs
    exact ⟨fun c hc => (hk.cell (p := ⟨0, c, none⟩) (by show 0 < B; omega)).trans (h1 c hc), fun i hi => ⟨(hk.cell (p := ⟨1, 2 * i, none⟩) (by show 1 < B; omega)).trans (h2 i hi).1, (hk.cell (p := ⟨1, 2 * i + 1, none⟩) (by show 1 < B; omega)).trans (h2 i hi).2⟩⟩
  maxl := by
    obtain ⟨m, hm⟩ := h.maxl
    exact ⟨m, (hk.cell (p := ⟨2, 0, none⟩) (by show 2 < B; omega)).trans hm⟩
  pow := by
    have h2 := h.pow
    unfold Lib.TabIs World.var? at *
    rw [powG, Option.bind_some] at *
    rw [hk.block 3 (by omega)]; exact h2
theorem blk_ne {w : World} {b b' : Nat} {c c' : Array Value} {t t' : TypeId} {fr fr' : Nat × Nat} (h : w.heap[b]? = some (.cells c t fr)) (h' : w.heap[b']? = some (.cells c' t' fr')) (ht : t ≠ t') : b ≠ b' := by
  intro e
  subst e
  rw [h] at h'
  cases h'
  exact ht rfl
theorem row_ne {w : World} {B e z n k : Nat} {v : Value} {xs : List Value} {c : Array Value} {t : TypeId} {fr : Nat × Nat} (h : w.ownsRow B e z v n xs) (hk : w.heap[k]? = some (.cells c t fr)) (ht : e ≠ t) : v.ownBlock ≠ some k := by
  intro hv
  rcases h.2 with ⟨rfl, _⟩ | ⟨g, cap, cur, rfl, _, hh, _⟩
  · cases hv
  · have e1 : g = k := by simpa [Value.ownBlock] using hv
    subst e1
    rw [hh] at hk
    cases hk
    exact ht rfl
theorem OwnE.kept {w : World} {B b i : Nat} {v u : Value} {es : List Ev.E} {c : Array Value} {t : TypeId} {fr : Nat × Nat} (h : OwnE w B v es) (hk : w.heap[b]? = some (.cells c t fr)) (ht : 40 ≠ t) : OwnE (w.setCell ⟨b, i, none⟩ u) B v es :=
  own_same h fun k hv => Below.heap_setCell w ⟨b, i, none⟩ u k (fun e => row_ne h hk ht (by rw [hv, e]))
theorem OwnG.keep {ts : List TypeId} {B B' : Nat} {w w' : World} {v : Value} {ns : List Ar.Nd} (h : OwnG w B' v ns) (hk : Keep ts B w w') (h1 : 64 ∉ ts) (h2 : 3 ∉ ts) : OwnG w' B' v ns := by
  obtain ⟨ps, p1, p2, p3⟩ := h
  exact ⟨ps, p1, hk.row p2 h1, fun p hp => hk.row (p3 p hp) h2⟩
/-- the types of the blocks that change while a graph is told -/
def tellT : List TypeId := [40, 96, 29]
structure TellAt (w : World) (ga : Option Addr) (gc n ab tb tB oB aB fB B m : Nat) (an : List (List UInt8)) (out : List Ev.E) : Prop where
  tBox : w.heap[tB]? = some (.cells #[.pointer (some ⟨tb, 0, none⟩)] 92)
  tel : w.heap[tb]? = some (.cells #[.slice ga n gc, .int .i64 m] 96)
  oBox : ∃ v, w.heap[oB]? = some (.cells #[v] 29) ∧ OwnE w B v out
  aBox : w.heap[aB]? = some (.cells #[.slice (some ⟨ab, 0, none⟩) n n] 73)
  anc : w.heap[ab]? = some (.cells (cellsS an) 9)
  fBox : w.heap[fB]? = some (.cells #[.func (.func 96) #[] #[.pointer (some ⟨tB, 0, none⟩), .pointer (some ⟨oB, 0, none⟩), .pointer (some ⟨aB, 0, none⟩), .pointer (some ⟨fB, 0, none⟩)]] 109)
section
variable {w w1 w' : World} {ga : Option Addr} {gc n ab tb tB oB aB fB B m : Nat} {an : List (List UInt8)} {out : List Ev.E}
theorem TellAt.call (h : TellAt w ga gc n ab tb tB oB aB fB B m an out) (hb : Below w.heap.size w w') : TellAt w' ga gc n ab tb tB oB aB fB B m an out := by
  obtain ⟨v, h1, h2⟩ := h.oBox
  exact ⟨blk_below h.tBox hb, blk_below h.tel hb, ⟨v, blk_below h1 hb, h2.below hb⟩, blk_below h.aBox hb, blk_below h.anc hb, blk_below h.fBox hb⟩
theorem TellAt.meet (h : TellAt w ga gc n ab tb tB oB aB fB B m an out) : TellAt (w.setCell ⟨tb, 1, none⟩ (.int .i64 ((m + 1 : Nat) : Int))) ga gc n ab tb tB oB aB fB B (m + 1) an out := by
  obtain ⟨v, h1, h2⟩ := h.oBox
  exact ⟨other_set h.tBox _ _ (blk_ne h.tBox h.tel (by decide)), blk_set h.tel 1 _, ⟨v, other_set h1 _ _ (blk_ne h1 h.tel (by decide)), h2.kept h.tel (by decide)⟩, other_set h.aBox _ _ (blk_ne h.aBox h.tel (by decide)), other_set h.anc _ _ (blk_ne h.anc h.tel (by decide)), other_set h.fBox _ _ (blk_ne h.fBox h.tel (by decide))⟩
/-- behind events that were told, and stored -/
theorem TellAt.pushed (h : TellAt w ga gc n ab tb tB oB aB fB B m an out) (hb : Below w.heap.size w w1) {o : Value} (v' : Value) (out' : List Ev.E) (ho : OwnE w' B v' out') (hk : Keep [40] B w1 w') (hv : w.heap[oB]? = some (.cells #[o] 29)) (hB : B ≤ oB) (hBw : B ≤ w.heap.size) :
    TellAt (w'.setCell ⟨oB, 0, none⟩ v') ga gc n ab tb tB oB aB fB B m an out' ∧ Keep tellT B w (w'.setCell ⟨oB, 0, none⟩ v') := by
  have k1 := hk.blk (blk_below h.tBox hb) (by decide)
  have k2 := hk.blk (blk_below h.tel hb) (by decide)
  have k3 := hk.blk (blk_below hv hb) (by decide)
  have k4 := hk.blk (blk_below h.aBox hb) (by decide)
  have k5 := hk.blk (blk_below h.anc hb) (by decide)
  have k6 := hk.blk (blk_below h.fBox hb) (by decide)
  refine ⟨⟨other_set k1 _ _ (blk_ne k1 k3 (by decide)), other_set k2 _ _ (blk_ne k2 k3 (by decide)), ⟨v', blk_set k3 0 _, ho.kept k3 (by decide)⟩, other_set k4 _ _ (blk_ne k4 k3 (by decide)), other_set k5 _ _ (blk_ne k5 k3 (by decide)), other_set k6 _ _ (blk_ne k6 k3 (by decide))⟩, ?_⟩
  exact ((keep_of hb hBw).trans (hk.wide (by decide))).set k3 (by decide) hB
theorem TellAt.keepMeet (h : TellAt w ga gc n ab tb tB oB aB fB B m an out) (hB : B ≤ tb) : Keep tellT B w (w.setCell ⟨tb, 1, none⟩ (.int .i64 ((m + 1 : Nat) : Int))) := keep_set h.tel (by decide) hB
end
end Go.Proofs.YtbimjdlkffbncaaDoor
