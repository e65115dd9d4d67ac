/-
  Plain mathematics, no program's run in it: hexadecimal digits; rows of bytes that a call owns.
-/
import Derived.Test.YtbimjdlkffbncaaDoorMd
import Derived.WalkKit
import Derived.Lib.OthersKept
import Derived.Lib.RuneBytes
namespace Go.Proofs.YtbimjdlkffbncaaDoor
namespace Sc
/-- a small hexadecimal digit -/
def hexd (n : Nat) : UInt8 := if n < 10 then UInt8.ofNat (48 + n) else UInt8.ofNat (87 + n)
/-- so many digits of a number -/
def hexL (r : Nat) : Nat → List UInt8
  | 0 => []
  | d + 1 => hexd (r / 16 ^ d % 16) :: hexL r d
theorem hexL_len (r : Nat) : ∀ d, (hexL r d).length = d
  | 0 => rfl
  | d + 1 => by simp [hexL, hexL_len r d]
end Sc
open Go.RowKit

/-- a slice of bytes that the call owns, from block B on -/
def Own (w : World) (B : Nat) (v : Value) (l : List UInt8) : Prop := w.ownsRow B 5 1 v l.length (Lib.byteCells l)
/-- what a call that appends to its own bytes leaves as it was -/
def Kept (B : Nat) (w w' : World) : Prop := Below B w w' ∧ Lib.OthersKept 5 none w w'

theorem Kept.refl (B : Nat) (w : World) : Kept B w w := ⟨Below.refl _ _, Lib.OthersKept.refl _ _ _⟩
theorem Kept.trans {B : Nat} {a b c : World} (h : Kept B a b) (k : Kept B b c) : Kept B a c := ⟨h.1.trans k.1, h.2.trans k.2⟩
theorem Kept.alloc {B : Nat} {a w : World} (h : Kept B a w) (hB : B ≤ w.heap.size) (o : Obj) : Kept B a (w.alloc o) := ⟨h.1.alloc hB o, h.2.alloc o⟩
theorem Kept.size {B : Nat} {a w : World} (h : Kept B a w) : a.heap.size ≤ w.heap.size := h.1.size
theorem own_kind {w : World} {B : Nat} {v : Value} {l : List UInt8} (h : Own w B v l) : ∀ g, v.ownBlock = some g → ∃ c fz, w.heap[g]? = some (.cells c 5 fz) := by
  intro g hg
  rcases h.2 with ⟨rfl, _⟩ | ⟨g', cap, cur, rfl, _, hh, _⟩
  · simp [Value.ownBlock] at hg
  · have : g' = g := by simpa [Value.ownBlock] using hg
    subst this
    exact ⟨_, _, hh⟩
theorem Kept.grown {B : Nat} {a w w' : World} {v : Value} {l : List UInt8} (h : Kept B a w) (ho : Own w B v l) (hg : w.grownBy w' v.ownBlock) (hB : B ≤ w.heap.size) : Kept B a w' :=
  ⟨h.1.grown hg hB fun k hk => (ho.lt k hk).1, h.2.grown hg (own_kind ho)⟩
theorem Kept.iter {B k : Nat} {w w' : World} {s : ByteArray} {pos : Nat} (h : Kept B w w') (hk : w.heap[k]? = some (.stringIter s pos)) : w'.heap[k]? = some (.stringIter s pos) :=
  h.2 k _ hk (by simp) (by simp)
theorem own_alloc {w : World} {B : Nat} {v : Value} {l : List UInt8} (h : Own w B v l) (o : Obj) : Own (w.alloc o) B v l := World.ownsRow.alloc h o
theorem own_nil (w : World) (B : Nat) : Own w B (.slice none 0 0) [] := World.ownsRow_nil w B 5 1
theorem cells_of_new (w : World) (t : TypeId) (news : List Value) (j : Nat) (u : Value) (h : news[j]? = some u) : (w.alloc (.cells news.toArray t)).cell? ((⟨w.heap.size, 0, none⟩ : Addr).add j) = some u := by
  have hadd : (⟨w.heap.size, 0, none⟩ : Addr).add j = ⟨w.heap.size, j, none⟩ := by unfold Addr.add; split <;> simp_all
  rw [hadd, World.cell?_alloc_at _ _ _ _ rfl]
  simpa using h
theorem own_of_append {w : World} {B : Nat} {v : Value} {l m : List UInt8} {n : Nat} {xs : List Value} (h : w.ownsRow B 5 1 v n xs) (hn : n = (l ++ m).length) (hx : xs = Lib.byteCells (l ++ m)) : Own w B v (l ++ m) := by
  subst hn hx; exact h
end Go.Proofs.YtbimjdlkffbncaaDoor
