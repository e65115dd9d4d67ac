/-
  Small laws: how long a text is, what lies in a block that was laid ahead of a call.
-/
import Derived.Test.YtbimjdlkffbncaaDoorAm
namespace Go.Proofs.YtbimjdlkffbncaaDoor
open Go.RowKit
theorem str_len (s : List UInt8) : (str s).size = s.length := by rw [Lib.size_eq, str_dat]
theorem str_nil : str [] = ⟨#[]⟩ := rfl
theorem str_toL (l : List UInt8) : (str l).toList = l := by rw [Lib.toList_data]; rfl
theorem cell_after {w w1 : World} {c : Array Value} {t : TypeId} {fr : Nat × Nat} (hb : Below (w.alloc (.cells c t fr)).heap.size (w.alloc (.cells c t fr)) w1) (i : Nat) (v : Value) (hi : c[i]? = some v) : w1.cell? ⟨w.heap.size, i, none⟩ = some v :=
  cell_blk (blk_below (alloc_blk w _) hb) i v hi
theorem blk_kept {w w1 w2 : World} {c : Array Value} {t : TypeId} (h1 : Below (w.alloc (.cells c t)).heap.size (w.alloc (.cells c t)) w1) (h2 : Below w1.heap.size w1 w2) : w2.heap[w.heap.size]? = some (.cells c t (0, 0)) := by
  have e : (w.alloc (.cells c t)).heap[w.heap.size]? = some (.cells c t (0, 0)) := by show (w.heap.push _)[w.heap.size]? = _; simp
  have hlt : w.heap.size < (w.alloc (.cells c t)).heap.size := by rw [World.size_alloc]; omega
  rw [h2.block _ (Nat.lt_of_lt_of_le hlt h1.size), h1.block _ hlt, e]
theorem own_slice {w : World} {B e z n : Nat} {v : Value} {xs : List Value} (h : w.ownsRow B e z v n xs) : ∃ a cap, v = .slice a n cap := by
  rcases h.2 with ⟨rfl, rfl⟩ | ⟨g, cap, cur, rfl, _⟩
  · exact ⟨none, 0, rfl⟩
  · exact ⟨_, cap, rfl⟩
theorem own_len {w : World} {B e z n : Nat} {v : Value} {xs : List Value} (h : w.ownsRow B e z v n xs) : n ≤ 9223372036854775807 := by
  rcases h.2 with ⟨_, h0⟩ | ⟨g, cap, cur, _, _, _, hnc, hm, _⟩
  · omega
  · unfold maxLen at hm; omega
theorem row_kept {w w' : World} {B e z n : Nat} {v : Value} {xs : List Value} (h : w.ownsRow B e z v n xs) (hk : ∀ k, v.ownBlock = some k → w'.heap[k]? = w.heap[k]?) : w'.ownsRow B e z v n xs := by
  obtain ⟨h1, h2⟩ := h
  refine ⟨h1, ?_⟩
  rcases h2 with h2 | ⟨g, cap, cur, hv, hB, hh, hr⟩
  · exact .inl h2
  · exact .inr ⟨g, cap, cur, hv, hB, (hk g (by rw [hv]; rfl)).trans hh, hr⟩
end Go.Proofs.YtbimjdlkffbncaaDoor
