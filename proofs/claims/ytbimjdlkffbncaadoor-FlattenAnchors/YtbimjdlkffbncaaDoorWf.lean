/-
  The table 'named', utf8.AppendRune, Env from world to world.
-/
import Derived.Test.YtbimjdlkffbncaaDoorWe
import Derived.Laws.Rows
namespace Go.Proofs.YtbimjdlkffbncaaDoor
open Go.RowKit

def ch (k : Nat) : Nat := (namedTab.getD k (0, 0)).1
def lt (k : Nat) : Nat := (namedTab.getD k (0, 0)).2
theorem lt_lt : ∀ k : Fin 15, lt k.val < 256 := by decide
theorem ch_lt : ∀ k : Fin 15, ch k.val < 10000 := by decide
theorem Env.size {w : World} (h : Env w) : 4 ≤ w.heap.size := by
  have h2 := h.pow
  unfold Lib.TabIs World.var? at h2
  rw [powG, Option.bind_some] at h2
  rcases Nat.lt_or_ge 3 w.heap.size with h' | h'
  · omega
  · rw [Array.getElem?_eq_none h'] at h2; simp at h2
/-- 'string(b)' of bytes that the call owns -/
theorem own_string {w : World} {B : Nat} {v : Value} {l : List UInt8} (h : Own w B v l) : (convert 133 9 v).run Tryd.prog w = .ok (.string (str l)) w := by
  by_cases h0 : l.length = 0
  · have hl : l = [] := List.eq_nil_of_length_eq_zero h0
    subst hl
    rcases h.2 with ⟨rfl, _⟩ | ⟨g, cap, cur, rfl, hr⟩
    · rw [run_convert_bytes_string w 133 9 5 none 0 0 Tryd.underlying133 Tryd.underlying5 Tryd.underlying9]
      rfl
    · exact run_convert_bytes_back w 133 9 5 ⟨g, 0, none⟩ cap [] Tryd.underlying133 Tryd.underlying5 Tryd.underlying9 (fun j hj => absurd hj (by simp))
  · rcases h.2 with ⟨_, h00⟩ | ⟨g, cap, cur, rfl, hr⟩
    · exact absurd h00 h0
    · refine run_convert_bytes_back w 133 9 5 ⟨g, 0, none⟩ cap l Tryd.underlying133 Tryd.underlying5 Tryd.underlying9 fun j hj => ?_
      refine World.ownsRow.cells h (g := g) rfl j _ ?_
      simp [Lib.byteCells, hj]
theorem own_iterAt {w : World} {B : Nat} {v : Value} {l : List UInt8} (h : Own w B v l) {k : Nat} {s : ByteArray} {pos : Nat} (hk : w.heap[k]? = some (.stringIter s pos)) (p : Nat) : Own (w.iterAt k s p) B v l := by
  obtain ⟨h1, h2⟩ := h
  refine ⟨h1, ?_⟩
  rcases h2 with h2 | ⟨g, cap, cur, hv, hb, hh, hr⟩
  · exact .inl h2
  · refine .inr ⟨g, cap, cur, hv, hb, ?_, hr⟩
    rw [Lib.iterAt_other _ _ _ _ _ (fun e => by subst e; rw [hk] at hh; cases hh)]
    exact hh

end Go.Proofs.YtbimjdlkffbncaaDoor
