/-
  A row of events that comes in: what it reads as.
-/
import Derived.Test.YthkedlcmpibkjaaDoorEr
import Derived.SliceStrings
import Derived.Carry
namespace Go.Proofs.YthkedlcmpibkjaaDoor
open Go.ChangeShapes Go.WideShapes Go.RowKit Go.WideMaps Go.WideElems

/-- a struct of an int, three strings and a bool: its five cells -/
theorem open_five {H : Type} {enc : TypeId × Value → H} {P : Program} {w : World} {base : Nat} {spare : Nat → Bool} {held : Bool} {n : Nat} {cs : List Value} {y : DataW H × List MemPlace} {t : TypeId} {f0 f1 f2 f3 f4 : Field}
    (ht : P.underlying t = some (.struct #[f0, f1, f2, f3, f4])) (hc : P.cellsOf t = 5) (o0 : f0.offset = 0) (o1 : f1.offset = 1) (o2 : f2.offset = 2) (o3 : f3.offset = 3) (o4 : f4.offset = 4)
    (u0 : P.underlying f0.type = some (.int .i64)) (u1 : P.underlying f1.type = some .string) (u2 : P.underlying f2.type = some .string) (u3 : P.underlying f3.type = some .string) (u4 : P.underlying f4.type = some .bool)
    (z0 : P.cellsOf f0.type = 1) (z1 : P.cellsOf f1.type = 1) (z2 : P.cellsOf f2.type = 1) (z3 : P.cellsOf f3.type = 1) (z4 : P.cellsOf f4.type = 1)
    (h : DataW.trod enc P w base spare held n t cs = some y) :
    ∃ x : Ev.E, cs = evCells x ∧ x.anchor.length ≤ maxLen ∧ x.tag.length ≤ maxLen ∧ x.text.length ≤ maxLen := by
  obtain ⟨xs, m, _, _, hl, hlen, hf⟩ := DataW.trod_struct ht h
  rw [hc] at hl
  have h0 := hf 0 f0 rfl
  have h1 := hf 1 f1 rfl
  have h2 := hf 2 f2 rfl
  have h3 := hf 3 f3 rfl
  have h4 := hf 4 f4 rfl
  rw [o0, z0] at h0
  rw [o1, z1] at h1
  rw [o2, z2] at h2
  rw [o3, z3] at h3
  rw [o4, z4] at h4
  match cs, hl, xs, hlen with
  | [c0, c1, c2, c3, c4], _, [x0, x1, x2, x3, x4], _ =>
    simp only [List.drop_zero, List.drop_succ_cons, List.take_succ_cons, List.take_zero, List.getElem?_cons_zero, List.getElem?_cons_succ] at h0 h1 h2 h3 h4
    obtain ⟨k, e0, _, _⟩ := DataW.trod_int u0 h0
    obtain ⟨s1, e1, _, b1⟩ := DataW.trod_string u1 h1
    obtain ⟨s2, e2, _, b2⟩ := DataW.trod_string u2 h2
    obtain ⟨s3, e3, _, b3⟩ := DataW.trod_string u3 h3
    obtain ⟨b, e4, _⟩ := DataW.trod_bool u4 h4
    refine ⟨⟨k, s1.data.toList, s2.data.toList, s3.data.toList, b⟩, ?_, ?_, ?_, ?_⟩
    · unfold evCells
      simp only [str_eq]
      simp only [List.cons.injEq, and_true] at e0 e1 e2 e3 e4
      rw [e0, e1, e2, e3, e4]
    · simp only; rw [← Lib.size_eq]; exact b1
    · simp only; rw [← Lib.size_eq]; exact b2
    · simp only; rw [← Lib.size_eq]; exact b3
/-- a slice of such structs that comes in reads as a row of events -/
theorem open_events {H : Type} {enc : TypeId × Value → H} {P : Program} {w : World} {base : Nat} {spare : Nat → Bool} {held : Bool} {fuel : Nat} {cs : List Value} {y : DataW H × List MemPlace} {t e : TypeId}
    (ht : P.underlying t = some (.slice e)) (hc : P.cellsOf e = 5)
    (hfive : ∀ (n : Nat) (cs : List Value) (y : DataW H × List MemPlace), DataW.trod enc P w base spare held n e cs = some y → ∃ x : Ev.E, cs = evCells x ∧ x.anchor.length ≤ maxLen ∧ x.tag.length ≤ maxLen ∧ x.text.length ≤ maxLen)
    (h : DataW.trod enc P w base spare held fuel t cs = some y) :
    ∃ v es, cs = [v] ∧ RdE w w.heap.size v es ∧ es.length ≤ maxLen ∧ (∀ x ∈ es, x.anchor.length ≤ maxLen ∧ x.tag.length ≤ maxLen ∧ x.text.length ≤ maxLen) ∧ (es = [] ∨ ∃ el sp, y.1 = .slice el sp ∧ el.length = es.length) := by
  rcases DataW.trod_slice ht h with ⟨h0, _⟩ | ⟨a, len, cap, elems, rest, n, _, rfl, hy, hb, hl, hm, hlen, hel, _, _⟩
  · exact ⟨_, [], h0, ⟨none, 0, rfl, Nat.le_refl _, fun h => absurd h (by simp)⟩, Nat.zero_le _, (fun x hx => by cases hx), .inl rfl⟩
  · have each : ∀ i, i < len → ∃ x : Ev.E, w.cells? base (a.add (i * 5)) 5 = some (evCells x) ∧ x.anchor.length ≤ maxLen ∧ x.tag.length ≤ maxLen ∧ x.text.length ≤ maxLen := fun i hi => by
      have h1 := hel i hi
      rw [hc] at h1
      have hs : elems[i]? = some (elems[i]'(by omega)) := List.getElem?_eq_getElem (by omega)
      rw [hs, Option.bind_eq_some_iff] at h1
      obtain ⟨cs', hcs, hy⟩ := h1
      obtain ⟨x, rfl, hx⟩ := hfive _ _ _ hy
      exact ⟨x, hcs, hx⟩
    obtain ⟨f, hf⟩ : ∃ f : Nat → Ev.E, ∀ i, i < len → w.cells? base (a.add (i * 5)) 5 = some (evCells (f i)) ∧ (f i).anchor.length ≤ maxLen ∧ (f i).tag.length ≤ maxLen ∧ (f i).text.length ≤ maxLen :=
      ⟨fun i => if h : i < len then Classical.choose (each i h) else Ev.zero, fun i hi => by simp only [dif_pos hi]; exact Classical.choose_spec (each i hi)⟩
    refine ⟨_, (List.range len).map f, rfl, ?_, by simp; omega, fun x hx => ?_, .inr ⟨_, _, by rw [hy], by simp; omega⟩⟩
    · have hll : ((List.range len).map f).length = len := by simp
      refine ⟨some a, cap, by rw [hll], by rw [hll]; exact hl, fun h0 => ?_⟩
      rw [hll] at h0
      have hcell : ∀ i j, i < len → j < 5 → w.cell? ((a.add (i * 5)).add j) = (evCells (f i))[j]? := fun i j hi hj => (World.cells?_some (hf i hi).1).2.2 j hj
      obtain ⟨ab, ao, spot⟩ := a
      have hspot : spot = none := by simpa [Addr.add] using World.cell?_spot (hcell 0 0 h0 (by decide))
      subst hspot
      refine ⟨ab, ao, rfl, World.cells?_block (hf 0 h0).1 (by decide), fun j hj => ?_⟩
      rw [hll] at hj
      have hj5 : ∀ i, i < 5 → w.cell? ⟨ab, ao + j * 5 + i, none⟩ = (evCells (f j))[i]? := fun i hi => by
        have := hcell j i hj hi
        rwa [Addr.add_lit, Addr.add_lit] at this
      have e : ((List.range len).map f)[j]'(by simpa using hj) = f j := by simp
      rw [e]
      exact ⟨hj5 0 (by decide), hj5 1 (by decide), hj5 2 (by decide), hj5 3 (by decide), hj5 4 (by decide)⟩
    · obtain ⟨i, hi, rfl⟩ := List.mem_map.1 hx
      exact (hf i (List.mem_range.1 hi)).2
end Go.Proofs.YthkedlcmpibkjaaDoor
