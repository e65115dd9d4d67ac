/-
  Nodes that come in: a []struct (an int, two strings, a []int) reads as a graph.
-/
import Derived.Test.YtbimjdlkffbncaaDoorAa
import Derived.SliceStrings
import Derived.Carry
import Derived.SizedLaws
namespace Go.Proofs.YtbimjdlkffbncaaDoor
open Go.ChangeShapes Go.WideShapes Go.RowKit Go.WideMaps Go.WideElems

/-- a slice of ints that comes in -/
theorem open_ints {H : Type} {enc : TypeId × Value → H} {P : Program} {w : World} {base : Nat} {spare : Nat → Bool} {held : Bool} {fuel : Nat} {cs : List Value} {y : DataW H × List MemPlace} {t e : TypeId}
    (ht : P.underlying t = some (.slice e)) (hc : P.cellsOf e = 1) (he : P.underlying e = some (.int .i64)) (h : DataW.trod enc P w base spare held fuel t cs = some y) :
    ∃ a c ks, cs = [.slice a (ks : List Int).length c] ∧ RdI w w.heap.size (.slice a ks.length c) ks ∧ ks.length ≤ maxLen ∧ (ks = [] ∨ ∃ el sp, y.1 = .slice el sp ∧ el.length = ks.length) := by
  rcases DataW.trod_slice ht h with ⟨h0, _⟩ | ⟨a, len, cap, elems, rest, n, _, rfl, hy, hb, hl, hm, hlen, hel, _, _⟩
  · exact ⟨none, 0, [], h0, ⟨none, 0, rfl, Nat.le_refl _, fun h => absurd h (by simp)⟩, Nat.zero_le _, .inl rfl⟩
  · have each : ∀ i, i < len → ∃ x : Int, w.cells? base (a.add (i * 1)) 1 = some [.int .i64 x] := fun i hi => by
      have h1 := hel i hi
      rw [hc] at h1
      have hs : elems[i]? = some (elems[i]'(by omega)) := List.getElem?_eq_getElem (by omega)
      rw [hs, Option.bind_eq_some_iff] at h1
      obtain ⟨cs', hcs, hy⟩ := h1
      obtain ⟨k, rfl, _, _⟩ := DataW.trod_int he hy
      exact ⟨k, hcs⟩
    obtain ⟨f, hf⟩ : ∃ f : Nat → Int, ∀ i, i < len → w.cells? base (a.add (i * 1)) 1 = some [.int .i64 (f i)] :=
      ⟨fun i => if h : i < len then Classical.choose (each i h) else 0, fun i hi => by simp only [dif_pos hi]; exact Classical.choose_spec (each i hi)⟩
    have hll : ((List.range len).map f).length = len := by simp
    refine ⟨some a, cap, (List.range len).map f, by rw [hll], ?_, by rw [hll]; omega, .inr ⟨_, _, by rw [hy], by simp; omega⟩⟩
    refine ⟨some a, cap, rfl, by rw [hll]; exact hl, fun h0 => ?_⟩
    rw [hll] at h0
    have hcell : ∀ i, i < len → w.cell? ((a.add (i * 1)).add 0) = some (.int .i64 (f i)) := fun i hi => (World.cells?_some (hf i hi)).2.2 0 (by decide)
    obtain ⟨ab, ao, spot⟩ := a
    have hspot : spot = none := by simpa [Addr.add] using World.cell?_spot (hcell 0 h0)
    subst hspot
    refine ⟨ab, ao, rfl, World.cells?_block (hf 0 h0) (by decide), fun j hj => ?_⟩
    rw [hll] at hj
    have := hcell j hj
    rw [Addr.add_lit, Addr.add_lit, Nat.mul_one] at this
    rw [List.getElem_map, List.getElem_range]
    exact this
/-- a struct of an int, two strings and a slice of ints: its four cells -/
theorem open_node {H : Type} {enc : TypeId × Value → H} {P : Program} {w : World} {base : Nat} {spare : Nat → Bool} {held : Bool} {n : Nat} {cs : List Value} {y : DataW H × List MemPlace} {t e : TypeId} {f0 f1 f2 f3 : Field}
    (ht : P.underlying t = some (.struct #[f0, f1, f2, f3])) (hc : P.cellsOf t = 4) (o0 : f0.offset = 0) (o1 : f1.offset = 1) (o2 : f2.offset = 2) (o3 : f3.offset = 3)
    (u0 : P.underlying f0.type = some (.int .i64)) (u1 : P.underlying f1.type = some .string) (u2 : P.underlying f2.type = some .string) (u3 : P.underlying f3.type = some (.slice e)) (ue : P.underlying e = some (.int .i64))
    (z0 : P.cellsOf f0.type = 1) (z1 : P.cellsOf f1.type = 1) (z2 : P.cellsOf f2.type = 1) (z3 : P.cellsOf f3.type = 1) (ze : P.cellsOf e = 1)
    (h : DataW.trod enc P w base spare held n t cs = some y) :
    ∃ (x : Ar.Nd) (a : Option Addr) (c : Nat), cs = [.int .i64 x.kind, .string (str x.tag), .string (str x.text), .slice a x.kids.length c] ∧ RdI w w.heap.size (.slice a x.kids.length c) x.kids ∧
      x.tag.length ≤ maxLen ∧ x.text.length ≤ maxLen ∧ x.kids.length ≤ maxLen ∧ (x.kids = [] ∨ ∃ d0 d1 d2 el sp, y.1 = .agg [d0, d1, d2, .slice el sp] ∧ el.length = x.kids.length) := by
  obtain ⟨xs, m, _, hy, hl, hlen, hf⟩ := DataW.trod_struct ht h
  rw [hc] at hl
  have h0 := hf 0 f0 rfl
  have h1 := hf 1 f1 rfl
  have h2 := hf 2 f2 rfl
  have h3 := hf 3 f3 rfl
  rw [o0, z0] at h0
  rw [o1, z1] at h1
  rw [o2, z2] at h2
  rw [o3, z3] at h3
  match cs, hl, xs, hlen with
  | [c0, c1, c2, c3], _, [x0, x1, x2, x3], _ =>
    simp only [List.drop_zero, List.drop_succ_cons, List.take_succ_cons, List.take_zero, List.getElem?_cons_zero, List.getElem?_cons_succ] at h0 h1 h2 h3
    obtain ⟨k, e0, _, _⟩ := DataW.trod_int u0 h0
    obtain ⟨s1, e1, _, b1⟩ := DataW.trod_string u1 h1
    obtain ⟨s2, e2, _, b2⟩ := DataW.trod_string u2 h2
    obtain ⟨a, c, ks, e3, hk, b3, hd⟩ := open_ints u3 ze ue h3
    refine ⟨⟨k, s1.data.toList, s2.data.toList, ks⟩, a, c, ?_, hk, ?_, ?_, b3, ?_⟩
    · simp only [str_eq]
      simp only [List.cons.injEq, and_true] at e0 e1 e2 e3
      rw [e0, e1, e2, e3]
    · simp only; rw [← Lib.size_eq]; exact b1
    · simp only; rw [← Lib.size_eq]; exact b2
    · rcases hd with rfl | ⟨el, sp, hd, hel⟩
      · exact .inl rfl
      · exact .inr ⟨x0.1, x1.1, x2.1, el, sp, by rw [hy, ← hd]; rfl, hel⟩
/-- a slice of such structs that comes in reads as a graph -/
theorem open_nodes {H : Type} {enc : TypeId × Value → H} {P : Program} {w : World} {base : Nat} {spare : Nat → Bool} {held : Bool} {fuel : Nat} {cs : List Value} {y : DataW H × List MemPlace} {t e : TypeId}
    (ht : P.underlying t = some (.slice e)) (hc : P.cellsOf e = 4)
    (hfour : ∀ (n : Nat) (cs : List Value) (y : DataW H × List MemPlace), DataW.trod enc P w base spare held n e cs = some y → ∃ (x : Ar.Nd) (a : Option Addr) (c : Nat), cs = [.int .i64 x.kind, .string (str x.tag), .string (str x.text), .slice a x.kids.length c] ∧ RdI w w.heap.size (.slice a x.kids.length c) x.kids ∧
      x.tag.length ≤ maxLen ∧ x.text.length ≤ maxLen ∧ x.kids.length ≤ maxLen ∧ (x.kids = [] ∨ ∃ d0 d1 d2 el sp, y.1 = .agg [d0, d1, d2, .slice el sp] ∧ el.length = x.kids.length))
    (h : DataW.trod enc P w base spare held fuel t cs = some y) :
    ∃ v ns, cs = [v] ∧ RdGo w w.heap.size v ns ∧ ns.length ≤ maxLen ∧ (∀ x ∈ ns, x.tag.length ≤ maxLen ∧ x.text.length ≤ maxLen ∧ x.kids.length ≤ maxLen) ∧
      (ns = [] ∨ ∃ el sp, y.1 = .slice el sp ∧ el.length = ns.length ∧ ∀ x ∈ ns, x.kids = [] ∨ ∃ d0 d1 d2 kl ksp, .agg [d0, d1, d2, .slice kl ksp] ∈ el ∧ kl.length = x.kids.length) := by
  rcases DataW.trod_slice ht h with ⟨h0, _⟩ | ⟨a, len, cap, elems, rest, n, _, rfl, hy, hb, hl, hm, hlen, hel, _, _⟩
  · exact ⟨_, [], h0, ⟨none, 0, rfl, Nat.le_refl _, fun h => absurd h (by simp)⟩, Nat.zero_le _, (fun x hx => by cases hx), .inl rfl⟩
  · have each : ∀ i, i < len → ∃ x : Ar.Nd, (∃ (b : Option Addr) (c : Nat), w.cells? base (a.add (i * 4)) 4 = some [.int .i64 x.kind, .string (str x.tag), .string (str x.text), .slice b x.kids.length c] ∧ RdI w w.heap.size (.slice b x.kids.length c) x.kids) ∧
        (x.tag.length ≤ maxLen ∧ x.text.length ≤ maxLen ∧ x.kids.length ≤ maxLen) ∧ (x.kids = [] ∨ ∃ d0 d1 d2 kl ksp, .agg [d0, d1, d2, .slice kl ksp] ∈ elems.map (·.1) ∧ kl.length = x.kids.length) := fun i hi => by
      have h1 := hel i hi
      rw [hc] at h1
      have hi' : i < elems.length := by omega
      have hs : elems[i]? = some (elems[i]'hi') := List.getElem?_eq_getElem hi'
      rw [hs, Option.bind_eq_some_iff] at h1
      obtain ⟨cs', hcs, hy⟩ := h1
      obtain ⟨x, b, c, rfl, hk, b1, b2, b3, hd⟩ := hfour _ _ _ hy
      refine ⟨x, ⟨b, c, hcs, hk⟩, ⟨b1, b2, b3⟩, ?_⟩
      rcases hd with hd | ⟨d0, d1, d2, kl, ksp, hd, hkl⟩
      · exact .inl hd
      · exact .inr ⟨d0, d1, d2, kl, ksp, List.mem_map.2 ⟨elems[i], List.getElem_mem hi', hd⟩, hkl⟩
    obtain ⟨f, hf⟩ : ∃ f : Nat → Ar.Nd, ∀ i, i < len → (∃ (b : Option Addr) (c : Nat), w.cells? base (a.add (i * 4)) 4 = some [.int .i64 (f i).kind, .string (str (f i).tag), .string (str (f i).text), .slice b (f i).kids.length c] ∧ RdI w w.heap.size (.slice b (f i).kids.length c) (f i).kids) ∧
        ((f i).tag.length ≤ maxLen ∧ (f i).text.length ≤ maxLen ∧ (f i).kids.length ≤ maxLen) ∧ ((f i).kids = [] ∨ ∃ d0 d1 d2 kl ksp, .agg [d0, d1, d2, .slice kl ksp] ∈ elems.map (·.1) ∧ kl.length = (f i).kids.length) :=
      ⟨fun i => if h : i < len then Classical.choose (each i h) else Ar.nd0, fun i hi => by simp only [dif_pos hi]; exact Classical.choose_spec (each i hi)⟩
    have hll : ((List.range len).map f).length = len := by simp
    refine ⟨_, (List.range len).map f, rfl, ?_, by rw [hll]; omega, fun x hx => ?_, .inr ⟨_, _, by rw [hy], by simp; omega, fun x hx => ?_⟩⟩
    · refine ⟨some a, cap, by rw [hll], by rw [hll]; exact hl, fun h0 => ?_⟩
      rw [hll] at h0
      obtain ⟨⟨b0, c0, hcell0, _⟩, _⟩ := hf 0 h0
      have hblk := World.cells?_block hcell0 (by decide)
      obtain ⟨ab, ao, spot⟩ := a
      have hspot : spot = none := by simpa [Addr.add] using World.cell?_spot ((World.cells?_some hcell0).2.2 0 (by decide))
      subst hspot
      refine ⟨ab, ao, rfl, hblk, fun j hj => ?_⟩
      rw [hll] at hj
      obtain ⟨⟨b, c, hcell, hk⟩, _⟩ := hf j hj
      have e : ((List.range len).map f)[j]'(by simpa using hj) = f j := by simp
      rw [e]
      have h0 := (World.cells?_some hcell).2.2 0 (by decide)
      have h1 := (World.cells?_some hcell).2.2 1 (by decide)
      have h2 := (World.cells?_some hcell).2.2 2 (by decide)
      have h3 := (World.cells?_some hcell).2.2 3 (by decide)
      rw [Addr.add_lit, Addr.add_lit] at h0 h1 h2 h3
      exact ⟨h0, h1, h2, ⟨b, c, h3, hk⟩⟩
    · obtain ⟨i, hi, rfl⟩ := List.mem_map.1 hx
      exact (hf i (List.mem_range.1 hi)).2.1
    · obtain ⟨i, hi, rfl⟩ := List.mem_map.1 hx
      exact (hf i (List.mem_range.1 hi)).2.2
/-- the form's reach, of a slice within the nodes -/
theorem weights_all {H : Type} {P : Program} {e : TypeId} {d : DataW H} {n : Nat} : ∀ {l : List (DataW H)}, d ∈ l → n ∈ d.weights P e → n ∈ DataW.weightsAll P e l
  | x :: t, h, hn => by
    simp only [DataW.weightsAll, List.mem_append]
    rcases List.mem_cons.1 h with rfl | h
    · exact .inl hn
    · exact .inr (weights_all h hn)
theorem sized_kids {H : Type} {P : Program} {ts : List TypeId} {ds : List (DataW H)} (h : (DataW.weightsEach P ts ds).all (· ≤ reachBytes) = true) {j : Nat} {t e u k : TypeId} {el sp kl ksp : List (DataW H)} {d0 d1 d2 : DataW H} {f0 f1 f2 f3 : Field}
    (ht : ts[j]? = some t) (hd : ds[j]? = some (.slice el sp)) (hu : P.underlying t = some (.slice e)) (hs : P.underlying e = some (.struct #[f0, f1, f2, f3])) (hf : f3.type = u) (hk : P.underlying u = some (.slice k)) (hm : .agg [d0, d1, d2, .slice kl ksp] ∈ el) :
    kl.length * P.bytesOf k ≤ reachBytes := by
  have h1 : (kl.length + ksp.length) * P.bytesOf k ∈ DataW.weights P e (.agg [d0, d1, d2, .slice kl ksp] : DataW H) := by
    simp only [DataW.weights, hs, DataW.weightsEach, List.map_cons, hf, hk]
    simp
  have h2 := List.all_eq_true.1 h _ (DataW.weights_mem_each ht hd _ (by
    simp only [DataW.weights, hu, List.mem_cons, List.mem_append]
    exact .inr (.inl (weights_all hm h1))))
  have h3 : (kl.length + ksp.length) * P.bytesOf k ≤ reachBytes := by simpa using h2
  exact Nat.le_trans (Nat.mul_le_mul_right _ (Nat.le_add_right _ _)) h3
end Go.Proofs.YtbimjdlkffbncaaDoor
