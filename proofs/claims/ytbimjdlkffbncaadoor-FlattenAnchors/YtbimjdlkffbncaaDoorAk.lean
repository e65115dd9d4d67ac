/-
  The order in which nodes are met: the plain function, and its state in memory.
  The walk of Order's closure, which calls itself.
  The walk of arena.Order.
  Graphs that a call owns: a row of nodes, each with a row of kids; a node put behind them.
-/
import Derived.Test.YtbimjdlkffbncaaDoorAg
import Derived.Maps.AppendAt
import Derived.Laws.EntriesVeiled
namespace Go.Proofs.YtbimjdlkffbncaaDoor
namespace Ar
/-- nodes as they are met first, from a node on, behind those that were met -/
def meet : Nat → List Nd → Nat → List Nat → List Nat
  | 0, _, _, met => met
  | f + 1, g, at_, met => if met.contains at_ = true then met else (at' g at_).kids.foldl (fun m k => meet f g k.toNat m) (met ++ [at_])
def order (g : List Nd) : List Nat := if right g = true then meet (g.length + 1) g 0 [] else []
/-- none is met twice, each is a node -/
def NB (n : Nat) (met : List Nat) : Prop := met.Nodup ∧ ∀ x ∈ met, x < n
theorem NB.snoc {n : Nat} {met : List Nat} (h : NB n met) {a : Nat} (ha : a < n) (hc : met.contains a = false) : NB n (met ++ [a]) := by
  have hn : a ∉ met := by
    intro hm
    rw [List.contains_iff_mem.2 hm] at hc
    cases hc
  refine ⟨List.nodup_append.2 ⟨h.1, by simp, fun x hx y hy => ?_⟩, fun x hx => ?_⟩
  · rw [List.mem_singleton] at hy
    subst hy
    exact fun e => hn (e ▸ hx)
  · rcases List.mem_append.1 hx with hx | hx
    · exact h.2 x hx
    · rw [List.mem_singleton] at hx; subst hx; exact ha
theorem pigeon : ∀ (n : Nat) (l : List Nat), l.Nodup → (∀ x ∈ l, x < n) → l.length ≤ n
  | 0, l, _, h => by
    cases l with
    | nil => exact Nat.le_refl _
    | cons a t => exact absurd (h a (List.mem_cons_self)) (by omega)
  | n + 1, l, hd, h => by
    by_cases hm : n ∈ l
    · have := pigeon n (l.erase n) (hd.erase n) (fun x hx => by
        have h1 := (hd.mem_erase_iff).1 hx
        have := h x h1.2
        have := h1.1
        omega)
      rw [List.length_erase_of_mem hm] at this
      omega
    · have := pigeon n l hd (fun x hx => by
        have h1 := h x hx
        have : x ≠ n := fun e => hm (e ▸ hx)
        omega)
      omega
theorem NB.len {n : Nat} {met : List Nat} (h : NB n met) : met.length ≤ n := pigeon n met h.1 h.2
/-- all kids are nodes -/
def Kids (g : List Nd) : Prop := ∀ x ∈ g, ∀ k ∈ x.kids, isNode g.length k = true
theorem Kids.at' {g : List Nd} (h : Kids g) {a : Nat} (ha : a < g.length) : ∀ k ∈ (at' g a).kids, 0 ≤ k ∧ k.toNat < g.length := by
  intro k hk
  rw [at_get g a (by omega) (by simpa using ha)] at hk
  have := h _ (List.getElem_mem _) k hk
  unfold isNode at this
  simp only [Bool.and_eq_true, decide_eq_true_eq] at this
  omega
theorem meet_nb (g : List Nd) (hg : Kids g) : ∀ (f a : Nat) (met : List Nat), a < g.length → NB g.length met → NB g.length (meet f g a met) ∧ met.length ≤ (meet f g a met).length
  | 0, _, _, _, h => ⟨h, Nat.le_refl _⟩
  | f + 1, a, met, ha, h => by
    unfold meet
    cases hc : met.contains a
    · rw [if_neg (by decide)]
      have hk := fun k h => (hg.at' ha k h).2
      have key : ∀ (ks : List Int) (m : List Nat), (∀ k ∈ ks, k.toNat < g.length) → NB g.length m → NB g.length (ks.foldl (fun m k => meet f g k.toNat m) m) ∧ m.length ≤ (ks.foldl (fun m k => meet f g k.toNat m) m).length := by
        intro ks
        induction ks with
        | nil => intro m _ hm; exact ⟨hm, Nat.le_refl _⟩
        | cons k t ih =>
          intro m hks hm
          obtain ⟨h1, h2⟩ := meet_nb g hg f k.toNat m (hks k List.mem_cons_self) hm
          obtain ⟨h3, h4⟩ := ih _ (fun k hk => hks k (List.mem_cons_of_mem _ hk)) h1
          exact ⟨h3, Nat.le_trans h2 h4⟩
      obtain ⟨h1, h2⟩ := key _ _ hk (h.snoc ha hc)
      rw [List.length_append] at h2
      exact ⟨h1, Nat.le_trans (by simp) h2⟩
    · rw [if_pos rfl]
      exact ⟨h, Nat.le_refl _⟩
end Ar
open Go.RowKit Go.Maps
def cellsB (n : Nat) (met : List Nat) : Array Value := ((List.range n).map fun i => Value.bool (met.contains i)).toArray
theorem cellsB_at (n : Nat) (met : List Nat) (i : Nat) (h : i < n) : (cellsB n met)[i]? = some (.bool (met.contains i)) := by
  unfold cellsB; rw [List.getElem?_toArray, List.getElem?_map, List.getElem?_range h]; rfl
theorem cellsB_set (n : Nat) (met : List Nat) (i : Nat) (h : i < n) : (cellsB n met).setIfInBounds i (.bool true) = cellsB n (met ++ [i]) := by
  apply Array.ext_getElem?
  intro j
  rw [Array.getElem?_setIfInBounds]
  have hs : (cellsB n met).size = n := by unfold cellsB; simp
  by_cases hij : i = j
  · subst hij
    rw [if_pos rfl, hs, if_pos h, cellsB_at n _ i h]
    simp
  · rw [if_neg hij]
    by_cases hj : j < n
    · rw [cellsB_at n _ j hj, cellsB_at n _ j hj]
      have : (met ++ [i]).contains j = met.contains j := by
        rw [Bool.eq_iff_iff, List.contains_iff_mem, List.contains_iff_mem, List.mem_append, List.mem_singleton]
        exact ⟨fun h => h.elim id (fun e => absurd e.symm hij), Or.inl⟩
      rw [this]
    · unfold cellsB
      rw [List.getElem?_toArray, List.getElem?_toArray, List.getElem?_map, List.getElem?_map, List.getElem?_eq_none (by simpa using hj)]
      rfl
theorem cellsB_zero (n : Nat) : madeCells #[.bool false] n = cellsB n [] := by
  apply Array.ext'
  rw [toList_madeCells_one]; unfold cellsB; simp [List.map_const']
theorem info4 : (Tryd.prog.info? 4).map (fun i => (i.zero, i.size, i.bytes)) = some (some (.bool false), 1, 1) := by kernel_rfl
theorem made4 (n : Nat) (h : n ≤ 1000000) (w : World) : (Instr.makeSlice 108 (.int .i64 (n : Int)) (.int .i64 (n : Int))).run Tryd.prog w = .ok (.slice (some ⟨w.heap.size, 0, none⟩) n n) (w.alloc (.cells (cellsB n []) 4)) := by
  rw [← cellsB_zero]
  exact run_make_row' 108 4 (.bool false) 1 Tryd.underlying108 info4 rfl .i64 .i64 n (by omega) (by omega) w
def natsV (met : List Nat) : List Value := (met.map (fun (n : Nat) => (n : Int))).map (Value.int .i64)
/-- the walk's state in memory: the marks (block sb, held in the box sB), what was met (held in the box mB), the graph (gB), the closure (fB) -/
structure DfsAt (w : World) (ga : Option Addr) (gc n sb sB mB gB fB T : Nat) (met : List Nat) : Prop where
  sBox : w.heap[sB]? = some (.cells #[.slice (some ⟨sb, 0, none⟩) n n] 108)
  marks : w.heap[sb]? = some (.cells (cellsB n met) 4)
  mBox : ∃ v, w.heap[mB]? = some (.cells #[v] 62) ∧ w.ownsRow T 3 1 v met.length (natsV met)
  gBox : w.heap[gB]? = some (.cells #[.slice ga n gc] 45)
  fBox : w.heap[fB]? = some (.cells #[.func (.func 89) #[] #[.pointer (some ⟨sB, 0, none⟩), .pointer (some ⟨mB, 0, none⟩), .pointer (some ⟨gB, 0, none⟩), .pointer (some ⟨fB, 0, none⟩)]] 109)
theorem own_same {w w' : World} {b e z n : Nat} {v : Value} {xs : List Value} (h : w.ownsRow b e z v n xs) (hh : ∀ k, v.ownBlock = some k → w'.heap[k]? = w.heap[k]?) : w'.ownsRow b e z v n xs := by
  obtain ⟨h1, h2⟩ := h
  refine ⟨h1, ?_⟩
  rcases h2 with h2 | ⟨g, cap, cur, rfl, hB, hk, hr⟩
  · exact .inl h2
  · exact .inr ⟨g, cap, cur, rfl, hB, (hh g rfl).trans hk, hr⟩
theorem other_set {w : World} {b : Nat} {o : Obj} (h : w.heap[b]? = some o) (p : Addr) (v : Value) (hne : b ≠ p.block) : (w.setCell p v).heap[b]? = some o := (Below.heap_setCell w p v b hne).trans h
end Go.Proofs.YtbimjdlkffbncaaDoor
namespace Go.Proofs.YtbimjdlkffbncaaDoor
open Go.RowKit Go.Maps

theorem own_form {w : World} {b e z n : Nat} {v : Value} {xs : List Value} (h : w.ownsRow b e z v n xs) : ∃ a c, v = .slice a n c := by
  rcases h.2 with ⟨rfl, rfl⟩ | ⟨g, cap, cur, rfl, _⟩
  · exact ⟨none, 0, rfl⟩
  · exact ⟨_, cap, rfl⟩
theorem natsV_snoc (met : List Nat) (a : Nat) : natsV (met ++ [a]) = natsV met ++ [.int .i64 (a : Int)] := by unfold natsV; simp
/-- a node is met: it is marked, and stands behind those that were met -/
theorem dfs_push {ga : Option Addr} {gc n sb sB mB gB fB T a : Nat} {met : List Nat} {w W1 w3 : World} {v v' : Value} (d1 : sb < T) (d2 : sB < T) (d3 : mB < T) (d4 : gB < T) (d5 : fB < T)
    (e1 : sb ≠ sB) (e2 : sb ≠ mB) (e3 : sb ≠ gB) (e4 : sb ≠ fB) (e5 : mB ≠ sB) (e6 : mB ≠ gB) (e7 : mB ≠ fB) (hB1 : gB ≤ sb) (hB2 : gB ≤ mB) (hT : T ≤ w.heap.size) (ha : a < n)
    (q1 : w.heap[sB]? = some (.cells #[.slice (some ⟨sb, 0, none⟩) n n] 108)) (q2 : w.heap[sb]? = some (.cells (cellsB n met) 4)) (q3 : w.heap[mB]? = some (.cells #[v] 62)) (q4 : w.heap[gB]? = some (.cells #[.slice ga n gc] 45))
    (q5 : w.heap[fB]? = some (.cells #[.func (.func 89) #[] #[.pointer (some ⟨sB, 0, none⟩), .pointer (some ⟨mB, 0, none⟩), .pointer (some ⟨gB, 0, none⟩), .pointer (some ⟨fB, 0, none⟩)]] 109))
    (hW1 : w.setCell ⟨sb, a, none⟩ (.bool true) = W1) (r1 : W1.ownsRow T 3 1 v met.length (natsV met)) (hg : (W1.alloc (.cells #[.int .i64 a] 3)).grownBy w3 v.ownBlock) (hown : w3.ownsRow T 3 1 v' (met.length + 1) (natsV met ++ [.int .i64 a])) :
    w3.heap[mB]? = some (.cells #[v] 62) ∧ DfsAt (w3.setCell ⟨mB, 0, none⟩ v') ga gc n sb sB mB gB fB T (met ++ [a]) ∧ Below gB w (w3.setCell ⟨mB, 0, none⟩ v') ∧ w.heap.size ≤ w3.heap.size := by
  have s1 : W1.heap.size = w.heap.size := by rw [← hW1]; exact World.size_setCell _ _ _
  have o1 : ∀ k, k ≠ sb → W1.heap[k]? = w.heap[k]? := fun k hk => by rw [← hW1]; exact Below.heap_setCell w ⟨sb, a, none⟩ _ k hk
  have m1 : W1.heap[sb]? = some (.cells (cellsB n (met ++ [a])) 4) := by rw [← hW1, ← cellsB_set _ _ _ ha]; exact blk_set q2 a _
  have hs2 : (W1.alloc (.cells #[.int .i64 a] 3)).heap.size = w.heap.size + 1 := by rw [World.size_alloc, s1]
  have hs3 := hg.size
  have o3 : ∀ k, k < T → w3.heap[k]? = W1.heap[k]? := fun k hk => by
    rw [hg.block k (by omega) (fun e => by have := (World.ownsRow.lt r1 k e.symm).1; omega)]
    exact (bnew W1 _).block k (by omega)
  have p3 : w3.heap[mB]? = some (.cells #[v] 62) := by rw [o3 _ d3, o1 _ (Ne.symm e2)]; exact q3
  refine ⟨p3, ⟨?_, ?_, ⟨v', ?_, ?_⟩, ?_, ?_⟩, ?_, by omega⟩
  · exact other_set (by rw [o3 _ d2, o1 _ (Ne.symm e1)]; exact q1) _ _ (Ne.symm e5)
  · exact other_set (by rw [o3 _ d1]; exact m1) _ _ e2
  · exact blk_set p3 0 v'
  · rw [List.length_append, natsV_snoc]
    exact own_same hown (fun k hk => Below.heap_setCell w3 ⟨mB, 0, none⟩ _ k (fun e => by have := (World.ownsRow.lt hown k hk).1; have e : k = mB := e; omega))
  · exact other_set (by rw [o3 _ d4, o1 _ (Ne.symm e3)]; exact q4) _ _ (Ne.symm e6)
  · exact other_set (by rw [o3 _ d5, o1 _ (Ne.symm e4)]; exact q5) _ _ (Ne.symm e7)
  · have b1 : Below gB w W1 := by rw [← hW1]; exact (Below.refl gB w).setCell (p := ⟨sb, a, none⟩) hB1 _
    have b2 : Below gB w (W1.alloc (.cells #[.int .i64 a] 3)) := b1.alloc (by omega) _
    have b3 := b2.grown hg (by omega) (fun k hk => by have := (World.ownsRow.lt r1 k hk).1; omega)
    exact b3.setCell (p := ⟨mB, 0, none⟩) hB2 _

set_option maxHeartbeats 4000000 in
set_option maxRecDepth 100000 in
theorem meet_any (g : List Ar.Nd) (ga : Option Addr) (gc n sb sB mB gB fB T : Nat) (hn : n = g.length) (hn2 : n ≤ 2000) (hgc : n ≤ gc) (hkids : Ar.Kids g) (hfi : ∀ x ∈ g, Fine x) (d1 : sb < T) (d2 : sB < T) (d3 : mB < T) (d4 : gB < T) (d5 : fB < T)
    (e1 : sb ≠ sB) (e2 : sb ≠ mB) (e3 : sb ≠ gB) (e4 : sb ≠ fB) (e5 : mB ≠ sB) (e6 : mB ≠ gB) (e7 : mB ≠ fB) (hB1 : gB ≤ sb) (hB2 : gB ≤ mB) :
    ∀ (f a : Nat) (met : List Nat) (w : World), a < n → DfsAt w ga gc n sb sB mB gB fB T met → Ar.NB n met → n - met.length < f → T ≤ w.heap.size → RdG w gB (.slice ga n gc) g →
    Calls Tryd.prog 89 #[.int .i64 a, .pointer (some ⟨sB, 0, none⟩), .pointer (some ⟨mB, 0, none⟩), .pointer (some ⟨gB, 0, none⟩), .pointer (some ⟨fB, 0, none⟩)] w fun e w' => e = .returned (.tuple #[]) ∧ DfsAt w' ga gc n sb sB mB gB fB T (Ar.meet f g a met) ∧ Below gB w w' := by
  subst hn
  intro f
  induction f with
  | zero => intro a met w ha hD hNB hf; exact absurd hf (by omega)
  | succ f ih =>
    intro a met w ha hD hNB hf hT hG
    obtain ⟨q1, q2, ⟨v, q3, hrow⟩, q4, q5⟩ := hD
    have c1 := cell_blk q1 0 _ rfl
    have c2 := cell_blk q2 a _ (cellsB_at _ met a ha)
    unfold Ar.meet
    cases hc : met.contains a
    · rw [if_neg (by decide)]
      rw [hc] at c2
      have hfz := frozen_blk q2 a
      have c3 := cell_blk q3 0 _ rfl
      have z3 := frozen_blk q3 0
      have c4 := cell_blk q4 0 _ rfl
      have hNB2 := hNB.snoc ha hc
      have hlen := hNB2.len
      rw [List.length_append] at hlen
      simp only [List.length_cons, List.length_nil] at hlen
      obtain ⟨_, _, hv, _, hcl0⟩ := hG
      cases hv
      obtain ⟨gg, rfl, hgg, hcl⟩ := hcl0 (by omega)
      obtain ⟨n0, n1, n2, ⟨ka, kc, n3, n4⟩⟩ := hcl a ha
      have hat : Ar.at' g (a : Int) = g[a] := Ar.at_get g a (by omega) ha
      have hkn := hkids.at' ha
      have hfk := (hfi _ (List.getElem_mem ha)).kids
      rw [hat] at hkn ⊢
      have HG : Hid (RdG w gB (.slice (some ⟨gg, 0, none⟩) g.length gc) g) := Lib.hid ⟨_, _, rfl, hgc, fun _ => ⟨gg, rfl, hgg, hcl⟩⟩
      clear hcl hcl0
      generalize g[a] = x at *
      obtain ⟨k, t, s, ks⟩ := x
      simp only at n3 n4 hkn hfk ⊢
      obtain ⟨i0, hi, hz0, hz1, hz2⟩ := info_parts info3
      obtain ⟨va, vc, rfl⟩ := own_form hrow
      obtain ⟨W1, hW1⟩ : ∃ W1, w.setCell ⟨sb, a, none⟩ (.bool true) = W1 := ⟨_, rfl⟩
      have s1 : W1.heap.size = w.heap.size := by rw [← hW1]; exact World.size_setCell _ _ _
      have o1 : ∀ k, k ≠ sb → W1.heap[k]? = w.heap[k]? := fun k hk => by rw [← hW1]; exact Below.heap_setCell w ⟨sb, a, none⟩ _ k hk
      have r1 := own_same hrow (fun k hk => o1 k (fun e => by have := (World.ownsRow.lt hrow k hk).1; omega))
      have r2 := own_same r1 (fun k hk => (bnew W1 (.cells #[.int .i64 a] 3)).block k (World.ownsRow.lt r1 k hk).2)
      have c3' : W1.cell? ⟨mB, 0, none⟩ = some (.slice va met.length vc) := cell_blk ((o1 mB (Ne.symm e2)).trans q3) 0 _ rfl
      have hT1 : T ≤ W1.heap.size := by omega
      have PU := Lib.hid fun w3 v' => dfs_push (w3 := w3) (v' := v') d1 d2 d3 d4 d5 e1 e2 e3 e4 e5 e6 e7 hB1 hB2 hT ha q1 q2 q3 q4 q5 hW1 r1
      have N3 := Lib.hid n3
      have N4 := Lib.hid n4
      obtain ⟨ANS, hANS⟩ : ∃ ANS, ks.foldl (fun m k => Ar.meet f g k.toNat m) (met ++ [a]) = ANS := ⟨_, rfl⟩
      rw [hANS]
      have HA := Lib.hid hANS
      have IH := Lib.hid ih
      have HKN := Lib.hid hkn
      have NB2 := Lib.hid hNB2
      clear s1 o1 hat c3 z3 c4 n0 n1 n2 n3 n4 r1 hrow hNB hNB2 hANS ih hkn q1 q2 q3 q4 q5
      go_enter Tryd.func89, Tryd.ntmps89
      go_wp2_with (at_builtin; refine wpList_append_own _ rfl _ _ 62 rfl T 3 i0 (.int .i64 0) 1 8 Tryd.underlying62 hi hz0 hz1 hz2 rfl (by decide) _ _ _ rfl r2 ⟨W1.heap.size, 0, none⟩ 1 1 [.int .i64 a] rfl rfl (cell_one_new _ _ _) (ints_oneCell .i64 [(a : Int)]) (by unfold maxLen; omega) (by omega) (by rw [World.size_alloc]; omega) ?_; intro v' w3 hown' hgrow3 hnil3; obtain ⟨va', vc', rfl⟩ := own_form hown'; obtain ⟨p3, hD4, hB4, hs4⟩ := PU.out w3 _ hgrow3 hown'; have x5 := cell_blk p3 0 _ rfl; have z5 := frozen_blk p3 0; have HD4 := Lib.hid hD4; have HB4 := Lib.hid hB4; have y1 := cell_blk hD4.gBox 0 _ rfl; have y2 := (hB4.cell (p := ⟨gg, a * 4 + 3, none⟩) hgg).trans N3.out; clear hD4 hB4 p3)
      clear hnil3 hown' hgrow3 x5 z5 y1 y2
      have hG0 := Lib.hid hW1
      clear hW1
      go_loopg [25] ks.length (fun q i wr => ∃ (m : Nat) (met' : List Nat), m ≤ ks.length ∧ q = ks.length - m ∧ i = .int .i64 m ∧ Hid ((ks.drop m).foldl (fun m k => Ar.meet f g k.toNat m) met' = ANS) ∧ Hid (DfsAt wr (some ⟨gg, 0, none⟩) gc g.length sb sB mB gB fB T met') ∧ Hid (Ar.NB g.length met') ∧ met.length + 1 ≤ met'.length ∧ Hid (Below gB w wr) ∧ T ≤ wr.heap.size)
      case atStart => exact ⟨0, met ++ [a], by omega, by omega, rfl, HA, HD4, NB2, by rw [List.length_append]; exact Nat.le_refl _, HB4, by rw [World.size_setCell]; omega⟩
      case round =>
        obtain ⟨m, met', hm, rfl, rfl, HI, HD, HNB, hml, HB, hTr⟩ := hrel
        clear HA HD4 HB4 NB2
        by_cases hmt : m < ks.length
        · have hI := HI.out
          rw [List.drop_eq_getElem_cons hmt, List.foldl_cons] at hI
          obtain ⟨_, _, hv, _, hcl0⟩ := N4.out.below HB.out
          cases hv
          obtain ⟨kg, ko, rfl, _, hcl⟩ := hcl0 (by omega)
          have hkm := hcl m hmt
          have hkk := HKN.out _ (List.getElem_mem hmt)
          clear hcl hcl0 HI
          generalize ks[m] = kk at *
          obtain ⟨y, rfl⟩ : ∃ y : Nat, kk = (y : Int) := ⟨kk.toNat, by omega⟩
          rw [Int.toNat_natCast] at hI hkk
          have hnb := Ar.meet_nb g hkids f y met' hkk.2 HNB.out
          have hfu : g.length - met'.length < f := by omega
          have cI := IH.out y met' wr hkk.2 HD.out HNB.out hfu hTr (HG.out.below HB.out)
          have y3 := cell_blk HD.out.fBox 0 _ rfl
          generalize Ar.meet f g y met' = met2 at *
          have HI := Lib.hid hI
          have CI := Lib.hid cI
          have HNB2 := Lib.hid hnb.1
          have hml2 := hnb.2
          clear hI cI hnb
          go_wp2_with (go_at_call 89; refine (CI.out).mono ?_; rintro e w5 ⟨rfl, hD5, hB5⟩)
          go_roundg (ks.length - (m + 1))
          case measure => omega
          case rel => exact ⟨m + 1, met2, by omega, rfl, by go_num, HI, Lib.hid hD5, HNB2, by omega, Lib.hid (HB.out.trans hB5), Nat.le_trans hTr hB5.size⟩
        · have hI := HI.out
          rw [List.drop_eq_nil_of_le (by omega)] at hI
          have hI : met' = ANS := hI
          subst hI
          clear HI
          go_wp2
          exact ⟨rfl, .tuple #[], by simp [results, go_sem], rfl, HD.out, HB.out⟩
    · rw [if_pos rfl]
      rw [hc] at c2
      go_enter Tryd.func89, Tryd.ntmps89
      go_wp2_with fail
      refine bodyPost_ret (v := .tuple #[]) (by simp [results, go_sem]) rfl ?_
      exact ⟨rfl, ⟨q1, q2, ⟨v, q3, hrow⟩, q4, q5⟩, Below.refl _ _⟩
end Go.Proofs.YtbimjdlkffbncaaDoor
namespace Go.Proofs.YtbimjdlkffbncaaDoor
open Go.RowKit Go.Maps
def nats (met : List Nat) : List Int := met.map (fun (n : Nat) => (n : Int))
theorem nats_len (met : List Nat) : (nats met).length = met.length := by unfold nats; rw [List.length_map]
theorem row_rdI {w : World} {T : Nat} {v : Value} {ks : List Int} (h : w.ownsRow T 3 1 v ks.length (ks.map (Value.int .i64))) : RdI w w.heap.size v ks := by
  obtain ⟨a, c, rfl⟩ := own_form h
  rcases h.2 with ⟨e, h0⟩ | ⟨g, cap, cur, e, hB, hg, hnc, hm, hsz, ht⟩
  · simp only [Value.slice.injEq] at e
    obtain ⟨rfl, _, rfl⟩ := e
    have : ks = [] := List.eq_nil_of_length_eq_zero h0
    subst this
    exact ⟨none, 0, rfl, Nat.le_refl _, fun h => absurd h (by simp)⟩
  · simp only [Value.slice.injEq] at e
    obtain ⟨rfl, _, rfl⟩ := e
    refine ⟨_, c, rfl, hnc, fun _ => ⟨g, 0, rfl, (Array.getElem?_eq_some_iff.1 hg).1, fun j hj => ?_⟩⟩
    rw [Nat.zero_add]
    refine cell_blk hg j _ ?_
    have h1 : (cur.toList.take (ks.length * 1))[j]? = (ks.map (Value.int .i64))[j]? := by rw [ht]
    rw [List.getElem?_take, if_pos (by omega), List.getElem?_map, List.getElem?_eq_getElem hj] at h1
    rw [← Array.getElem?_toList]; exact h1

set_option maxHeartbeats 4000000 in
set_option maxRecDepth 100000 in
theorem order_any (v : Value) (g : List Ar.Nd) (w : World) (hg : RdG w w.heap.size v g) (hgl : g.length ≤ 1000000) (hfi : ∀ x ∈ g, Fine x) (hE : Env w) :
    Calls Tryd.prog 53 #[v] w fun e w' => (∃ u, e = .returned u ∧ RdI w' w'.heap.size u (nats (Ar.order g))) ∧ Below w.heap.size w w' := by
  obtain ⟨ga, gc, rfl, hgc, hgx⟩ := hg
  have hG : RdG w w.heap.size (.slice ga g.length gc) g := ⟨ga, gc, rfl, hgc, hgx⟩
  have b0 := bnew w (.cells #[.slice ga g.length gc] 45)
  have cR := right_any (.slice ga g.length gc) g (w.alloc (.cells #[.slice ga g.length gc] 45)) ((hG.below b0).mono b0.size) hgl hfi (hE.below b0)
  have HG := Lib.hid hG
  clear hgx hG
  unfold Ar.order
  cases hr : Ar.right g
  · rw [hr] at cR
    have cR := Lib.hid cR
    rw [if_neg (by decide)]
    go_enter Tryd.func53, Tryd.ntmps53
    go_wp2_with (go_at_call 21; refine cR.out.mono ?_; rintro e w1 ⟨rfl, hb1⟩)
    go_ret
    exact ⟨⟨_, rfl, none, 0, rfl, Nat.le_refl _, fun h => absurd h (by simp [nats])⟩, b0.trans (hb1.mono b0.size)⟩
  · rw [hr] at cR
    have cR := Lib.hid cR
    rw [if_pos rfl]
    obtain ⟨hl0, hl2⟩ := right_len hr
    have hkids : Ar.Kids g := right_kids hr
    clear hr
    have hm4 := made4 g.length (by omega)
    have gb := alloc_blk w (.cells #[.slice ga g.length gc] 45)
    have G0 := Lib.hid gb
    clear gb
    have HKI := Lib.hid hkids
    clear hkids
    go_enter Tryd.func53, Tryd.ntmps53
    go_wp2_with (first
      | (go_at_call 21; refine cR.out.mono ?_; rintro e w1 ⟨rfl, hb1⟩; have q4 : ∀ o, (w1.alloc o).cell? ⟨w.heap.size, 0, none⟩ = some (.slice ga g.length gc) := fun o => cell_blk (blk_below (blk_below G0.out hb1) (bnew w1 o)) 0 _ rfl))
    have hs1 := hb1.size
    rw [World.size_alloc] at hs1
    have FIN : ∀ (A B C D : Obj), A = .cells #[.slice none 0 0] 62 → B = .cells (cellsB g.length []) 4 → C = .cells #[.slice (some ⟨w1.heap.size + 1, 0, none⟩) g.length g.length] 108 →
        D = .cells #[.func (.func 89) #[] #[.pointer (some ⟨w1.heap.size + 1 + 1, 0, none⟩), .pointer (some ⟨w1.heap.size, 0, none⟩), .pointer (some ⟨w.heap.size, 0, none⟩), .pointer (some ⟨w1.heap.size + 1 + 1 + 1, 0, none⟩)]] 109 →
        Calls Tryd.prog 89 #[.int .i64 ((0 : Nat) : Int), .pointer (some ⟨w1.heap.size + 1 + 1, 0, none⟩), .pointer (some ⟨w1.heap.size, 0, none⟩), .pointer (some ⟨w.heap.size, 0, none⟩), .pointer (some ⟨w1.heap.size + 1 + 1 + 1, 0, none⟩)] ((((w1.alloc A).alloc B).alloc C).alloc D)
          fun e w' => e = .returned (.tuple #[]) ∧ DfsAt w' ga gc g.length (w1.heap.size + 1) (w1.heap.size + 1 + 1) w1.heap.size w.heap.size (w1.heap.size + 1 + 1 + 1) (w1.heap.size + 1 + 1 + 1 + 1) (Ar.meet (g.length + 1) g 0 []) ∧ Below w.heap.size w w' := by
      intro A B C D hA hB hC hD
      have pB := alloc_blk (w1.alloc A) B
      have pC := alloc_blk ((w1.alloc A).alloc B) C
      have pD := alloc_blk (((w1.alloc A).alloc B).alloc C) D
      rw [World.size_alloc] at pB
      rw [World.size_alloc, World.size_alloc] at pC
      rw [World.size_alloc, World.size_alloc, World.size_alloc] at pD
      have pA := blk_below (blk_below (blk_below (alloc_blk w1 A) (bnew (w1.alloc A) B)) (bnew ((w1.alloc A).alloc B) C)) (bnew (((w1.alloc A).alloc B).alloc C) D)
      have pB := blk_below (blk_below pB (bnew ((w1.alloc A).alloc B) C)) (bnew (((w1.alloc A).alloc B).alloc C) D)
      have pC := blk_below pC (bnew (((w1.alloc A).alloc B).alloc C) D)
      have bb := bthen (bthen (bthen (bnew w1 A) (bnew (w1.alloc A) B)) (bnew ((w1.alloc A).alloc B) C)) (bnew (((w1.alloc A).alloc B).alloc C) D)
      have bw : Below w.heap.size w ((((w1.alloc A).alloc B).alloc C).alloc D) := (b0.trans (hb1.mono b0.size)).trans (bb.mono (by omega))
      have pG := blk_below (blk_below G0.out hb1) bb
      subst hA hB hC hD
      have hN0 : Ar.NB g.length [] := ⟨List.nodup_nil, fun x hx => absurd hx List.not_mem_nil⟩
      refine (meet_any g ga gc g.length (w1.heap.size + 1) (w1.heap.size + 1 + 1) w1.heap.size w.heap.size (w1.heap.size + 1 + 1 + 1) (w1.heap.size + 1 + 1 + 1 + 1) rfl hl2 hgc HKI.out hfi (by omega) (by omega) (by omega) (by omega) (by omega) (by omega) (by omega) (by omega) (by omega) (by omega) (by omega) (by omega) (by omega) (by omega)
        (g.length + 1) 0 [] _ hl0 ⟨pC, pB, ⟨_, pA, World.ownsRow_nil _ _ _ _⟩, pG, pD⟩ hN0 (by simp) (by rw [World.size_alloc, World.size_alloc, World.size_alloc, World.size_alloc]; exact Nat.le_refl _) (HG.out.below bw)).mono ?_
      rintro e w5 ⟨rfl, hD, hB⟩
      exact ⟨rfl, hD, bw.trans hB⟩
    refine (FIN _ _ _ _ rfl rfl rfl rfl).mono ?_
    rintro e w5 ⟨rfl, ⟨_, _, ⟨v, p1, hrow⟩, _, _⟩, hB5⟩
    obtain ⟨va, vc, rfl⟩ := own_form hrow
    have c5 := cell_blk p1 0 _ rfl
    rw [← nats_len] at hrow
    have hrd := row_rdI (ks := nats _) hrow
    rw [nats_len] at hrd
    go_wp2
    go_ret
    exact ⟨⟨_, rfl, hrd⟩, hB5⟩
end Go.Proofs.YtbimjdlkffbncaaDoor
namespace Go.Proofs.YtbimjdlkffbncaaDoor
open Go.RowKit Go.Maps

/-- numbers that a call owns -/
def OwnI (w : World) (B : Nat) (v : Value) (ks : List Int) : Prop := w.ownsRow B 3 1 v ks.length (ks.map (Value.int .i64))
def ndCells (ps : List (Ar.Nd × Value)) : List Value := ps.flatMap fun p => [.int .i64 p.1.kind, .string (str p.1.tag), .string (str p.1.text), p.2]
theorem ndCells_snoc (ps : List (Ar.Nd × Value)) (p : Ar.Nd × Value) : ndCells (ps ++ [p]) = ndCells ps ++ [.int .i64 p.1.kind, .string (str p.1.tag), .string (str p.1.text), p.2] := by
  unfold ndCells; rw [List.flatMap_append]; simp
/-- a graph that a call owns -/
def OwnG (w : World) (B : Nat) (v : Value) (ns : List Ar.Nd) : Prop :=
  ∃ ps : List (Ar.Nd × Value), ps.map (·.1) = ns ∧ w.ownsRow B 64 4 v ns.length (ndCells ps) ∧ ∀ p ∈ ps, OwnI w B p.2 p.1.kids
theorem row_below {w w' : World} {B e z n : Nat} {v : Value} {xs : List Value} (h : w.ownsRow B e z v n xs) (hb : Below w.heap.size w w') : w'.ownsRow B e z v n xs :=
  own_same h fun k hk => hb.block k (World.ownsRow.lt h k hk).2
theorem OwnG.below {w w' : World} {B : Nat} {v : Value} {ns : List Ar.Nd} (h : OwnG w B v ns) (hb : Below w.heap.size w w') : OwnG w' B v ns := by
  obtain ⟨ps, h1, h2, h3⟩ := h
  exact ⟨ps, h1, row_below h2 hb, fun p hp => row_below (h3 p hp) hb⟩
theorem ownG_nil (w : World) (B : Nat) : OwnG w B (.slice none 0 0) [] := ⟨[], rfl, World.ownsRow_nil _ _ _ _, fun p hp => by cases hp⟩
theorem OwnG.form {w : World} {B : Nat} {v : Value} {ns : List Ar.Nd} (h : OwnG w B v ns) : ∃ a c, v = .slice a ns.length c := by
  obtain ⟨ps, h1, h2, h3⟩ := h
  exact own_form h2
/-- rows of unlike types lie in unlike blocks -/
theorem own_ne {w : World} {B B' e e' z z' n m k : Nat} {v u : Value} {xs ys : List Value} (h : w.ownsRow B e z v n xs) (h' : w.ownsRow B' e' z' u m ys) (hne : e ≠ e') (hk : u.ownBlock = some k) : v.ownBlock ≠ some k := by
  intro hv
  rcases h.2 with ⟨rfl, _⟩ | ⟨g, cap, cur, rfl, _, hh, _⟩
  · cases hv
  · rcases h'.2 with ⟨rfl, _⟩ | ⟨g', cap', cur', rfl, _, hh', _⟩
    · cases hk
    · have e1 : g = k := by simpa [Value.ownBlock] using hv
      have e2 : g' = k := by simpa [Value.ownBlock] using hk
      subst e1; subst e2
      rw [hh] at hh'
      cases hh'; exact hne rfl
theorem infoN : (Tryd.prog.info? 64).map (fun i => (i.zero, i.size, i.bytes)) = some (some (.agg #[.int .i64 0, .string ⟨#[]⟩, .string ⟨#[]⟩, .slice none 0 0]), 4, 64) := by kernel_rfl

/-- 'append' of one node that was just laid, onto nodes that the call owns -/
theorem wpList_pushG {ops : Array Oper} {rest : List Oper} {o : Oper} {a : Act} {Q : Exit → Act → World → Prop} (hgd : o.guard = none) (s x : Operand) (ty : TypeId) (hty : Tryd.prog.underlying ty = some (.slice 64))
    (ho : o.op = .call { callee := .builtin .append, args := #[s, x], argTypes := #[ty, ty] }) (B : Nat) (v : Value) (ns : List Ar.Nd) (y : Ar.Nd) (u : Value) (w0 : World) (C : Array Value) (c : Nat)
    (hs : a.eval s = v) (ga : Nat) (hx : a.eval x = .slice (some ⟨ga, 0, none⟩) 1 c) (hga : ga = w0.heap.size) (hC : C = #[.int .i64 y.kind, .string (str y.tag), .string (str y.text), u]) (hown : OwnG w0 B v ns) (hu : OwnI w0 B u y.kids) (hl : ns.length ≤ 1000000) (hB : B ≤ w0.heap.size)
    (h : ∀ v' w', OwnG w' B v' (ns ++ [y]) → Below B w0 w' → B ≤ w'.heap.size → (∀ k, k < w0.heap.size → v.ownBlock ≠ some k → w'.heap[k]? = w0.heap[k]?) → wpList Tryd.prog ops Q rest (a.put o.dst v') w') :
    wpList Tryd.prog ops Q (o :: rest) a (w0.alloc (.cells C 64)) := by
  subst hC hga
  obtain ⟨ps, hp1, hp2, hp3⟩ := hown
  obtain ⟨ua, uc, rfl⟩ := own_form hu
  obtain ⟨i0, hi, hz0, hz1, hz2⟩ := info_parts infoN
  refine wpList_append_own _ hgd s x ty ho B 64 i0 _ 4 64 hty hi hz0 hz1 hz2 rfl (by decide) v ns.length (ndCells ps) hs (World.ownsRow.alloc hp2 _) ⟨w0.heap.size, 0, none⟩ 1 c [.int .i64 y.kind, .string (str y.tag), .string (str y.text), .slice ua y.kids.length uc] hx rfl
    (fun j u hu => cells_of_new w0 64 [.int .i64 y.kind, .string (str y.tag), .string (str y.text), .slice ua y.kids.length uc] j u hu) (fun u hu => by simp only [List.mem_cons, List.not_mem_nil, or_false] at hu; rcases hu with rfl | rfl | rfl | rfl <;> rfl) (by simp only [maxLen]; omega) (by omega) (by rw [World.size_alloc]; omega) ?_
  intro v' w' ho' hg _
  have hk : Below B w0 w' := ((Below.refl B w0).alloc hB _).grown hg (by rw [World.size_alloc]; omega) (fun k hk => (World.ownsRow.lt hp2 k hk).1)
  have hkeep : ∀ k, k < w0.heap.size → v.ownBlock ≠ some k → w'.heap[k]? = w0.heap[k]? := fun k hk hne => by
    rw [hg.block k (by rw [World.size_alloc]; omega) hne.symm]
    show (w0.heap.push _)[k]? = _
    rw [Array.getElem?_push, if_neg (by omega)]
  have hkw : ∀ q ks, OwnI w0 B q ks → OwnI w' B q ks := fun q ks hq => own_same hq fun k hk => hkeep k (World.ownsRow.lt hq k hk).2 (own_ne hp2 hq (by decide) hk)
  refine h v' w' ⟨ps ++ [(y, .slice ua y.kids.length uc)], by rw [List.map_append, hp1]; rfl, ?_, ?_⟩ hk (Nat.le_trans hB hk.size) hkeep
  · rw [List.length_append, ndCells_snoc]
    exact ho'
  · intro p hp
    rcases List.mem_append.1 hp with hp | hp
    · exact hkw _ _ (hp3 p hp)
    · simp only [List.mem_cons, List.not_mem_nil, or_false] at hp
      subst hp
      exact hkw _ _ hu
theorem ndCells_at (ps : List (Ar.Nd × Value)) (j : Nat) (h : j < ps.length) : (ndCells ps)[j * 4]? = some (.int .i64 (ps[j]).1.kind) ∧ (ndCells ps)[j * 4 + 1]? = some (.string (str (ps[j]).1.tag)) ∧ (ndCells ps)[j * 4 + 2]? = some (.string (str (ps[j]).1.text)) ∧ (ndCells ps)[j * 4 + 3]? = some (ps[j]).2 := by
  induction ps generalizing j with
  | nil => simp at h
  | cons x t ih =>
    have e : ndCells (x :: t) = [.int .i64 x.1.kind, .string (str x.1.tag), .string (str x.1.text), x.2] ++ ndCells t := rfl
    cases j with
    | zero => rw [e]; simp
    | succ j =>
      have := ih j (by simp only [List.length_cons] at h; omega)
      rw [e]
      rw [List.getElem?_append_right (by simp; omega), List.getElem?_append_right (by simp; omega), List.getElem?_append_right (by simp; omega), List.getElem?_append_right (by simp; omega)]
      simp only [List.length_cons, List.length_nil]
      rw [show (j + 1) * 4 - (0 + 1 + 1 + 1 + 1) = j * 4 by omega, show (j + 1) * 4 + 1 - (0 + 1 + 1 + 1 + 1) = j * 4 + 1 by omega, show (j + 1) * 4 + 2 - (0 + 1 + 1 + 1 + 1) = j * 4 + 2 by omega, show (j + 1) * 4 + 3 - (0 + 1 + 1 + 1 + 1) = j * 4 + 3 by omega]
      exact this
/-- a graph that a call owns reads as a graph -/
theorem OwnG.rd {w : World} {B : Nat} {v : Value} {ns : List Ar.Nd} (h : OwnG w B v ns) : RdG w w.heap.size v ns := by
  obtain ⟨ps, h1, h2, h3⟩ := h
  subst h1
  rw [List.length_map] at h2
  have h2' := h2
  rcases h2.2 with ⟨e, h0⟩ | ⟨g, cap, cur, e, hB, hh, hnc, hr⟩
  · subst e
    exact ⟨none, 0, by rw [List.length_map, h0], by rw [List.length_map, h0]; exact Nat.le_refl _, fun hp => by rw [List.length_map] at hp; omega⟩
  · subst e
    refine ⟨_, cap, by rw [List.length_map], by rw [List.length_map]; exact hnc, fun _ => ⟨g, rfl, (Array.getElem?_eq_some_iff.1 hh).1, fun j hj => ?_⟩⟩
    rw [List.length_map] at hj
    have hc := World.ownsRow.cells h2' (g := g) rfl
    have hadd : ∀ k, (⟨g, 0, none⟩ : Addr).add k = ⟨g, k, none⟩ := fun k => by unfold Addr.add; split <;> simp_all
    obtain ⟨e0, e1, e2, e3⟩ := ndCells_at ps j hj
    have a0 := hc _ _ e0
    have a1 := hc _ _ e1
    have a2 := hc _ _ e2
    have a3 := hc _ _ e3
    rw [hadd] at a0 a1 a2 a3
    rw [List.getElem_map]
    have hw := h3 ps[j] (List.getElem_mem hj)
    obtain ⟨a, c, hv⟩ := own_form hw
    exact ⟨a0, a1, a2, ⟨a, c, by rw [← hv]; exact a3, by rw [← hv]; exact row_rdI hw⟩⟩
end Go.Proofs.YtbimjdlkffbncaaDoor
