/-
  Graphs that a call owns, the kids of each node in a block of their own: Theirs gives such.
  Graphs that a call owns, with kids in unlike blocks: a kid, a tag, a text stored; two nodes exchanged.
-/
import Derived.Test.YtnlbnnnhmdjciaaDoorBs
namespace Go.Proofs.YtnlbnnnhmdjciaaDoor
open Go.RowKit Go.Maps
/-- two nodes' kids lie in unlike blocks -/
def Apart (p q : Ar.Nd × Value) : Prop := ∀ k, p.2.ownBlock = some k → q.2.ownBlock ≠ some k
/-- a graph that a call owns, with kids in unlike blocks -/
def OwnD (w : World) (B : Nat) (v : Value) (ns : List Ar.Nd) : Prop :=
  ∃ ps : List (Ar.Nd × Value), ps.map (·.1) = ns ∧ w.ownsRow B 37 4 v ns.length (ndCells ps) ∧ (∀ p ∈ ps, OwnI w B p.2 p.1.kids) ∧ ps.Pairwise Apart
theorem OwnD.own {w : World} {B : Nat} {v : Value} {ns : List Ar.Nd} (h : OwnD w B v ns) : OwnG w B v ns := by
  obtain ⟨ps, h1, h2, h3, _⟩ := h
  exact ⟨ps, h1, h2, h3⟩
theorem ownD_nil (w : World) (B : Nat) : OwnD w B (.slice none 0 0) [] := ⟨[], rfl, World.ownsRow_nil _ _ _ _, (fun p hp => by cases hp), List.Pairwise.nil⟩
theorem OwnD.below {w w' : World} {B : Nat} {v : Value} {ns : List Ar.Nd} (h : OwnD w B v ns) (hb : Below w.heap.size w w') : OwnD w' B v ns := by
  obtain ⟨ps, h1, h2, h3, h4⟩ := h
  exact ⟨ps, h1, row_below h2 hb, (fun p hp => row_below (h3 p hp) hb), h4⟩
theorem OwnD.form {w : World} {B : Nat} {v : Value} {ns : List Ar.Nd} (h : OwnD w B v ns) : ∃ a c, v = .slice a ns.length c := h.own.form
theorem OwnD.rd {w : World} {B : Nat} {v : Value} {ns : List Ar.Nd} (h : OwnD w B v ns) : RdG w w.heap.size v ns := h.own.rd
/-- a graph, and one more node, out of what an append gives -/
theorem OwnD.snoc {w0 w1 w' : World} {B T : Nat} {v v' : Value} {ns : List Ar.Nd} (y : Ar.Nd) (u : Value) (ps : List (Ar.Nd × Value)) (hap : ps.Pairwise Apart) (hlo : ∀ p ∈ ps, ∀ k, p.2.ownBlock = some k → k < T) (hun : ∀ k, u.ownBlock = some k → T ≤ k) (h1 : ps.map (·.1) = ns) (h2 : w1.ownsRow B 37 4 v ns.length (ndCells ps)) (h3 : ∀ p ∈ ps, OwnI w1 B p.2 p.1.kids) (hu : OwnI w1 B u y.kids)
    (hown : w'.ownsRow B 37 4 v' (ns.length + 1) (ndCells ps ++ [.int .i64 y.kind, .string (str y.tag), .string (str y.text), u])) (hb : Below w1.heap.size w1 w0) (hg : w0.grownBy w' v.ownBlock) : OwnD w' B v' (ns ++ [y]) := by
  have hkw : ∀ q ws, OwnI w1 B q ws → OwnI w' B q ws := fun q ws hq => own_same hq fun k hk => by
    have hlt := (World.ownsRow.lt hq k hk).2
    rw [hg.block k (Nat.lt_of_lt_of_le hlt hb.size) (fun e => own_ne h2 hq (by decide) hk e.symm)]
    exact hb.block k hlt
  refine ⟨ps ++ [(y, u)], by rw [List.map_append, h1]; rfl, ?_, ?_, List.pairwise_append.2 ⟨hap, List.pairwise_singleton _ _, fun p hp q hq => ?_⟩⟩
  · rw [List.length_append, ndCells_snoc]; exact hown
  · intro p hp
    rcases List.mem_append.1 hp with hp | hp
    · exact hkw _ _ (h3 p hp)
    · simp only [List.mem_cons, List.not_mem_nil, or_false] at hp
      subst hp
      exact hkw _ _ hu
  · rw [List.mem_singleton] at hq
    subst hq
    intro k hk e
    have h5 := hlo p hp k hk
    have h6 := hun k e
    omega
set_option maxHeartbeats 4000000 in
set_option maxRecDepth 100000 in
theorem theirsD_any (v : Value) (g : List Ar.Nd) (w : World) (hg : RdGo w w.heap.size v g) (hgl : g.length ≤ 2199023255488) (hfi : ∀ x ∈ g, x.kids.length ≤ 17592186044160) :
    Calls Tryd.prog 10 #[v] w fun e w' => (∃ u, e = .returned u ∧ OwnD w' w.heap.size u g) ∧ Below w.heap.size w w' := by
  have HG := Lib.hid hg
  have HF := Lib.hid hfi
  obtain ⟨a, c, rfl, hgc, _⟩ := hg
  clear hfi
  go_enter Tryd.func10, Tryd.ntmps10
  go_wp2
  go_loopw [3, 8] (fun o i wr => ∃ j : Nat, j ≤ g.length ∧ i = .int .i64 j ∧ OwnD wr w.heap.size o (g.take j) ∧ Below w.heap.size w wr) (fun _ i _ => g.length - (intOf i).toNat)
  case atStart => exact ⟨0, by omega, rfl, ownD_nil _ _, Below.refl _ _⟩
  case round =>
    obtain ⟨j, hj, rfl, hout, hbw⟩ := hrel
    have hBr := hbw.size
    by_cases hlt : j < g.length
    · obtain ⟨_, _, hv, _, hcl0⟩ := HG.out.below hbw
      cases hv
      obtain ⟨gg, go, rfl, hgg, hcl⟩ := hcl0 (by omega)
      have hf := HF.out g[j] (List.getElem_mem hlt)
      have hwl := hf
      have HT := Lib.hid (List.take_succ_eq_append_getElem hlt)
      obtain ⟨n0, n1, n2, ⟨ka, kc, n3, n4⟩⟩ := hcl j hlt
      clear hcl hcl0 hf
      generalize g[j] = x at *
      obtain ⟨k, t, s, ks⟩ := x
      simp only at n0 n1 n2 n3 n4 hwl
      obtain ⟨ps, hp1, hp2, hp3, hp4⟩ := hout
      have htl : (g.take j).length ≤ 2199023255488 := by rw [List.length_take]; omega
      obtain ⟨i0, hi, hz0, hz1, hz2⟩ := info_parts infoN
      have HP1 := Lib.hid hp1
      have HP4 := Lib.hid hp4
      have HP2 := Lib.hid hp2
      have HP3 := Lib.hid hp3
      have I0 := Lib.hid hi
      have I1 := Lib.hid hz0
      have I2 := Lib.hid hz1
      have I3 := Lib.hid hz2
      have N4 := Lib.hid n4
      clear hp1 hp2 hp3 hp4 hi hz0 hz1 hz2 n4
      go_wp2
      have hb0 := bnew wr (.cells #[.int .i64 k, .string (str t), .string (str s), .slice ka ks.length kc] 42)
      have hk0 := alloc_blk wr (.cells #[.int .i64 k, .string (str t), .string (str s), .slice ka ks.length kc] 42)
      have hsz : (wr.alloc (.cells #[.int .i64 k, .string (str t), .string (str s), .slice ka ks.length kc] 42)).heap.size = wr.heap.size + 1 := by rw [World.size_alloc]
      generalize wr.alloc (.cells #[.int .i64 k, .string (str t), .string (str s), .slice ka ks.length kc] 42) = W0 at *
      have HB0 := Lib.hid (hbw.trans (hb0.mono hBr))
      have HLO : Hid (∀ p ∈ ps, ∀ k, p.2.ownBlock = some k → k < W0.heap.size) := fun p hp k hk => Nat.lt_of_lt_of_le (World.ownsRow.lt (HP3.out p hp) k hk).2 hb0.size
      have ag : u3.ownBlock ≠ some wr.heap.size := fun e => Nat.lt_irrefl _ (World.ownsRow.lt HP2.out _ e).2
      have HP2' := Lib.hid (row_below HP2.out hb0)
      have HP3' := Lib.hid (fun p hp => row_below (HP3.out p hp) hb0)
      have N40 := Lib.hid (N4.out.below (hb0.mono hBr))
      have k0 := cell_blk hk0 0 (.int .i64 k) rfl
      have k1 := cell_blk hk0 1 (.string (str t)) rfl
      have k2 := cell_blk hk0 2 (.string (str s)) rfl
      have k3 := cell_blk hk0 3 (.slice ka ks.length kc) rfl
      have hDlt : wr.heap.size < W0.heap.size := by omega
      have HSZ := Lib.hid hsz
      generalize wr.heap.size = D at *
      clear n0 n1 n2 n3 hk0 hsz HP2 HP3
      go_region_held3 (fun w' => w'.cell? ⟨D, 0, none⟩ = some (.int .i64 k) ∧ w'.cell? ⟨D, 1, none⟩ = some (.string (str t)) ∧ w'.cell? ⟨D, 2, none⟩ = some (.string (str s)) ∧ w'.cell? ⟨D, 3, none⟩ = some (.slice ka ks.length kc))
        (first
          | go_keep
          | (go_split_ands
             refine ⟨?_, ?_, ?_, ?_⟩ <;> (rw [hgrow.cell_far _ (by simp; omega) (Ne.symm ag)]; assumption))
          | (go_split_ands
             refine ⟨?_, ?_, ?_, ?_⟩ <;> (rw [hb2.cell (by exact hDlt)]; assumption)))
        (first
          | (go_at_call 21; refine (clone_any _ ks w.heap.size _ (by exact N40.out) hwl).mono ?_; rintro e w2 ⟨⟨u, rfl, hu⟩, hb2⟩; obtain ⟨ua, uc, rfl⟩ := own_form hu; have hb2' : Below W0.heap.size W0 w2 := ⟨hb2.os, hb2.tape, hb2.output, hb2.size, hb2.block⟩; have hs2 := hb2'.size)
          | (refine step_append_lies _ (by rfl) _ _ _ (by rfl) w.heap.size 37 i0 _ 4 64 Tryd.underlying26 I0.out I1.out I2.out I3.out rfl (by omega) u3 (g.take j).length (ndCells ps) (by rfl) (by first | exact (World.ownsRow.alloc (row_below HP2'.out hb2') _) | exact (World.ownsRow.alloc (row_below HP2'.out hb2') _).drew) ⟨w2.heap.size, 0, none⟩ 1 1 [.int .i64 k, .string (str t), .string (str s), .slice ua ks.length uc] (by rfl) (by rfl) (World.news_of_block (cs := #[.int .i64 k, .string (str t), .string (str s), .slice ua ks.length uc]) (t := 37) (fr := (0, 0)) (heap_alloc_new w2 _)) (by simp [Value.oneCell']) (by omega) (by simp only [maxLen]; omega) (by omega) (by simp; omega) (w2.heap.size + 1) (by simp) ?_; intro gg' cap w3 hown3 hgrow hat hlt3))
      go_wp2
      go_roundw
      case rel =>
        have hjl : (g.take j).length = j := by rw [List.length_take]; omega
        have hsn := OwnD.snoc (T := W0.heap.size) ⟨k, t, s, ks⟩ (.slice ua ks.length uc) ps HP4.out HLO.out (fun q hq => (World.ownsRow.lt hu q hq).1) HP1.out (row_below HP2'.out hb2') (fun p hp => row_below (HP3'.out p hp) hb2') (row_base hu HB0.out.size) hown3 (bnew w2 _) hgrow
        rw [hjl] at hsn
        have hb3 : Below w.heap.size w2 w3 := ((Below.refl w.heap.size w2).alloc (Nat.le_trans HB0.out.size hs2) _).grown hgrow (by rw [World.size_alloc]; have := HB0.out.size; omega) (fun k hk => (World.ownsRow.lt HP2'.out k hk).1)
        exact ⟨j + 1, by omega, by go_num, by rw [HT.out]; exact hsn, (HB0.out.trans (hb2'.mono HB0.out.size)).trans hb3⟩
      case measure => simp [intOf]; omega
    · have hje : j = g.length := by omega
      subst hje
      have HT := Lib.hid (List.take_of_length_le (Nat.le_refl g.length))
      have HOUT := Lib.hid hout
      clear hout
      go_wp2
      go_ret
      exact ⟨⟨_, rfl, by have := HOUT.out; rw [HT.out] at this; exact this⟩, hbw⟩
end Go.Proofs.YtnlbnnnhmdjciaaDoor
namespace Go.Proofs.YtnlbnnnhmdjciaaDoor
open Go.RowKit Go.Maps
theorem Apart.symm {p q : Ar.Nd × Value} (h : Apart p q) : Apart q p := fun k hk e => h k e hk
theorem ndCells_set4 : ∀ (ps : List (Ar.Nd × Value)) (x : Nat) (q : Ar.Nd × Value), x < ps.length → ((((ndCells ps).set (x * 4) (.int .i64 q.1.kind)).set (x * 4 + 1) (.string (str q.1.tag))).set (x * 4 + 2) (.string (str q.1.text))).set (x * 4 + 3) q.2 = ndCells (ps.set x q)
  | [], x, q, h => absurd h (by simp)
  | p :: t, 0, q, _ => rfl
  | p :: t, x + 1, q, h => by
    have ih := ndCells_set4 t x q (by simpa using h)
    have e : ∀ l, ndCells (p :: l) = .int .i64 p.1.kind :: .string (str p.1.tag) :: .string (str p.1.text) :: p.2 :: ndCells l := fun _ => rfl
    rw [List.set_cons_succ, e, e, ← ih, show (x + 1) * 4 = x * 4 + 1 + 1 + 1 + 1 by omega]
    simp only [List.set_cons_succ]
theorem ndCells_tag : ∀ (ps : List (Ar.Nd × Value)) (x : Nat) (h : x < ps.length) (t : List UInt8), (ndCells ps).set (x * 4 + 1) (.string (str t)) = ndCells (ps.set x (⟨ps[x].1.kind, t, ps[x].1.text, ps[x].1.kids⟩, ps[x].2))
  | [], x, h, _ => absurd h (by simp)
  | p :: l, 0, _, _ => rfl
  | p :: l, x + 1, h, t => by
    have ih := ndCells_tag l x (by simpa using h) t
    have e : ∀ l, ndCells (p :: l) = .int .i64 p.1.kind :: .string (str p.1.tag) :: .string (str p.1.text) :: p.2 :: ndCells l := fun _ => rfl
    rw [List.set_cons_succ, e, e, List.getElem_cons_succ, ← ih, show (x + 1) * 4 + 1 = x * 4 + 1 + 1 + 1 + 1 + 1 by omega]
    simp only [List.set_cons_succ]
theorem ndCells_text : ∀ (ps : List (Ar.Nd × Value)) (x : Nat) (h : x < ps.length) (t : List UInt8), (ndCells ps).set (x * 4 + 2) (.string (str t)) = ndCells (ps.set x (⟨ps[x].1.kind, ps[x].1.tag, t, ps[x].1.kids⟩, ps[x].2))
  | [], x, h, _ => absurd h (by simp)
  | p :: l, 0, _, _ => rfl
  | p :: l, x + 1, h, t => by
    have ih := ndCells_text l x (by simpa using h) t
    have e : ∀ l, ndCells (p :: l) = .int .i64 p.1.kind :: .string (str p.1.tag) :: .string (str p.1.text) :: p.2 :: ndCells l := fun _ => rfl
    rw [List.set_cons_succ, e, e, List.getElem_cons_succ, ← ih, show (x + 1) * 4 + 2 = x * 4 + 2 + 1 + 1 + 1 + 1 by omega]
    simp only [List.set_cons_succ]
theorem ndCells_kids : ∀ (ps : List (Ar.Nd × Value)) (x : Nat) (h : x < ps.length) (ks : List Int), ndCells (ps.set x (⟨ps[x].1.kind, ps[x].1.tag, ps[x].1.text, ks⟩, ps[x].2)) = ndCells ps
  | [], x, h, _ => absurd h (by simp)
  | p :: l, 0, _, _ => rfl
  | p :: l, x + 1, h, ks => by
    have ih := ndCells_kids l x (by simpa using h) ks
    have e : ∀ l, ndCells (p :: l) = .int .i64 p.1.kind :: .string (str p.1.tag) :: .string (str p.1.text) :: p.2 :: ndCells l := fun _ => rfl
    rw [List.set_cons_succ, e, e, List.getElem_cons_succ, ih]
/-- what stands in unlike blocks stays so, whatever the nodes hold -/
theorem apart_set {ps : List (Ar.Nd × Value)} (h : ps.Pairwise Apart) (x : Nat) (hx : x < ps.length) (y : Ar.Nd) : (ps.set x (y, ps[x].2)).Pairwise Apart := by
  rw [List.pairwise_iff_getElem] at h ⊢
  intro i j hi hj hij
  rw [List.length_set] at hi hj
  have key : ∀ k (hk : k < ps.length), ((ps.set x (y, ps[x].2))[k]'(by rw [List.length_set]; exact hk)).2 = ps[k].2 := by
    intro k hk
    rw [List.getElem_set]
    split
    · rename_i e; subst e; rfl
    · rfl
  intro k hk
  rw [key i hi] at hk
  rw [key j hj]
  exact h i j hi hj hij k hk
theorem apart_get {ps : List (Ar.Nd × Value)} (h : ps.Pairwise Apart) (i j : Nat) (hi : i < ps.length) (hj : j < ps.length) (hne : i ≠ j) : Apart ps[i] ps[j] := by
  rw [List.pairwise_iff_getElem] at h
  rcases Nat.lt_or_gt_of_ne hne with h1 | h1
  · exact h i j hi hj h1
  · exact (h j i hj hi h1).symm
/-- the row of nodes, whole: a graph that a call owns and that has a node -/
theorem OwnD.row {w : World} {B : Nat} {v : Value} {ns : List Ar.Nd} (h : OwnD w B v ns) (h0 : 0 < ns.length) : ∃ g c, v = .slice (some ⟨g, 0, none⟩) ns.length c ∧ B ≤ g ∧ g < w.heap.size ∧ ns.length ≤ c := by
  obtain ⟨ps, h1, h2, h3, h4⟩ := h
  rcases h2.2 with ⟨_, h5⟩ | ⟨g, cap, cur, e, hB, hh, hnc, hr⟩
  · omega
  · exact ⟨g, cap, e, hB, (Array.getElem?_eq_some_iff.1 hh).1, hnc⟩
theorem own_blk {w : World} {B e z g n c : Nat} {xs : List Value} (h : w.ownsRow B e z (.slice (some ⟨g, 0, none⟩) n c) n xs) : ∃ C fr, w.heap[g]? = some (.cells C e fr) := by
  rcases h.2 with ⟨h', _⟩ | ⟨g', cap', cur, h', hb, hg, _⟩
  · simp at h'
  · simp only [Value.slice.injEq, Option.some.injEq, Addr.mk.injEq, and_true, true_and] at h'
    obtain ⟨rfl, rfl⟩ := h'
    exact ⟨_, _, hg⟩
/-- ONE KID STORED -/
theorem OwnD.kid {w : World} {B : Nat} {g c : Nat} {ns : List Ar.Nd} (h : OwnD w B (.slice (some ⟨g, 0, none⟩) ns.length c) ns) (j : Nat) (hj : j < ns.length) (m : Nat) (hm : m < ns[j].kids.length) :
    ∃ kg kc, w.cell? ⟨g, j * 4 + 3, none⟩ = some (.slice (some ⟨kg, 0, none⟩) ns[j].kids.length kc) ∧ w.cell? ⟨kg, m, none⟩ = some (.int .i64 ns[j].kids[m]) ∧ w.frozen? ⟨kg, m, none⟩ = false ∧ B ≤ kg ∧ kg < w.heap.size ∧ kg ≠ g ∧ (∃ C fr, w.heap[kg]? = some (.cells C 3 fr)) ∧
      ∀ z, OwnD (w.setCell ⟨kg, m, none⟩ (.int .i64 z)) B (.slice (some ⟨g, 0, none⟩) ns.length c) (ns.set j ⟨ns[j].kind, ns[j].tag, ns[j].text, ns[j].kids.set m z⟩) := by
  obtain ⟨ps, h1, h2, h3, h4⟩ := h
  subst h1
  rw [List.length_map] at hj
  have hpj : (ps.map (·.1))[j]'(by rw [List.length_map]; exact hj) = ps[j].1 := List.getElem_map ..
  simp only [hpj] at hm ⊢
  have hw := h3 ps[j] (List.getElem_mem hj)
  have hw0 : w.ownsRow B 3 1 ps[j].2 ps[j].1.kids.length (ps[j].1.kids.map (Value.int .i64)) := hw
  obtain ⟨kg, kc, hv, hB, hlt⟩ := World.ownsRow.form hw0 (by omega)
  rw [hv] at hw0
  have e3 := (ndCells_at ps j hj).2.2.2
  have hc3 := World.ownsRow.cellAt h2 (j * 4 + 3) (by rw [List.length_map]; omega)
  rw [e3, hv] at hc3
  have hcm := World.ownsRow.cellAt hw0 m (by omega)
  rw [List.getElem?_map, List.getElem?_eq_getElem hm] at hcm
  have hne : kg ≠ g := fun e => own_ne h2 hw0 (by decide) (k := kg) rfl (by rw [e]; rfl)
  refine ⟨kg, kc, hc3, hcm, World.ownsRow.frozenAt hw0 m, hB, hlt, hne, own_blk hw0, fun z => ?_⟩
  obtain ⟨hs, hg⟩ := World.ownsRow.stored hw0 m (.int .i64 z)
  have hoth : ∀ k, k ≠ kg → (w.setCell ⟨kg, m, none⟩ (.int .i64 z)).heap[k]? = w.heap[k]? := fun k hk => Below.heap_setCell w ⟨kg, m, none⟩ _ k hk
  refine ⟨ps.set j (⟨ps[j].1.kind, ps[j].1.tag, ps[j].1.text, ps[j].1.kids.set m z⟩, ps[j].2), by rw [List.map_set], ?_, ?_, apart_set h4 j hj _⟩
  · rw [List.length_set, ndCells_kids ps j hj]
    exact own_same h2 (fun k hk => hoth k (fun e => hne (by simp [Value.ownBlock] at hk; omega)))
  · intro p hp
    obtain ⟨i, hi, rfl⟩ := List.getElem_of_mem hp
    rw [List.length_set] at hi
    rw [List.getElem_set]
    split
    · show World.ownsRow _ _ _ _ _ _ _
      simp only
      rw [hv, List.length_set, List.map_set]
      exact hs
    · rename_i hij
      refine own_same (h3 ps[i] (List.getElem_mem hi)) (fun k hk => hoth k (fun e => ?_))
      exact apart_get h4 i j hi hj (fun e => hij e.symm) k hk (by rw [hv, e]; rfl)
theorem OwnD.kid' {w : World} {B : Nat} {g c n : Nat} {ns : List Ar.Nd} (h : OwnD w B (.slice (some ⟨g, 0, none⟩) n c) ns) (hn : ns.length = n) (j : Nat) (hj : j < ns.length) (m : Nat) (hm : m < ns[j].kids.length) :
    ∃ kg kc, w.cell? ⟨g, j * 4 + 3, none⟩ = some (.slice (some ⟨kg, 0, none⟩) ns[j].kids.length kc) ∧ w.cell? ⟨kg, m, none⟩ = some (.int .i64 ns[j].kids[m]) ∧ kg < w.heap.size := by
  subst hn
  obtain ⟨kg, kc, h1, h2, _, _, h3, _⟩ := h.kid j hj m hm
  exact ⟨kg, kc, h1, h2, h3⟩
/-- A TAG STORED -/
theorem OwnD.setTag {w : World} {B : Nat} {g c : Nat} {ns : List Ar.Nd} (h : OwnD w B (.slice (some ⟨g, 0, none⟩) ns.length c) ns) (j : Nat) (hj : j < ns.length) (t : List UInt8) :
    w.frozen? ⟨g, j * 4 + 1, none⟩ = false ∧ OwnD (w.setCell ⟨g, j * 4 + 1, none⟩ (.string (str t))) B (.slice (some ⟨g, 0, none⟩) ns.length c) (ns.set j ⟨ns[j].kind, t, ns[j].text, ns[j].kids⟩) := by
  obtain ⟨ps, h1, h2, h3, h4⟩ := h
  subst h1
  rw [List.length_map] at hj
  have hpj : (ps.map (·.1))[j]'(by rw [List.length_map]; exact hj) = ps[j].1 := List.getElem_map ..
  simp only [hpj]
  refine ⟨World.ownsRow.frozenAt h2 _, ps.set j (⟨ps[j].1.kind, t, ps[j].1.text, ps[j].1.kids⟩, ps[j].2), by rw [List.map_set], ?_, ?_, apart_set h4 j hj _⟩
  · rw [List.length_set, ← ndCells_tag ps j hj]
    exact (World.ownsRow.stored h2 _ _).1
  · intro p hp
    have hoth : ∀ k, k ≠ g → (w.setCell ⟨g, j * 4 + 1, none⟩ (.string (str t))).heap[k]? = w.heap[k]? := fun k hk => Below.heap_setCell w ⟨g, j * 4 + 1, none⟩ _ k hk
    have key : ∀ q ∈ ps, OwnI (w.setCell ⟨g, j * 4 + 1, none⟩ (.string (str t))) B q.2 q.1.kids := fun q hq => own_same (h3 q hq) (fun k hk => hoth k (fun e => own_ne h2 (h3 q hq) (by decide) hk (by rw [e]; rfl)))
    obtain ⟨i, hi, rfl⟩ := List.getElem_of_mem hp
    rw [List.length_set] at hi
    rw [List.getElem_set]
    split
    · exact key ps[j] (List.getElem_mem hj)
    · exact key _ (List.getElem_mem hi)
/-- A TEXT STORED -/
theorem OwnD.setText {w : World} {B : Nat} {g c : Nat} {ns : List Ar.Nd} (h : OwnD w B (.slice (some ⟨g, 0, none⟩) ns.length c) ns) (j : Nat) (hj : j < ns.length) (t : List UInt8) :
    w.frozen? ⟨g, j * 4 + 2, none⟩ = false ∧ OwnD (w.setCell ⟨g, j * 4 + 2, none⟩ (.string (str t))) B (.slice (some ⟨g, 0, none⟩) ns.length c) (ns.set j ⟨ns[j].kind, ns[j].tag, t, ns[j].kids⟩) := by
  obtain ⟨ps, h1, h2, h3, h4⟩ := h
  subst h1
  rw [List.length_map] at hj
  have hpj : (ps.map (·.1))[j]'(by rw [List.length_map]; exact hj) = ps[j].1 := List.getElem_map ..
  simp only [hpj]
  refine ⟨World.ownsRow.frozenAt h2 _, ps.set j (⟨ps[j].1.kind, ps[j].1.tag, t, ps[j].1.kids⟩, ps[j].2), by rw [List.map_set], ?_, ?_, apart_set h4 j hj _⟩
  · rw [List.length_set, ← ndCells_text ps j hj]
    exact (World.ownsRow.stored h2 _ _).1
  · intro p hp
    have hoth : ∀ k, k ≠ g → (w.setCell ⟨g, j * 4 + 2, none⟩ (.string (str t))).heap[k]? = w.heap[k]? := fun k hk => Below.heap_setCell w ⟨g, j * 4 + 2, none⟩ _ k hk
    have key : ∀ q ∈ ps, OwnI (w.setCell ⟨g, j * 4 + 2, none⟩ (.string (str t))) B q.2 q.1.kids := fun q hq => own_same (h3 q hq) (fun k hk => hoth k (fun e => own_ne h2 (h3 q hq) (by decide) hk (by rw [e]; rfl)))
    obtain ⟨i, hi, rfl⟩ := List.getElem_of_mem hp
    rw [List.length_set] at hi
    rw [List.getElem_set]
    split
    · exact key ps[j] (List.getElem_mem hj)
    · exact key _ (List.getElem_mem hi)
end Go.Proofs.YtnlbnnnhmdjciaaDoor
