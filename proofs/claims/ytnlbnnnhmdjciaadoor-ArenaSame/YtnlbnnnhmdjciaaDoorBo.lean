/-
  Ours (the same graph, the document's), and grilleref08.Equal of graphs that are the same.
-/
import Derived.Test.YtnlbnnnhmdjciaaDoorBs
import Derived.BigQuiet
namespace Go.Proofs.YtnlbnnnhmdjciaaDoor
open Go.RowKit Go.Maps
/-- a graph of the document's nodes that a call owns -/
def OwnR (w : World) (B : Nat) (v : Value) (ns : List Ar.Nd) : Prop :=
  ∃ ps : List (Ar.Nd × Value), ps.map (·.1) = ns ∧ w.ownsRow B 42 4 v ns.length (ndCells ps) ∧ ∀ p ∈ ps, OwnI w B p.2 p.1.kids
theorem ownR_nil (w : World) (B : Nat) : OwnR w B (.slice none 0 0) [] := ⟨[], rfl, World.ownsRow_nil _ _ _ _, fun p hp => by cases hp⟩
theorem OwnR.below {w w' : World} {B : Nat} {v : Value} {ns : List Ar.Nd} (h : OwnR w B v ns) (hb : Below w.heap.size w w') : OwnR w' B v ns := by
  obtain ⟨ps, h1, h2, h3⟩ := h
  exact ⟨ps, h1, row_below h2 hb, fun p hp => row_below (h3 p hp) hb⟩
theorem OwnR.form {w : World} {B : Nat} {v : Value} {ns : List Ar.Nd} (h : OwnR w B v ns) : ∃ a c, v = .slice a ns.length c := by
  obtain ⟨ps, h1, h2, h3⟩ := h
  exact own_form h2
theorem infoR : (Tryd.prog.info? 42).map (fun i => (i.zero, i.size, i.bytes)) = some (some (.agg #[.int .i64 0, .string ⟨#[]⟩, .string ⟨#[]⟩, .slice none 0 0]), 4, 64) := by kernel_rfl
/-- a graph that a call owns reads as a graph -/
theorem OwnR.rd {w : World} {B : Nat} {v : Value} {ns : List Ar.Nd} (h : OwnR w B v ns) : RdG w w.heap.size v ns := by
  obtain ⟨ps, h1, h2, h3⟩ := h
  subst h1
  rw [List.length_map] at h2
  have h2' := h2
  rcases h2.2 with ⟨e, h0⟩ | ⟨g, cap, cur, e, hB, hh, hnc, hr⟩
  · subst e
    exact ⟨none, 0, by rw [List.length_map, h0], by rw [List.length_map, h0]; exact Nat.le_refl _, fun hp => by rw [List.length_map] at hp; omega⟩
  · subst e
    refine ⟨_, cap, by rw [List.length_map], by rw [List.length_map]; exact hnc, fun _ => ⟨g, rfl, (Array.getElem?_eq_some_iff.1 hh).1, fun j hj => ?_⟩⟩
    rw [List.length_map] at hj
    have hc := World.ownsRow.cells h2' (g := g) rfl
    have hadd : ∀ k, (⟨g, 0, none⟩ : Addr).add k = ⟨g, k, none⟩ := fun k => by unfold Addr.add; split <;> simp_all
    obtain ⟨e0, e1, e2, e3⟩ := ndCells_at ps j hj
    have a0 := hc _ _ e0
    have a1 := hc _ _ e1
    have a2 := hc _ _ e2
    have a3 := hc _ _ e3
    rw [hadd] at a0 a1 a2 a3
    rw [List.getElem_map]
    have hw := h3 ps[j] (List.getElem_mem hj)
    obtain ⟨a, c, hv⟩ := own_form hw
    exact ⟨a0, a1, a2, ⟨a, c, by rw [← hv]; exact a3, by rw [← hv]; exact row_rdI hw⟩⟩
/-- a graph, and one more node, out of what an append gives -/
theorem OwnR.snoc {w0 w1 w' : World} {B : Nat} {v v' : Value} {ns : List Ar.Nd} (y : Ar.Nd) (u : Value) (ps : List (Ar.Nd × Value)) (h1 : ps.map (·.1) = ns) (h2 : w1.ownsRow B 42 4 v ns.length (ndCells ps)) (h3 : ∀ p ∈ ps, OwnI w1 B p.2 p.1.kids) (hu : OwnI w1 B u y.kids)
    (hown : w'.ownsRow B 42 4 v' (ns.length + 1) (ndCells ps ++ [.int .i64 y.kind, .string (str y.tag), .string (str y.text), u])) (hb : Below w1.heap.size w1 w0) (hg : w0.grownBy w' v.ownBlock) : OwnR w' B v' (ns ++ [y]) := by
  have hkw : ∀ q ws, OwnI w1 B q ws → OwnI w' B q ws := fun q ws hq => own_same hq fun k hk => by
    have hlt := (World.ownsRow.lt hq k hk).2
    rw [hg.block k (Nat.lt_of_lt_of_le hlt hb.size) (fun e => own_ne h2 hq (by decide) hk e.symm)]
    exact hb.block k hlt
  refine ⟨ps ++ [(y, u)], by rw [List.map_append, h1]; rfl, ?_, ?_⟩
  · rw [List.length_append, ndCells_snoc]; exact hown
  · intro p hp
    rcases List.mem_append.1 hp with hp | hp
    · exact hkw _ _ (h3 p hp)
    · simp only [List.mem_cons, List.not_mem_nil, or_false] at hp
      subst hp
      exact hkw _ _ hu
set_option maxHeartbeats 4000000 in
set_option maxRecDepth 100000 in
theorem ours_any (v : Value) (g : List Ar.Nd) (w : World) (hg : RdGo w w.heap.size v g) (hgl : g.length ≤ 2199023255488) (hfi : ∀ x ∈ g, x.kids.length ≤ 17592186044160) :
    Calls Tryd.prog 17 #[v] w fun e w' => (∃ u, e = .returned u ∧ OwnR w' w.heap.size u g) ∧ Below w.heap.size w w' := by
  have HG := Lib.hid hg
  have HF := Lib.hid hfi
  obtain ⟨a, c, rfl, hgc, _⟩ := hg
  clear hfi
  go_enter Tryd.func17, Tryd.ntmps17
  go_wp2
  go_loopw [3, 8] (fun o i wr => ∃ j : Nat, j ≤ g.length ∧ i = .int .i64 j ∧ OwnR wr w.heap.size o (g.take j) ∧ Below w.heap.size w wr) (fun _ i _ => g.length - (intOf i).toNat)
  case atStart => exact ⟨0, by omega, rfl, ownR_nil _ _, Below.refl _ _⟩
  case round =>
    obtain ⟨j, hj, rfl, hout, hbw⟩ := hrel
    have hBr := hbw.size
    by_cases hlt : j < g.length
    · obtain ⟨_, _, hv, _, hcl0⟩ := HG.out.below hbw
      cases hv
      obtain ⟨gg, go, rfl, hgg, hcl⟩ := hcl0 (by omega)
      have hf := HF.out g[j] (List.getElem_mem hlt)
      have hwl := hf
      have HT := Lib.hid (List.take_succ_eq_append_getElem hlt)
      obtain ⟨n0, n1, n2, ⟨ka, kc, n3, n4⟩⟩ := hcl j hlt
      clear hcl hcl0 hf
      generalize g[j] = x at *
      obtain ⟨k, t, s, ks⟩ := x
      simp only at n0 n1 n2 n3 n4 hwl
      obtain ⟨ps, hp1, hp2, hp3⟩ := hout
      have htl : (g.take j).length ≤ 2199023255488 := by rw [List.length_take]; omega
      obtain ⟨i0, hi, hz0, hz1, hz2⟩ := info_parts infoR
      have HP1 := Lib.hid hp1
      have HP2 := Lib.hid hp2
      have HP3 := Lib.hid hp3
      have I0 := Lib.hid hi
      have I1 := Lib.hid hz0
      have I2 := Lib.hid hz1
      have I3 := Lib.hid hz2
      have N4 := Lib.hid n4
      clear hp1 hp2 hp3 hi hz0 hz1 hz2 n4
      go_wp2
      have hb0 := bnew wr (.cells #[.int .i64 k, .string (str t), .string (str s), .slice ka ks.length kc] 37)
      have hk0 := alloc_blk wr (.cells #[.int .i64 k, .string (str t), .string (str s), .slice ka ks.length kc] 37)
      have hsz : (wr.alloc (.cells #[.int .i64 k, .string (str t), .string (str s), .slice ka ks.length kc] 37)).heap.size = wr.heap.size + 1 := by rw [World.size_alloc]
      generalize wr.alloc (.cells #[.int .i64 k, .string (str t), .string (str s), .slice ka ks.length kc] 37) = W0 at *
      have HB0 := Lib.hid (hbw.trans (hb0.mono hBr))
      have ag : u3.ownBlock ≠ some wr.heap.size := fun e => Nat.lt_irrefl _ (World.ownsRow.lt HP2.out _ e).2
      have HP2' := Lib.hid (row_below HP2.out hb0)
      have HP3' := Lib.hid (fun p hp => row_below (HP3.out p hp) hb0)
      have N40 := Lib.hid (N4.out.below (hb0.mono hBr))
      have k0 := cell_blk hk0 0 (.int .i64 k) rfl
      have k1 := cell_blk hk0 1 (.string (str t)) rfl
      have k2 := cell_blk hk0 2 (.string (str s)) rfl
      have k3 := cell_blk hk0 3 (.slice ka ks.length kc) rfl
      have hDlt : wr.heap.size < W0.heap.size := by omega
      have HSZ := Lib.hid hsz
      generalize wr.heap.size = D at *
      clear n0 n1 n2 n3 hk0 hsz HP2 HP3
      go_region_held3 (fun w' => w'.cell? ⟨D, 0, none⟩ = some (.int .i64 k) ∧ w'.cell? ⟨D, 1, none⟩ = some (.string (str t)) ∧ w'.cell? ⟨D, 2, none⟩ = some (.string (str s)) ∧ w'.cell? ⟨D, 3, none⟩ = some (.slice ka ks.length kc))
        (first
          | go_keep
          | (go_split_ands
             refine ⟨?_, ?_, ?_, ?_⟩ <;> (rw [hgrow.cell_far _ (by simp; omega) (Ne.symm ag)]; assumption))
          | (go_split_ands
             refine ⟨?_, ?_, ?_, ?_⟩ <;> (rw [hb2.cell (by exact hDlt)]; assumption)))
        (first
          | (go_at_call 21; refine (clone_any _ ks w.heap.size _ (by exact N40.out) hwl).mono ?_; rintro e w2 ⟨⟨u, rfl, hu⟩, hb2⟩; obtain ⟨ua, uc, rfl⟩ := own_form hu; have hb2' : Below W0.heap.size W0 w2 := ⟨hb2.os, hb2.tape, hb2.output, hb2.size, hb2.block⟩; have hs2 := hb2'.size)
          | (refine step_append_lies _ (by rfl) _ _ _ (by rfl) w.heap.size 42 i0 _ 4 64 Tryd.underlying22 I0.out I1.out I2.out I3.out rfl (by omega) u3 (g.take j).length (ndCells ps) (by rfl) (by first | exact (World.ownsRow.alloc (row_below HP2'.out hb2') _) | exact (World.ownsRow.alloc (row_below HP2'.out hb2') _).drew) ⟨w2.heap.size, 0, none⟩ 1 1 [.int .i64 k, .string (str t), .string (str s), .slice ua ks.length uc] (by rfl) (by rfl) (World.news_of_block (cs := #[.int .i64 k, .string (str t), .string (str s), .slice ua ks.length uc]) (t := 42) (fr := (0, 0)) (heap_alloc_new w2 _)) (by simp [Value.oneCell']) (by omega) (by simp only [maxLen]; omega) (by omega) (by simp; omega) (w2.heap.size + 1) (by simp) ?_; intro gg' cap w3 hown3 hgrow hat hlt3))
      go_wp2
      go_roundw
      case rel =>
        have hjl : (g.take j).length = j := by rw [List.length_take]; omega
        have hsn := OwnR.snoc ⟨k, t, s, ks⟩ (.slice ua ks.length uc) ps HP1.out (row_below HP2'.out hb2') (fun p hp => row_below (HP3'.out p hp) hb2') (row_base hu HB0.out.size) hown3 (bnew w2 _) hgrow
        rw [hjl] at hsn
        have hb3 : Below w.heap.size w2 w3 := ((Below.refl w.heap.size w2).alloc (Nat.le_trans HB0.out.size hs2) _).grown hgrow (by rw [World.size_alloc]; have := HB0.out.size; omega) (fun k hk => (World.ownsRow.lt HP2'.out k hk).1)
        exact ⟨j + 1, by omega, by go_num, by rw [HT.out]; exact hsn, (HB0.out.trans (hb2'.mono HB0.out.size)).trans hb3⟩
      case measure => simp [intOf]; omega
    · have hje : j = g.length := by omega
      subst hje
      have HT := Lib.hid (List.take_of_length_le (Nat.le_refl g.length))
      have HOUT := Lib.hid hout
      clear hout
      go_wp2
      go_ret
      exact ⟨⟨_, rfl, by have := HOUT.out; rw [HT.out] at this; exact this⟩, hbw⟩

set_option maxHeartbeats 4000000 in
set_option maxRecDepth 100000 in
/-- the very same nodes -/
theorem equalN_same (v u : Value) (ns : List Ar.Nd) (w : World) (h1 : RdGo w w.heap.size v ns) (h2 : RdGo w w.heap.size u ns) (hln : ns.length ≤ 1000000) (hk : ∀ x ∈ ns, x.kids.length ≤ 1000000) :
    Calls Tryd.prog 16 #[v, u] w fun e w' => e = .returned (.bool true) ∧ ∃ n, w' = w.drewN n := by
  obtain ⟨a, c, rfl, hc, hcl⟩ := h1
  obtain ⟨b, d, rfl, hd, hql⟩ := h2
  have H1 := Lib.hid hcl
  have H2 := Lib.hid hql
  have HK := Lib.hid hk
  clear hcl hql hk
  go_enter Tryd.func16, Tryd.ntmps16
  go_wp2
  go_loopg [5] ns.length (fun q i wr => ∃ j n : Nat, j ≤ ns.length ∧ q = ns.length - j ∧ i = .int .i64 j ∧ wr = w.drewN n)
  case atStart => exact ⟨0, 0, by omega, by omega, rfl, rfl⟩
  case round =>
    obtain ⟨j, n, hj, rfl, rfl, rfl⟩ := hrel
    by_cases hlt : j < ns.length
    · obtain ⟨g, o, rfl, hg, hcl⟩ := H1.out (by omega)
      obtain ⟨q, p, rfl, hq, hql⟩ := H2.out (by omega)
      obtain ⟨c0, c1, c2, ⟨ka, kc, c3, c4⟩⟩ := hcl j hlt
      obtain ⟨d0, d1, d2, ⟨la, lc, d3, d4⟩⟩ := hql j hlt
      have hkl := HK.out _ (List.getElem_mem hlt)
      clear hcl hql
      have hi0 : (0 : Int) ≤ (j : Int) := Int.natCast_nonneg _
      have hi1 : (j : Int) < (ns.length : Int) := by omega
      generalize ns[j] = x at *
      obtain ⟨k, t, s, ks⟩ := x
      simp only at c0 c1 c2 c3 c4 d0 d1 d2 d3 d4 hkl
      have C4 := Lib.hid c4
      have D4 := Lib.hid d4
      clear c4 d4
      go_wp2
      go_quiet (fail)
      go_wp2
      go_loopg [6] ks.length (fun q i wr => ∃ m n : Nat, m ≤ ks.length ∧ q = ks.length - m ∧ i = .int .i64 m ∧ wr = w.drewN n)
      case atStart => exact ⟨0, _, by omega, by omega, rfl, World.drewN_drewN _ _ _⟩
      case round =>
        obtain ⟨m, n2, hm, rfl, rfl, rfl⟩ := hrel
        by_cases hmt : m < ks.length
        · obtain ⟨_, _, hv, _, hcl⟩ := C4.out
          cases hv
          obtain ⟨kg, ko, rfl, _, hcl⟩ := hcl (by omega)
          obtain ⟨_, _, hv, _, hql⟩ := D4.out
          cases hv
          obtain ⟨lg, lo, rfl, _, hql⟩ := hql (by omega)
          have e1 := hcl m hmt
          have e2 := hql m hmt
          clear hcl hql
          have hm0 : (0 : Int) ≤ (m : Int) := Int.natCast_nonneg _
          have hm1 : (m : Int) < (ks.length : Int) := by omega
          generalize ks[m] = kk at *
          go_wp2
          go_quiet (fail)
          go_wp2
          go_roundg (ks.length - (m + 1))
          case measure => omega
          case rel => exact ⟨m + 1, _, by omega, rfl, by go_num, rfl⟩
        · go_wp2
          go_roundg (ns.length - (j + 1))
          case measure => omega
          case rel => exact ⟨j + 1, _, by omega, rfl, by go_num, rfl⟩
    · have hje : j = ns.length := by omega
      subst hje
      go_wp2
      go_ret
      exact ⟨rfl, _, rfl⟩
end Go.Proofs.YtnlbnnnhmdjciaaDoor
