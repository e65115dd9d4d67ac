/-
  What the laws do first: Heavy, slices.Clone of kids, Theirs (the same graph, the program's).
-/
import Derived.Test.YtbimjdlkffbncaaDoorAk
import Derived.Test.YtbimjdlkffbncaaDoorSa
import Derived.Deep.RegionHeld3
import Derived.Deep.AppendLies
namespace Go.Proofs.YtbimjdlkffbncaaDoor
namespace Ar
def heavy (g : List Nd) : Bool := (g.any fun x => decide (200 < x.kids.length) || (decide (2000 < x.text.length) || decide (2000 < x.tag.length))) || decide (120 < g.length)
end Ar
open Go.RowKit Go.Maps
theorem row_base {w : World} {B B' e z n : Nat} {v : Value} {xs : List Value} (h : w.ownsRow B e z v n xs) (hB : B' ≤ B) : w.ownsRow B' e z v n xs := by
  obtain ⟨h1, h2⟩ := h
  refine ⟨h1, ?_⟩
  rcases h2 with h2 | ⟨g, cap, cur, hv, hB2, hr⟩
  · exact .inl h2
  · exact .inr ⟨g, cap, cur, hv, Nat.le_trans hB hB2, hr⟩
/-- slices.Clone of numbers -/
theorem clone_any (v : Value) (ks : List Int) (B : Nat) (w : World) (hk : RdI w B v ks) (hl : ks.length ≤ 17592186044160) :
    Calls Tryd.prog 52 #[v] w fun e w' => (∃ u, e = .returned u ∧ OwnI w' w.heap.size u ks) ∧ Below w.heap.size w w' := by
  obtain ⟨a, c, rfl, hc, hcl⟩ := hk
  by_cases h0 : 0 < ks.length
  · obtain ⟨g, o, rfl, hg, hcl⟩ := hcl h0
    refine (Tryd.slices_Clone_int g o ks.length c ks w (Nat.le_refl _) (by omega) (fun j hj => by rw [hcl j hj, List.getD_eq_getElem?_getD, List.getElem?_eq_getElem hj]; rfl)).mono ?_
    rintro e w' ⟨u, rfl, hu, _, hb⟩
    rw [List.take_of_length_le (Nat.le_refl _)] at hu
    exact ⟨⟨u, rfl, hu⟩, hb⟩
  · have : ks = [] := List.eq_nil_of_length_eq_zero (by omega)
    subst this
    cases a with
    | none =>
      refine (Tryd.slices_Clone_int_nil 0 c w).mono ?_
      rintro e w' ⟨rfl, rfl⟩
      exact ⟨⟨_, rfl, World.ownsRow_nil _ _ _ _⟩, Below.refl _ _⟩
    | some a =>
      refine (Tryd.slices_Clone_int_zero a c w).mono ?_
      rintro e w' ⟨u, rfl, hu, _, hb⟩
      exact ⟨⟨u, rfl, hu⟩, hb⟩
/-- slices.Equal of numbers -/
theorem equalI_any (v u : Value) (xs ys : List Int) (B C : Nat) (w : World) (hv : RdI w B v xs) (hu : RdI w C u ys) (hx : xs.length ≤ 1000000) (hy : ys.length ≤ 1000000) :
    Calls Tryd.prog 97 #[v, u] w fun e w' => e = .returned (.bool (xs == ys)) ∧ ∃ q, w' = w.drewN q := by
  obtain ⟨a, c, rfl, hc, hcl⟩ := hv
  obtain ⟨b, d, rfl, hd, hdl⟩ := hu
  by_cases hne : xs.length = ys.length
  · by_cases h0 : 0 < xs.length
    · obtain ⟨g, o, rfl, hg, hcl⟩ := hcl h0
      obtain ⟨g', o', rfl, hg', hdl⟩ := hdl (by omega)
      refine (Tryd.slices_Equal_int g o xs.length c g' o' ys.length d xs ys w (Nat.le_refl _) (Nat.le_refl _) (by omega) (by omega) (fun j hj => by rw [hcl j hj, List.getD_eq_getElem?_getD, List.getElem?_eq_getElem hj]; rfl) (fun j hj => by rw [hdl j hj, List.getD_eq_getElem?_getD, List.getElem?_eq_getElem hj]; rfl)).mono ?_
      rintro e w' ⟨rfl, hq⟩
      rw [List.take_of_length_le (Nat.le_refl _), List.take_of_length_le (Nat.le_refl _)]
      exact ⟨rfl, hq⟩
    · have h1 : xs = [] := List.eq_nil_of_length_eq_zero (by omega)
      have h2 : ys = [] := List.eq_nil_of_length_eq_zero (by omega)
      subst h1; subst h2
      refine (Tryd.slices_Equal_int_empty a b c 0 d w (by omega)).mono ?_
      rintro e w' ⟨rfl, rfl⟩
      exact ⟨rfl, 0, rfl⟩
  · refine (Tryd.slices_Equal_int_lens a b xs.length c ys.length d w hne).mono ?_
    rintro e w' ⟨rfl, rfl⟩
    exact ⟨by rw [beq_eq_false_iff_ne.2 (fun e => hne (by rw [e]))], 0, rfl⟩

set_option maxHeartbeats 2000000 in
theorem heavy_any (v : Value) (g : List Ar.Nd) (w : World) (hg : RdGo w w.heap.size v g) (hgl : g.length ≤ 2199023255488) :
    Calls Tryd.prog 28 #[v] w fun e w' => e = .returned (.bool (Ar.heavy g)) ∧ Below w.heap.size w w' := by
  obtain ⟨ANS, hANS⟩ : ∃ ANS, Ar.heavy g = ANS := ⟨_, rfl⟩
  rw [hANS]
  have HA : Hid (((g.any fun x => decide (200 < x.kids.length) || (decide (2000 < x.text.length) || decide (2000 < x.tag.length))) || decide (120 < g.length)) = ANS) := hANS
  have HG := Lib.hid hg
  clear hANS
  obtain ⟨ga, gc, rfl, hgc, _⟩ := hg
  go_enter Tryd.func28, Tryd.ntmps28
  go_wp2
  go_loopw [7] (fun i wr => ∃ (j : Nat), j ≤ g.length ∧ i = .int .i64 j ∧ Hid ((((g.drop j).any fun x => decide (200 < x.kids.length) || (decide (2000 < x.text.length) || decide (2000 < x.tag.length))) || decide (120 < g.length)) = ANS) ∧ Hid (Below w.heap.size w wr)) (fun i _ => g.length - (intOf i).toNat)
  case atStart => exact ⟨0, by omega, rfl, HA, Lib.hid (Below.refl _ _)⟩
  case round =>
    obtain ⟨j, hj, rfl, HI, HB⟩ := hrel
    clear HA
    by_cases hlt : j < g.length
    · have hI := HI.out
      rw [List.drop_eq_getElem_cons hlt, List.any_cons] at hI
      clear HI
      obtain ⟨_, _, hv, _, hcl0⟩ := HG.out.below HB.out
      cases hv
      obtain ⟨gg, go, rfl, hgg, hcl⟩ := hcl0 (by omega)
      obtain ⟨n0, n1, n2, ⟨a, c, n3, n4⟩⟩ := hcl j hlt
      clear hcl hcl0
      generalize g[j] = x at *
      obtain ⟨k, t, s, ks⟩ := x
      simp only at hI n0 n1 n2 n3 n4
      have hB2 := HB.out.alloc HB.out.size (.cells #[.int .i64 k, .string (str t), .string (str s), .slice a ks.length c] 66)
      have st := str_size t
      have ss := str_size s
      by_cases h1 : 200 < ks.length
      · rw [decide_eq_true h1, Bool.true_or, Bool.true_or, Bool.true_or] at hI
        subst hI
        go_wp2
        go_ret
        exact ⟨rfl, hB2⟩
      · rw [decide_eq_false h1, Bool.false_or] at hI
        by_cases h2 : 2000 < s.length
        · rw [decide_eq_true h2, Bool.true_or, Bool.true_or, Bool.true_or] at hI
          subst hI
          go_wp2
          go_ret
          exact ⟨rfl, hB2⟩
        · rw [decide_eq_false h2, Bool.false_or] at hI
          by_cases h3 : 2000 < t.length
          · rw [decide_eq_true h3, Bool.true_or, Bool.true_or] at hI
            subst hI
            go_wp2
            go_ret
            exact ⟨rfl, hB2⟩
          · rw [decide_eq_false h3, Bool.false_or] at hI
            have HI := Lib.hid hI
            clear hI
            go_wp2
            go_roundw
            case rel => exact ⟨j + 1, by omega, by go_num, HI, Lib.hid hB2⟩
            case measure => simp [intOf]; omega
    · have hF : ANS = decide (120 < g.length) := by rw [← HI.out, List.drop_eq_nil_of_le (by omega)]; rfl
      subst hF
      clear HI
      go_wp2
      go_ret
      exact ⟨ret_bool (by rw [decide_eq_decide]; omega), HB.out⟩
/-- a graph, and one more node, out of what an append gives -/
theorem OwnG.snoc {w0 w1 w' : World} {B : Nat} {v v' : Value} {ns : List Ar.Nd} (y : Ar.Nd) (u : Value) (ps : List (Ar.Nd × Value)) (h1 : ps.map (·.1) = ns) (h2 : w1.ownsRow B 64 4 v ns.length (ndCells ps)) (h3 : ∀ p ∈ ps, OwnI w1 B p.2 p.1.kids) (hu : OwnI w1 B u y.kids)
    (hown : w'.ownsRow B 64 4 v' (ns.length + 1) (ndCells ps ++ [.int .i64 y.kind, .string (str y.tag), .string (str y.text), u])) (hb : Below w1.heap.size w1 w0) (hg : w0.grownBy w' v.ownBlock) : OwnG w' B v' (ns ++ [y]) := by
  have hkw : ∀ q ws, OwnI w1 B q ws → OwnI w' B q ws := fun q ws hq => own_same hq fun k hk => by
    have hlt := (World.ownsRow.lt hq k hk).2
    rw [hg.block k (Nat.lt_of_lt_of_le hlt hb.size) (fun e => own_ne h2 hq (by decide) hk e.symm)]
    exact hb.block k hlt
  refine ⟨ps ++ [(y, u)], by rw [List.map_append, h1]; rfl, ?_, ?_⟩
  · rw [List.length_append, ndCells_snoc]; exact hown
  · intro p hp
    rcases List.mem_append.1 hp with hp | hp
    · exact hkw _ _ (h3 p hp)
    · simp only [List.mem_cons, List.not_mem_nil, or_false] at hp
      subst hp
      exact hkw _ _ hu
set_option maxHeartbeats 4000000 in
set_option maxRecDepth 100000 in
theorem theirs_any (v : Value) (g : List Ar.Nd) (w : World) (hg : RdGo w w.heap.size v g) (hgl : g.length ≤ 2199023255488) (hfi : ∀ x ∈ g, x.kids.length ≤ 17592186044160) :
    Calls Tryd.prog 30 #[v] w fun e w' => (∃ u, e = .returned u ∧ OwnG w' w.heap.size u g) ∧ Below w.heap.size w w' := by
  have HG := Lib.hid hg
  have HF := Lib.hid hfi
  obtain ⟨a, c, rfl, hgc, _⟩ := hg
  clear hfi
  go_enter Tryd.func30, Tryd.ntmps30
  go_wp2
  go_loopw [3, 8] (fun o i wr => ∃ j : Nat, j ≤ g.length ∧ i = .int .i64 j ∧ OwnG wr w.heap.size o (g.take j) ∧ Below w.heap.size w wr) (fun _ i _ => g.length - (intOf i).toNat)
  case atStart => exact ⟨0, by omega, rfl, ownG_nil _ _, Below.refl _ _⟩
  case round =>
    obtain ⟨j, hj, rfl, hout, hbw⟩ := hrel
    have hBr := hbw.size
    by_cases hlt : j < g.length
    · obtain ⟨_, _, hv, _, hcl0⟩ := HG.out.below hbw
      cases hv
      obtain ⟨gg, go, rfl, hgg, hcl⟩ := hcl0 (by omega)
      have hf := HF.out g[j] (List.getElem_mem hlt)
      have hwl := hf
      have HT := Lib.hid (List.take_succ_eq_append_getElem hlt)
      obtain ⟨n0, n1, n2, ⟨ka, kc, n3, n4⟩⟩ := hcl j hlt
      clear hcl hcl0 hf
      generalize g[j] = x at *
      obtain ⟨k, t, s, ks⟩ := x
      simp only at n0 n1 n2 n3 n4 hwl
      obtain ⟨ps, hp1, hp2, hp3⟩ := hout
      have htl : (g.take j).length ≤ 2199023255488 := by rw [List.length_take]; omega
      obtain ⟨i0, hi, hz0, hz1, hz2⟩ := info_parts infoN
      have HP1 := Lib.hid hp1
      have HP2 := Lib.hid hp2
      have HP3 := Lib.hid hp3
      have I0 := Lib.hid hi
      have I1 := Lib.hid hz0
      have I2 := Lib.hid hz1
      have I3 := Lib.hid hz2
      have N4 := Lib.hid n4
      clear hp1 hp2 hp3 hi hz0 hz1 hz2 n4
      go_wp2
      have hb0 := bnew wr (.cells #[.int .i64 k, .string (str t), .string (str s), .slice ka ks.length kc] 66)
      have hk0 := alloc_blk wr (.cells #[.int .i64 k, .string (str t), .string (str s), .slice ka ks.length kc] 66)
      have hsz : (wr.alloc (.cells #[.int .i64 k, .string (str t), .string (str s), .slice ka ks.length kc] 66)).heap.size = wr.heap.size + 1 := by rw [World.size_alloc]
      generalize wr.alloc (.cells #[.int .i64 k, .string (str t), .string (str s), .slice ka ks.length kc] 66) = W0 at *
      have HB0 := Lib.hid (hbw.trans (hb0.mono hBr))
      have ag : u3.ownBlock ≠ some wr.heap.size := fun e => Nat.lt_irrefl _ (World.ownsRow.lt HP2.out _ e).2
      have HP2' := Lib.hid (row_below HP2.out hb0)
      have HP3' := Lib.hid (fun p hp => row_below (HP3.out p hp) hb0)
      have N40 := Lib.hid (N4.out.below (hb0.mono hBr))
      have k0 := cell_blk hk0 0 (.int .i64 k) rfl
      have k1 := cell_blk hk0 1 (.string (str t)) rfl
      have k2 := cell_blk hk0 2 (.string (str s)) rfl
      have k3 := cell_blk hk0 3 (.slice ka ks.length kc) rfl
      have hDlt : wr.heap.size < W0.heap.size := by omega
      have HSZ := Lib.hid hsz
      generalize wr.heap.size = D at *
      clear n0 n1 n2 n3 hk0 hsz HP2 HP3
      go_region_held3 (fun w' => w'.cell? ⟨D, 0, none⟩ = some (.int .i64 k) ∧ w'.cell? ⟨D, 1, none⟩ = some (.string (str t)) ∧ w'.cell? ⟨D, 2, none⟩ = some (.string (str s)) ∧ w'.cell? ⟨D, 3, none⟩ = some (.slice ka ks.length kc))
        (first
          | go_keep
          | (go_split_ands
             refine ⟨?_, ?_, ?_, ?_⟩ <;> (rw [hgrow.cell_far _ (by simp; omega) (Ne.symm ag)]; assumption))
          | (go_split_ands
             refine ⟨?_, ?_, ?_, ?_⟩ <;> (rw [hb2.cell (by exact hDlt)]; assumption)))
        (first
          | (go_at_call 52; refine (clone_any _ ks w.heap.size _ (by exact N40.out) hwl).mono ?_; rintro e w2 ⟨⟨u, rfl, hu⟩, hb2⟩; obtain ⟨ua, uc, rfl⟩ := own_form hu; have hb2' : Below W0.heap.size W0 w2 := ⟨hb2.os, hb2.tape, hb2.output, hb2.size, hb2.block⟩; have hs2 := hb2'.size)
          | (refine step_append_lies _ (by rfl) _ _ _ (by rfl) w.heap.size 64 i0 _ 4 64 Tryd.underlying45 I0.out I1.out I2.out I3.out rfl (by omega) u3 (g.take j).length (ndCells ps) (by rfl) (by first | exact (World.ownsRow.alloc (row_below HP2'.out hb2') _) | exact (World.ownsRow.alloc (row_below HP2'.out hb2') _).drew) ⟨w2.heap.size, 0, none⟩ 1 1 [.int .i64 k, .string (str t), .string (str s), .slice ua ks.length uc] (by rfl) (by rfl) (World.news_of_block (cs := #[.int .i64 k, .string (str t), .string (str s), .slice ua ks.length uc]) (t := 64) (fr := (0, 0)) (heap_alloc_new w2 _)) (by simp [Value.oneCell']) (by omega) (by simp only [maxLen]; omega) (by omega) (by simp; omega) (w2.heap.size + 1) (by simp) ?_; intro gg' cap w3 hown3 hgrow hat hlt3))
      go_wp2
      go_roundw
      case rel =>
        have hjl : (g.take j).length = j := by rw [List.length_take]; omega
        have hsn := OwnG.snoc ⟨k, t, s, ks⟩ (.slice ua ks.length uc) ps HP1.out (row_below HP2'.out hb2') (fun p hp => row_below (HP3'.out p hp) hb2') (row_base hu HB0.out.size) hown3 (bnew w2 _) hgrow
        rw [hjl] at hsn
        have hb3 : Below w.heap.size w2 w3 := ((Below.refl w.heap.size w2).alloc (Nat.le_trans HB0.out.size hs2) _).grown hgrow (by rw [World.size_alloc]; have := HB0.out.size; omega) (fun k hk => (World.ownsRow.lt HP2'.out k hk).1)
        exact ⟨j + 1, by omega, by go_num, by rw [HT.out]; exact hsn, (HB0.out.trans (hb2'.mono HB0.out.size)).trans hb3⟩
      case measure => simp [intOf]; omega
    · have hje : j = g.length := by omega
      subst hje
      have HT := Lib.hid (List.take_of_length_le (Nat.le_refl g.length))
      have HOUT := Lib.hid hout
      clear hout
      go_wp2
      go_ret
      exact ⟨⟨_, rfl, by have := HOUT.out; rw [HT.out] at this; exact this⟩, hbw⟩
end Go.Proofs.YtbimjdlkffbncaaDoor
