/-
  The walk of arena.Normal.
-/
import Derived.Test.YtbimjdlkffbncaaDoorAl
namespace Go.Proofs.YtbimjdlkffbncaaDoor
namespace Ar
def numGo : List Int → Nat → List Nat → List Int
  | ns, _, [] => ns
  | ns, i, a :: t => numGo (ns.set a i) (i + 1) t
def nums (g : List Nd) (met : List Nat) : List Int := numGo (List.replicate g.length 0) 0 met
def renum (g : List Nd) (ns : List Int) (a : Nat) : Nd := ⟨(at' g a).kind, (at' g a).tag, (at' g a).text, (at' g a).kids.map fun k => ns.getD k.toNat 0⟩
def normal (g : List Nd) : List Nd := (order g).map (renum g (nums g (order g)))
theorem numGo_len : ∀ (ns : List Int) (i : Nat) (met : List Nat), (numGo ns i met).length = ns.length
  | _, _, [] => rfl
  | ns, i, a :: t => by unfold numGo; rw [numGo_len, List.length_set]
theorem order_nb (g : List Nd) : NB g.length (order g) := by
  unfold order
  cases hr : right g
  · rw [if_neg (by decide)]; exact ⟨List.nodup_nil, fun x hx => absurd hx List.not_mem_nil⟩
  · rw [if_pos rfl]
    exact (meet_nb g (right_kids hr) _ 0 [] (right_len hr).1 ⟨List.nodup_nil, fun x hx => absurd hx List.not_mem_nil⟩).1
theorem order_right {g : List Nd} (h : order g ≠ []) : right g = true := by
  unfold order at h
  cases hr : right g
  · rw [hr, if_neg (by decide)] at h; exact absurd rfl h
  · rfl
end Ar
open Go.RowKit Go.Maps

theorem OwnG.base {w : World} {B B' : Nat} {v : Value} {ns : List Ar.Nd} (h : OwnG w B v ns) (hB : B' ≤ B) : OwnG w B' v ns := by
  obtain ⟨ps, h1, h2, h3⟩ := h
  exact ⟨ps, h1, row_base h2 hB, fun p hp => row_base (h3 p hp) hB⟩
theorem nats_at (met : List Nat) (j : Nat) (h : j < met.length) : (nats met)[j]'(by rw [nats_len]; exact h) = ((met[j] : Nat) : Int) := by simp [nats]
set_option maxHeartbeats 4000000 in
set_option maxRecDepth 100000 in
theorem normal_any (v : Value) (g : List Ar.Nd) (w : World) (hg : RdG w w.heap.size v g) (hgl : g.length ≤ 1000000) (hfi : ∀ x ∈ g, Fine x) (hE : Env w) :
    Calls Tryd.prog 24 #[v] w fun e w' => (∃ u, e = .returned u ∧ OwnG w' w.heap.size u (Ar.normal g)) ∧ Below w.heap.size w w' := by
  have cO := Lib.hid (order_any v g w hg hgl hfi hE)
  have hnb := Ar.order_nb g
  have hri := @Ar.order_right g
  have HG := Lib.hid hg
  have HF := Lib.hid hfi
  clear hfi
  obtain ⟨ga, gc, rfl, hgc, _⟩ := hg
  unfold Ar.normal
  generalize Ar.order g = met at *
  have hml := hnb.len
  have hm3 := made3 g.length (by omega)
  obtain ⟨NS, hNS⟩ : ∃ NS, Ar.nums g met = NS := ⟨_, rfl⟩
  have hNSl : NS.length = g.length := by rw [← hNS]; unfold Ar.nums; rw [Ar.numGo_len, List.length_replicate]
  rw [hNS]
  have HNS : Hid (Ar.numGo (List.replicate g.length 0) 0 met = NS) := hNS
  clear hNS
  have HNB := Lib.hid hnb
  have HRI := Lib.hid hri
  clear hnb hri
  by_cases h0 : met = []
  · subst h0
    go_enter Tryd.func24, Tryd.ntmps24
    go_wp2_with (go_at_call 53; refine cO.out.mono ?_; rintro e w1 ⟨⟨u, rfl, hu⟩, hb1⟩; obtain ⟨oa, oc, rfl, _, _⟩ := hu; have hz := nats_len [])
    go_ret
    exact ⟨⟨_, rfl, ownG_nil _ _⟩, hb1⟩
  · have hl0 : met.length ≠ 0 := fun e => h0 (List.eq_nil_of_length_eq_zero e)
    have i0 : ((met.length : Int) == 0) = false := beq_eq_false_iff_ne.2 (by omega)
    have HNL := Lib.hid (nats_len met)
    go_enter Tryd.func24, Tryd.ntmps24
    go_wp2_with (go_at_call 53; refine cO.out.mono ?_; rintro e w1 ⟨⟨u, rfl, hu⟩, hb1⟩; have HU := Lib.hid hu; obtain ⟨oa, oc, rfl, _, _⟩ := hu; rw [HNL.out] at *)
    have hs1 := hb1.size
    go_loopg [23] met.length (fun q i wr => ∃ (j : Nat) (ns : List Int), j ≤ met.length ∧ q = met.length - j ∧ i = .int .i64 j ∧ ns.length = g.length ∧ Hid (Ar.numGo ns j (met.drop j) = NS) ∧ Hid (wr.heap[w1.heap.size]? = some (.cells (cellsI ns) 3)) ∧ Hid (Below w1.heap.size w1 wr))
    case atStart => exact ⟨0, _, by omega, by omega, rfl, List.length_replicate, HNS, Lib.hid (alloc_blk _ _), Lib.hid (bnew _ _)⟩
    case round =>
      obtain ⟨j, ns, hj, rfl, rfl, hns, HI, HC, HB⟩ := hrel
      by_cases hlt : j < met.length
      · have hI := HI.out
        rw [List.drop_eq_getElem_cons hlt] at hI
        unfold Ar.numGo at hI
        obtain ⟨_, _, hv, _, hcl0⟩ := HU.out.below HB.out
        simp only [Value.slice.injEq] at hv
        obtain ⟨rfl, hqq, rfl⟩ := hv
        clear hqq
        obtain ⟨mg, mo, rfl, _, hcl⟩ := hcl0 (by rw [nats_len]; omega)
        have hcj := hcl j (by rw [nats_len]; omega)
        rw [nats_at met j hlt] at hcj
        have hay := HNB.out.2 _ (List.getElem_mem hlt)
        clear hcl hcl0 HI
        generalize met[j] = y at *
        have hfy := frozen_blk HC.out y
        have hcy := cell_blk HC.out y _ (cellsI_at ns y (by omega))
        have hC3 := blk_set HC.out y (.int .i64 (j : Int))
        rw [cellsI_set] at hC3
        have HC3 := Lib.hid hC3
        have HB3 := Lib.hid (Below.setCell (p := ⟨w1.heap.size, y, none⟩) HB.out (Nat.le_refl _) (.int .i64 (j : Int)))
        have hl3 : (ns.set y (j : Int)).length = g.length := by rw [List.length_set]; exact hns
        have HI := Lib.hid hI
        clear hC3 hI
        generalize ns.set y (j : Int) = ns' at *
        go_wp2
        go_roundg (met.length - (j + 1))
        case measure => omega
        case rel => exact ⟨j + 1, ns', by omega, rfl, by go_num, hl3, HI, HC3, HB3⟩
      · have hje : j = met.length := by omega
        subst hje
        have hI := HI.out
        rw [List.drop_eq_nil_of_le (by omega)] at hI
        have hI : ns = NS := hI
        subst hI
        clear HI HNS
        have hr := HRI.out h0
        have HKI := Lib.hid (right_kids hr : Ar.Kids g)
        clear hr
        have hwr := HB.out.size
        have hnlt : w1.heap.size < wr.heap.size := (Array.getElem?_eq_some_iff.1 HC.out).1
        go_wp2
        go_loopg [7, 35] met.length (fun q o i wr2 => ∃ (j : Nat), j ≤ met.length ∧ q = met.length - j ∧ i = .int .i64 j ∧ Hid (OwnG wr2 (w1.heap.size + 1) o ((met.take j).map (Ar.renum g ns))) ∧ Hid (wr2.heap[w1.heap.size]? = some (.cells (cellsI ns) 3)) ∧ Hid (Below w1.heap.size w1 wr2) ∧ w1.heap.size + 1 ≤ wr2.heap.size)
        case atStart => exact ⟨0, by omega, by omega, rfl, Lib.hid (ownG_nil _ _), HC, HB, hnlt⟩
        case round =>
          obtain ⟨j2, hj2, rfl, rfl, HO, HC2, HB2, hT⟩ := hrel
          by_cases hlt2 : j2 < met.length
          · have hwr2 := HB2.out.size
            have HT := Lib.hid (List.take_succ_eq_append_getElem hlt2)
            obtain ⟨_, _, hv, _, hcl0⟩ := HU.out.below HB2.out
            simp only [Value.slice.injEq] at hv
            obtain ⟨rfl, hqq, rfl⟩ := hv
            clear hqq
            obtain ⟨mg, mo, rfl, _, hcl⟩ := hcl0 (by rw [nats_len]; omega)
            have hcj := hcl j2 (by rw [nats_len]; omega)
            rw [nats_at met j2 hlt2] at hcj
            have hay := HNB.out.2 _ (List.getElem_mem hlt2)
            clear hcl hcl0
            generalize met[j2] = y at *
            have hBw : Below w.heap.size w wr := hb1.trans (HB2.out.mono hs1)
            obtain ⟨_, _, hv, _, hcl0⟩ := HG.out.below hBw
            cases hv
            obtain ⟨gg, rfl, hgg, hcl⟩ := hcl0 (by omega)
            obtain ⟨n0, n1, n2, ⟨ka, kc, n3, n4⟩⟩ := hcl y hay
            have hfk := (HF.out _ (List.getElem_mem hay)).kids
            have hkn := HKI.out _ (List.getElem_mem hay)
            have hat : Ar.at' g (y : Int) = g[y] := Ar.at_get g y (by omega) hay
            have hRen : Ar.renum g ns y = ⟨g[y].kind, g[y].tag, g[y].text, g[y].kids.map fun k => ns.getD k.toNat 0⟩ := by unfold Ar.renum; rw [hat]
            clear hcl hcl0 hat
            generalize g[y] = x at *
            obtain ⟨k, t, s, ks⟩ := x
            simp only at n0 n1 n2 n3 n4 hfk hkn hRen
            have HRen := Lib.hid hRen
            have N4 := Lib.hid n4
            have HKN := Lib.hid hkn
            obtain ⟨oa', oc', hu7⟩ := HO.out.form
            have hlj : ((met.take j2).map (Ar.renum g ns)).length = j2 := by rw [List.length_map, List.length_take]; omega
            rw [hlj] at hu7
            subst hu7
            have HLJ := Lib.hid hlj
            clear hlj
            have hlt2' : j2 < (nats met).length := by rw [nats_len]; exact hlt2
            have hb9 := bnew wr (.cells #[.int .i64 k, .string (str t), .string (str s), .slice none 0 0] 64)
            have n3' := (hb9.cell (p := ⟨gg, y * 4 + 3, none⟩) (Nat.lt_of_lt_of_le hgg hBw.size)).trans n3
            have HB9 := Lib.hid hb9
            clear hRen n4 hkn hb9
            go_wp2
            have hk0 := alloc_blk wr (.cells #[.int .i64 k, .string (str t), .string (str s), .slice none 0 0] 64)
            have hsz : (wr.alloc (.cells #[.int .i64 k, .string (str t), .string (str s), .slice none 0 0] 64)).heap.size = wr.heap.size + 1 := by rw [World.size_alloc]
            have HN4 : ∀ wi, Below wr.heap.size wr wi → RdI wi w.heap.size (.slice ka ks.length kc) ks := fun wi hb => N4.out.below (hb.mono hBw.size)
            have HC9 : ∀ wi, Below wr.heap.size wr wi → wi.heap[w1.heap.size]? = some (.cells (cellsI ns) 3) := fun wi hb => blk_below HC2.out hb
            have HNN := Lib.hid HN4
            have HCC := Lib.hid HC9
            have HOO : Hid (∀ wi, Below wr.heap.size wr wi → OwnG wi (w1.heap.size + 1) (.slice oa' j2 oc') ((met.take j2).map (Ar.renum g ns))) := fun wi hb => HO.out.below hb
            have HBB : Hid (∀ wi, Below wr.heap.size wr wi → Below w1.heap.size w1 wi) := fun wi hb => HB2.out.trans (hb.mono hwr2)
            clear HN4 HC9 n0 n1 n2 n3 n3' hcj
            generalize wr.alloc (.cells #[.int .i64 k, .string (str t), .string (str s), .slice none 0 0] 64) = W0 at *
            have hD0 := Lib.hid (Nat.le_refl wr.heap.size)
            generalize wr.heap.size = D at *
            obtain ⟨wo, hwo⟩ : ∃ wo, wo = wr := ⟨_, rfl⟩
            subst hwo
            go_loopg [50] ks.length (fun q i wi => ∃ (m : Nat) (u : Value), m ≤ ks.length ∧ q = ks.length - m ∧ i = .int .i64 m ∧ Hid (wi.heap[D]? = some (.cells #[.int .i64 k, .string (str t), .string (str s), u] 64)) ∧ Hid (OwnI wi (D + 1) u ((ks.take m).map (fun k => ns.getD k.toNat 0))) ∧ Hid (Below D wo wi) ∧ D + 1 ≤ wi.heap.size)
            case atStart => exact ⟨0, _, by omega, by omega, rfl, Lib.hid hk0, Lib.hid (World.ownsRow_nil _ _ _ _), HB9, by omega⟩
            case round =>
              obtain ⟨m, u, hm, rfl, rfl, HK, HU2, HB5, hTD⟩ := hrel
              by_cases hmt : m < ks.length
              · have hU := HU2.out
                obtain ⟨_, _, hv, _, hcl0⟩ := HNN.out _ HB5.out
                cases hv
                obtain ⟨kg, ko, rfl, _, hcl⟩ := hcl0 (by omega)
                have hkm := hcl m hmt
                have hkk := HKN.out _ (List.getElem_mem hmt)
                have HT2 := Lib.hid (List.take_succ_eq_append_getElem hmt)
                clear hcl hcl0
                generalize ks[m] = kk at *
                unfold Ar.isNode at hkk
                simp only [Bool.and_eq_true, decide_eq_true_eq] at hkk
                obtain ⟨hkk0, hkk1⟩ := hkk
                obtain ⟨y2, rfl⟩ : ∃ y2 : Nat, kk = (y2 : Int) := ⟨kk.toNat, by omega⟩
                have hy2 : y2 < ns.length := by omega
                have hy3 : y2 < g.length := by omega
                have hcn := cell_blk (HCC.out _ HB5.out) y2 _ (cellsI_at ns y2 hy2)
                have hzz : ns.getD ((y2 : Nat) : Int).toNat 0 = ns[y2] := by rw [Int.toNat_natCast, List.getD_eq_getElem?_getD, List.getElem?_eq_getElem hy2]; rfl
                have HZ := Lib.hid hzz
                clear hzz
                generalize ns[y2] = z at *
                have htl2 : ((ks.take m).map (fun k => ns.getD k.toNat 0)).length = m := by rw [List.length_map, List.length_take]; omega
                obtain ⟨ua, uc, rfl⟩ := own_form hU
                have q3 := cell_blk HK.out 3 (.slice ua ((ks.take m).map (fun k => ns.getD k.toNat 0)).length uc) rfl
                have f3 := frozen_blk HK.out 3
                have hwD : w1.heap.size < D := by omega
                have b4 := bnew wr (.cells #[.int .i64 z] 3)
                have q4 := cell_blk (blk_below HK.out b4) 3 (.slice ua ((ks.take m).map (fun k => ns.getD k.toNat 0)).length uc) rfl
                have f4 := frozen_blk (blk_below HK.out b4) 3
                have c4 := (b4.cell (p := ⟨w1.heap.size, y2, none⟩) (by show w1.heap.size < wr.heap.size; omega)).trans hcn
                have B4 := Lib.hid b4
                clear b4
                have ag : (Value.slice ua ((ks.take m).map (fun k => ns.getD k.toNat 0)).length uc).ownBlock ≠ some D := fun e => by have := (World.ownsRow.lt hU _ e).1; omega
                have ag2 : (Value.slice ua ((ks.take m).map (fun k => ns.getD k.toNat 0)).length uc).ownBlock ≠ some w1.heap.size := fun e => by have := (World.ownsRow.lt hU _ e).1; omega
                obtain ⟨i0, hi, hz0, hz1, hz2⟩ := info_parts info3
                have I0 := Lib.hid hi
                have I1 := Lib.hid hz0
                have I2 := Lib.hid hz1
                have I3 := Lib.hid hz2
                have HUU := Lib.hid hU
                rw [htl2] at *
                clear hi hz0 hz1 hz2 hU
                go_wp2
                have q3d : wr.drew.cell? ⟨D, 3, none⟩ = some (.slice ua m uc) := q3
                have q4d : (wr.alloc (.cells #[.int .i64 z] 3)).drew.cell? ⟨D, 3, none⟩ = some (.slice ua m uc) := q4
                have c3d : wr.drew.cell? ⟨w1.heap.size, y2, none⟩ = some (.int .i64 z) := hcn
                have c4d : (wr.alloc (.cells #[.int .i64 z] 3)).drew.cell? ⟨w1.heap.size, y2, none⟩ = some (.int .i64 z) := c4
                have HUU : Hid (wr.ownsRow (D + 1) 3 1 (.slice ua m uc) m ((List.map (fun k => ns.getD k.toNat 0) (List.take m ks)).map (Value.int .i64))) := by
                  have h9 : wr.ownsRow (D + 1) 3 1 (.slice ua m uc) ((List.map (fun k => ns.getD k.toNat 0) (List.take m ks))).length ((List.map (fun k => ns.getD k.toNat 0) (List.take m ks)).map (Value.int .i64)) := HUU.out
                  rw [List.length_map, List.length_take, Nat.min_eq_left hm] at h9
                  exact h9
                go_region_law
                  (first | (refine step_append_lies _ (by rfl) _ _ _ (by rfl) (D + 1) 3 i0 _ 1 8 Tryd.underlying62 I0.out I1.out I2.out I3.out rfl (by omega) (.slice ua m uc) m ((List.map (fun k => ns.getD k.toNat 0) (List.take m ks)).map (Value.int .i64)) (by rfl) (by first | exact (World.ownsRow.alloc HUU.out _) | exact (World.ownsRow.alloc HUU.out _).drew) ⟨wr.heap.size, 0, none⟩ 1 1 [.int .i64 z] (by rfl) (by rfl) (World.news_of_block (cs := #[.int .i64 z]) (t := 3) (fr := (0, 0)) (heap_alloc_new wr _)) (by simp [Value.oneCell']) (by omega) (by simp only [maxLen]; omega) (by omega) (by simp; omega) (wr.heap.size + 1) (by simp) ?_; intro gg' cap w3 hown3 hgrow hat hlt3; have c5 : w3.cell? ⟨D, 3, none⟩ = some (.slice ua m uc) := (hgrow.cell_far _ (by simp; omega) (Ne.symm ag)).trans q4; have f5 : w3.frozen? ⟨D, 3, none⟩ = false := (hgrow.frozen_far _ (by simp; omega) (Ne.symm ag)).trans f4))
                all_goals
                  have hg3 : (wr.alloc (.cells #[.int .i64 z] 3)).grownBy w3 (Value.slice ua m uc).ownBlock := ⟨hgrow.os, hgrow.tape, hgrow.output, hgrow.size, hgrow.block⟩
                  have hs3 := hg3.size
                  rw [World.size_alloc] at hs3
                  have kD : w3.heap[D]? = some (.cells #[.int .i64 k, .string (str t), .string (str s), .slice ua m uc] 64) := (hg3.block D (by rw [World.size_alloc]; omega) (Ne.symm ag)).trans ((B4.out.block D (by omega)).trans HK.out)
                  have HK5 := Lib.hid (blk_set kD 3 (.slice (some ⟨gg', 0, none⟩) (m + 1) cap))
                  have HU5 : Hid (OwnI (w3.setCell ⟨D, 3, none⟩ (.slice (some ⟨gg', 0, none⟩) (m + 1) cap)) (D + 1) (.slice (some ⟨gg', 0, none⟩) (m + 1) cap) ((ks.take (m + 1)).map (fun k => ns.getD k.toNat 0))) := by
                    have e1 : (ks.take (m + 1)).map (fun k => ns.getD k.toNat 0) = (ks.take m).map (fun k => ns.getD k.toNat 0) ++ [z] := by rw [HT2.out, List.map_append, ← HZ.out]; rfl
                    have e2 : ((ks.take (m + 1)).map (fun k => ns.getD k.toNat 0)).length = m + 1 := by rw [List.length_map, List.length_take]; omega
                    show World.ownsRow _ _ _ _ _ _ _
                    rw [e2, e1, List.map_append]
                    exact own_same hown3 (fun q hq => Below.heap_setCell w3 ⟨D, 3, none⟩ _ q (fun e => by have := (World.ownsRow.lt hown3 q hq).1; have e : q = D := e; omega))
                  have HB6 := Lib.hid ((((HB5.out.trans (B4.out.mono (by omega))).grown hg3 (by rw [World.size_alloc]; omega) (fun q hq => by have := (World.ownsRow.lt HUU.out q hq).1; omega)).setCell (p := ⟨D, 3, none⟩) (Nat.le_refl _) (.slice (some ⟨gg', 0, none⟩) (m + 1) cap)))
                  go_wp2
                  go_roundg (ks.length - (m + 1))
                  case measure => omega
                  case rel => exact ⟨m + 1, _, by omega, rfl, by go_num, HK5, HU5, HB6, by rw [World.size_setCell]; omega⟩
              · have hme : m = ks.length := by omega
                have hU := HU2.out
                rw [hme, List.take_of_length_le (Nat.le_refl _)] at hU
                obtain ⟨ua, uc, hfo⟩ := own_form hU
                rw [List.length_map] at hfo
                subst hfo
                obtain ⟨q0, q1, q2, q3⟩ := quad HK.out
                have HOw := HOO.out _ HB5.out
                have hub : OwnI wr (w1.heap.size + 1) (.slice ua ks.length uc) (ks.map (fun (k : Int) => ns.getD k.toNat 0)) := row_base hU (show w1.heap.size + 1 ≤ D + 1 by omega)
                have hwT : w1.heap.size + 1 ≤ wr.heap.size := by omega
                have hlj := HLJ.out
                have hml9 : ((met.take j2).map (Ar.renum g ns)).length ≤ 1000000 := by omega
                have HCw := Lib.hid (HCC.out _ HB5.out)
                have HBw := Lib.hid (HBB.out _ HB5.out)
                clear hU HK HU2 hlj
                go_wp2_with (at_builtin; go_loud (refine wpList_pushG (by rfl) _ _ 45 Tryd.underlying45 (by rfl) (w1.heap.size + 1) (.slice oa' j2 oc') _ ⟨k, t, s, ks.map (fun (k : Int) => ns.getD k.toNat 0)⟩ (.slice ua ks.length uc) wr #[.int .i64 k, .string (str t), .string (str s), .slice ua ks.length uc] 1 (by rfl) wr.heap.size (by rfl) (by rfl) (by rfl) HOw hub hml9 hwT ?_; intro v9 w9 hO9 hB9 hs9 hk9))
                have hO9 : OwnG w9 (w1.heap.size + 1) v9 ((met.take (j2 + 1)).map (Ar.renum g ns)) := by
                  rw [HT.out, List.map_append]
                  show OwnG _ _ _ (_ ++ [Ar.renum g ns y])
                  rw [HRen.out]
                  exact hO9
                have HO9 := Lib.hid hO9
                have HC9 := Lib.hid ((hB9.block w1.heap.size (by omega)).trans HCw.out)
                have HB10 := Lib.hid (HBw.out.trans (hB9.mono (by omega)))
                clear hO9 hB9 hk9
                go_roundg (met.length - (j2 + 1))
                case measure => omega
                case rel => exact ⟨j2 + 1, by omega, rfl, by go_num, HO9, HC9, HB10, hs9⟩
          · have hje2 : j2 = met.length := by omega
            have hO := HO.out
            rw [hje2, List.take_of_length_le (Nat.le_refl _)] at hO
            have HO := Lib.hid (OwnG.base hO (show w.heap.size ≤ w1.heap.size + 1 by omega))
            clear hO
            go_wp2
            go_ret
            exact ⟨⟨_, rfl, HO.out⟩, hb1.trans (HB2.out.mono hs1)⟩
end Go.Proofs.YtbimjdlkffbncaaDoor
