/-
  The walk of ArenaNumbers.
-/
import Derived.Test.YtnlbnnnhmdjciaaDoorBu
import Derived.Test.YtnlbnnnhmdjciaaDoorBp
namespace Go.Proofs.YtnlbnnnhmdjciaaDoor
namespace Ar
def nkids (n : Nd) (ks : List Int) : Nd := ⟨n.kind, n.tag, n.text, ks⟩
/-- the first ones turned, the others not yet -/
def Half (T L : List Nd) (x y j : Nat) : Prop := L.length = T.length ∧ ∀ i (hi : i < T.length) (hl : i < L.length), L[i] = if i < j then nkids T[i] (T[i].kids.map (swpI x y)) else T[i]
theorem Half.zero (T : List Nd) (x y : Nat) : Half T T x y 0 := ⟨rfl, fun i _ _ => by rw [if_neg (by omega)]⟩
theorem Half.all {T L : List Nd} {x y : Nat} (h : Half T L x y T.length) : L = T.map fun n => ⟨n.kind, n.tag, n.text, n.kids.map (swpI x y)⟩ := by
  apply List.ext_getElem
  · rw [List.length_map]; exact h.1
  · intro i h1 h2
    rw [List.length_map] at h2
    rw [h.2 i h2 h1, if_pos h2, List.getElem_map]
    rfl
theorem Half.step {T L : List Nd} {x y j : Nat} (h : Half T L x y j) (hj : j < T.length) : Half T (L.set j (nkids T[j] (T[j].kids.map (swpI x y)))) x y (j + 1) := by
  refine ⟨by rw [List.length_set]; exact h.1, fun i hi hl => ?_⟩
  rw [List.length_set] at hl
  rw [List.getElem_set]
  by_cases hij : j = i
  · subst hij
    rw [if_pos rfl, if_pos (by omega)]
  · rw [if_neg hij, h.2 i hi hl]
    by_cases h2 : i < j
    · rw [if_pos h2, if_pos (by omega)]
    · rw [if_neg h2, if_neg (by omega)]
/-- kids turned up to a place -/
def kmix (ks : List Int) (x y m : Nat) : List Int := (ks.take m).map (swpI x y) ++ ks.drop m
theorem kmix_len (ks : List Int) (x y m : Nat) : (kmix ks x y m).length = ks.length := by
  unfold kmix; rw [List.length_append, List.length_map, List.length_take, List.length_drop]; omega
theorem kmix_zero (ks : List Int) (x y : Nat) : kmix ks x y 0 = ks := by unfold kmix; simp
theorem kmix_all (ks : List Int) (x y : Nat) : kmix ks x y ks.length = ks.map (swpI x y) := by unfold kmix; simp
theorem kmix_at (ks : List Int) (x y m : Nat) (h : m < ks.length) : (kmix ks x y m)[m]'(by rw [kmix_len]; exact h) = ks[m] := by
  unfold kmix
  rw [List.getElem_append_right (by rw [List.length_map, List.length_take]; omega)]
  simp only [List.length_map, List.length_take, List.getElem_drop]
  congr 1; omega
theorem kmix_set (ks : List Int) (x y m : Nat) (h : m < ks.length) : (kmix ks x y m).set m (swpI x y ks[m]) = kmix ks x y (m + 1) := by
  unfold kmix
  have hl : ((ks.take m).map (swpI x y)).length = m := by rw [List.length_map, List.length_take]; omega
  rw [List.set_append_right _ _ (by omega), hl, Nat.sub_self, List.drop_eq_getElem_cons h, List.set_cons_zero, List.take_succ_eq_append_getElem h, List.map_append, List.append_assoc]
  rfl
theorem kmix_same (ks : List Int) (x y m : Nat) (h : m < ks.length) (he : swpI x y ks[m] = ks[m]) : kmix ks x y m = kmix ks x y (m + 1) := by
  rw [← kmix_set ks x y m h, he]
  apply List.ext_getElem
  · rw [List.length_set]
  · intro i h1 h2
    rw [List.getElem_set]
    split
    · rename_i e; subst e; exact kmix_at ks x y _ h
    · rfl
end Ar
open Go.RowKit Go.Maps
theorem OwnD.drew {w : World} {B : Nat} {v : Value} {ns : List Ar.Nd} (h : OwnD w B v ns) : OwnD w.drew B v ns := h
theorem drewBn {B : Nat} {w w' : World} (h : Below B w w') (n : Nat) : Below B w (w'.drewN n) := ⟨h.os, h.tape, h.output, h.size, h.block⟩
theorem undrew {w w' : World} {n : Nat} (h : Below (w.drewN n).heap.size (w.drewN n) w') : Below w.heap.size w w' := ⟨h.os, h.tape, h.output, h.size, h.block⟩
theorem one_mod (m n : Nat) (h : 3 ≤ n) (hn : n ≤ 1000000) : ∃ x : Nat, wrap64 (1 + (m : Int) % ((n : Int) - 1)) = (x : Int) ∧ 1 ≤ x ∧ x < n := by
  have h0 := Int.emod_nonneg (m : Int) (show (n : Int) - 1 ≠ 0 by omega)
  have h1 := Int.emod_lt_of_pos (m : Int) (show 0 < (n : Int) - 1 by omega)
  generalize (m : Int) % ((n : Int) - 1) = r at *
  refine ⟨(1 + r).toNat, ?_, by omega, by omega⟩
  have e : wrap64 (1 + r) = 1 + r := by unfold wrap64; omega
  rw [e]; omega

set_option maxHeartbeats 16000000 in
set_option maxRecDepth 100000 in
theorem numbers_walk (v : Value) (g : List Ar.Nd) (m1 m2 : Nat) (w : World) (hg : RdGo w w.heap.size v g) (hgl : g.length ≤ 2199023255488) (hfk : ∀ x ∈ g, x.kids.length ≤ 17592186044160) (hm1 : m1 < 256) (hm2 : m2 < 256) (hE : Env w) :
    Calls Tryd.prog 5 #[v, .int .u8 m1, .int .u8 m2] w fun e w' => e = .returned (.bool true) ∧ Below w.heap.size w w' := by
  have cA := Lib.hid (arAlive_any w hE)
  have cT := Lib.hid (fun W (hb : Below w.heap.size w W) => theirs_any v g W ((hg.below hb).mono hb.size) hgl hfk)
  have cD := Lib.hid (fun W (hb : Below w.heap.size w W) => theirsD_any v g W ((hg.below hb).mono hb.size) hgl hfk)
  have cH := Lib.hid (fun W (hb : Below w.heap.size w W) => heavy_any v g W ((hg.below hb).mono hb.size) hgl)
  have HE := Lib.hid hE
  clear hE hfk
  obtain ⟨ga, gc, rfl, _, _⟩ := hg
  go_enter Tryd.func5, Tryd.ntmps5
  go_wp2_with fail
  refine cA.out.mono ?_
  rintro e w1 ⟨rfl, hb1⟩
  go_wp2_with fail
  refine (cT.out w1 hb1).mono ?_
  rintro e w2 ⟨⟨u, rfl, hu⟩, hb2⟩
  have hb12 := bthen hb1 hb2
  obtain ⟨ua, uc, rfl⟩ := hu.form
  have HU := Lib.hid hu.rd
  clear hu
  cases hh : Ar.heavy g
  · have hL := Ar.light_of g hh
    have hlen := hL.len
    rw [hh] at cH
    have cR := Lib.hid (fun W (hb : Below w2.heap.size w2 W) => right_any _ g W ((HU.out.below hb).mono hb.size) (by omega) hL.fine (HE.out.below (bthen hb12 hb)))
    have cN := Lib.hid (fun W (hb : Below w2.heap.size w2 W) => normal_any _ g W ((HU.out.below hb).mono hb.size) (by omega) hL.fine (HE.out.below (bthen hb12 hb)))
    have cP := Lib.hid (fun W (hb : Below w2.heap.size w2 W) => print_any _ g W ((HU.out.below hb).mono hb.size) (by omega) hL.fine hL.small (HE.out.below (bthen hb12 hb)))
    go_wp2_with fail
    refine (cH.out w2 hb12).mono ?_
    rintro e w3 ⟨rfl, hb3⟩
    cases hr : Ar.right g
    · rw [hr] at cR
      go_wp2_with fail
      refine (cR.out w3 hb3).mono ?_
      rintro e w4 ⟨rfl, hb4⟩
      go_wp2
      go_ret
      exact ⟨rfl, bthen (bthen hb12 hb3) hb4⟩
    · rw [hr] at cR
      go_wp2_with fail
      refine (cR.out w3 hb3).mono ?_
      rintro e w4 ⟨rfl, hb4⟩
      have hb24 := bthen hb3 hb4
      have hb04 := bthen hb12 hb24
      clear hb3 hb4 cR cH cA
      go_wp2_with fail
      refine (cT.out w4 hb04).mono ?_
      rintro e w5 ⟨⟨u5, rfl, hu5⟩, hb5⟩
      obtain ⟨a5, c5, rfl⟩ := hu5.form
      have hs5 := hb5.size
      have hl5 : g.length ≤ 1000000 := by omega
      go_wp2_with (at_builtin; refine wpList_pushG (by rfl) _ _ 26 Tryd.underlying26 (by rfl) w4.heap.size (.slice a5 g.length c5) _ Ar.nobody (.slice none 0 0) w5 #[.int .i64 0, .string ⟨#[115, 116, 114]⟩, .string ⟨#[110, 111, 98, 111, 100, 121, 39, 115]⟩, .slice none 0 0] 1 (by rfl) w5.heap.size (by rfl) (by rfl) (by rfl) hu5 (World.ownsRow_nil _ _ _ _) hl5 hs5 ?_; intro v6 w6 hO6 hB6 hs6 hk6; obtain ⟨a6, c6, hu6⟩ := hO6.form; rw [List.length_append, List.length_singleton] at hu6; subst hu6)
      have hb46 : Below w4.heap.size w4 w6 := hb5.trans hB6
      have hb26 := bthen hb24 hb46
      have hmn := Ar.more_normal g Ar.nobody hr (by omega) (nobody_may _) (by decide)
      have hsm : Ar.same g (g ++ [Ar.nobody]) = true := (Ar.same_iff _ _).2 ⟨hr, hmn.symm⟩
      have hfM : ∀ x ∈ g ++ [Ar.nobody], Fine x := fun x hx => by
        rcases List.mem_append.1 hx with hx | hx
        · exact hL.fine x hx
        · rw [List.mem_singleton.1 hx]; exact ⟨by decide, by decide, by decide⟩
      have hlM : (g ++ [Ar.nobody]).length ≤ 1000000 := by rw [List.length_append, List.length_singleton]; omega
      have hR6 := hO6.rd
      clear hO6 hk6 hu5
      generalize g ++ [Ar.nobody] = M at *
      have HM := Lib.hid hR6
      have cS := same_any _ _ g M w6 ((HU.out.below hb26).mono hb26.size) hR6 (by omega) hlM hL.fine hfM (HE.out.below (bthen hb12 hb26))
      have cM := Lib.hid (fun W (hb : Below w6.heap.size w6 W) => normal_any _ M W ((HM.out.below hb).mono hb.size) hlM hfM (HE.out.below (bthen (bthen hb12 hb26) hb)))
      rw [hsm] at cS
      rw [hmn] at cM
      clear hR6 hB6 hb5 hmn hsm hfM
      go_wp2_with fail
      refine cS.mono ?_
      rintro e w7 ⟨rfl, hb7⟩
      go_wp2_with fail
      refine (cM.out w7 hb7).mono ?_
      rintro e w8 ⟨⟨u8, rfl, hu8⟩, hb8⟩
      obtain ⟨a8, c8, rfl⟩ := hu8.form
      have hb28 := bthen (bthen hb26 hb7) hb8
      go_wp2_with fail
      refine (cN.out w8 hb28).mono ?_
      rintro e w9 ⟨⟨u9, rfl, hu9⟩, hb9⟩
      obtain ⟨a9, c9, rfl⟩ := hu9.form
      have hb29 := bthen hb28 hb9
      clear hu8 hu9 hb7 hb8 hb9 hb28 cM cN cS
      by_cases hl3 : g.length < 3
      · go_wp2
        go_ret
        exact ⟨rfl, bthen hb12 hb29⟩
      · have hn1 : ((g.length : Int) - 1 == 0) = false := beq_eq_false_iff_ne.2 (by omega)
        go_wp2
        obtain ⟨x, hx, hx1, hx2⟩ := one_mod m1 g.length (by omega) (by omega)
        obtain ⟨y, hy, hy1, hy2⟩ := one_mod m2 g.length (by omega) (by omega)
        have HX := Lib.hid hx
        have HY := Lib.hid hy
        clear hx hy
        go_quiet (fail)
        go_wp2_with fail
        rw [HX.out, HY.out]
        refine (cD.out _ (drewBn (bthen hb12 hb29) _)).mono ?_
        rintro e w10 ⟨⟨ut, rfl, hut⟩, hb10⟩
        have hb910 := undrew hb10
        have hutD : OwnD w10 w9.heap.size ut g := hut
        clear hb10 hut
        obtain ⟨tg, tc, rfl, htg, htg2, htc⟩ := hutD.row (by omega)
        obtain ⟨a1, e1, a2, e2, q1, q2, qf, hsw⟩ := hutD.swap x y hx2 hy2
        have HSW := Lib.hid hsw
        clear hsw
        obtain ⟨x0, x1, x2, x3⟩ := q1
        obtain ⟨y0, y1, y2, y3⟩ := q2
        have fx0 := qf (x * 4)
        have fx1 := qf (x * 4 + 1)
        have fx2 := qf (x * 4 + 2)
        have fx3 := qf (x * 4 + 3)
        have fy0 := qf (y * 4)
        have fy1 := qf (y * 4 + 1)
        have fy2 := qf (y * 4 + 2)
        have fy3 := qf (y * 4 + 3)
        have bx0 : (0 : Int) ≤ (x : Int) := by omega
        have bx1 : (x : Int) < (g.length : Int) := by omega
        have by0 : (0 : Int) ≤ (y : Int) := by omega
        have by1 : (y : Int) < (g.length : Int) := by omega
        clear qf
        obtain ⟨z0, hz0⟩ := cell?_setCell_some (p := ⟨tg, x * 4, none⟩) (x := .int .i64 g[y].kind) (q := ⟨tg, y * 4, none⟩) y0
        obtain ⟨z10, hz10⟩ := cell?_setCell_some (p := ⟨tg, x * 4, none⟩) (x := .int .i64 g[y].kind) (q := ⟨tg, y * 4 + 1, none⟩) y1
        obtain ⟨z1, hz1⟩ := cell?_setCell_some (p := ⟨tg, x * 4 + 1, none⟩) (x := .string (str g[y].tag)) (q := ⟨tg, y * 4 + 1, none⟩) hz10
        obtain ⟨z20, hz20⟩ := cell?_setCell_some (p := ⟨tg, x * 4, none⟩) (x := .int .i64 g[y].kind) (q := ⟨tg, y * 4 + 2, none⟩) y2
        obtain ⟨z21, hz21⟩ := cell?_setCell_some (p := ⟨tg, x * 4 + 1, none⟩) (x := .string (str g[y].tag)) (q := ⟨tg, y * 4 + 2, none⟩) hz20
        obtain ⟨z2, hz2⟩ := cell?_setCell_some (p := ⟨tg, x * 4 + 2, none⟩) (x := .string (str g[y].text)) (q := ⟨tg, y * 4 + 2, none⟩) hz21
        obtain ⟨z30, hz30⟩ := cell?_setCell_some (p := ⟨tg, x * 4, none⟩) (x := .int .i64 g[y].kind) (q := ⟨tg, y * 4 + 3, none⟩) y3
        obtain ⟨z31, hz31⟩ := cell?_setCell_some (p := ⟨tg, x * 4 + 1, none⟩) (x := .string (str g[y].tag)) (q := ⟨tg, y * 4 + 3, none⟩) hz30
        obtain ⟨z32, hz32⟩ := cell?_setCell_some (p := ⟨tg, x * 4 + 2, none⟩) (x := .string (str g[y].text)) (q := ⟨tg, y * 4 + 3, none⟩) hz31
        obtain ⟨z3, hz3⟩ := cell?_setCell_some (p := ⟨tg, x * 4 + 3, none⟩) (x := .slice a2 g[y].kids.length e2) (q := ⟨tg, y * 4 + 3, none⟩) hz32
        go_wp2
        go_region
        obtain ⟨W11, hW⟩ : ∃ W, (st4 (st4 w10 tg (x * 4) (.int .i64 g[y].kind) (.string (str g[y].tag)) (.string (str g[y].text)) (.slice a2 g[y].kids.length e2)) tg (y * 4) (.int .i64 g[x].kind) (.string (str g[x].tag)) (.string (str g[x].text)) (.slice a1 g[x].kids.length e1)).drew = W := ⟨_, rfl⟩
        have hO11 : OwnD W11 w9.heap.size (.slice (some ⟨tg, 0, none⟩) g.length tc) (Ar.turn0 g x y) := by rw [← hW]; exact HSW.out.drew
        have hB11 : Below w9.heap.size w9 W11 := by rw [← hW]; exact (st4_below (st4_below hb910 htg _ _ _ _ _) htg _ _ _ _ _).drew
        unfold st4 at hW
        rw [hW]
        have hTL := Ar.turn0_len g x y
        have hTK : ∀ n ∈ Ar.turn0 g x y, n.kids.length ≤ 200 ∧ n.text.length ≤ 2000 ∧ n.tag.length ≤ 2000 := fun n hn => by
          obtain ⟨i, hi, rfl⟩ := List.getElem_of_mem hn
          rw [Ar.turn0_len] at hi
          have := Ar.turn0_at g x y i hx2 hy2 hi
          rw [List.getElem?_eq_getElem (by rw [Ar.turn0_len]; exact hi), Option.some.injEq] at this
          rw [this, Ar.at_mem g _ (Ar.swp_lt hx2 hy2 hi)]
          exact hL.each _ (List.getElem_mem _)
        have hTT : Ar.turned g x y = (Ar.turn0 g x y).map fun n => ⟨n.kind, n.tag, n.text, n.kids.map (Ar.swpI x y)⟩ := rfl
        have HO11 := Lib.hid hO11
        have HB11 := Lib.hid hB11
        have HTK := Lib.hid hTK
        have HTT := Lib.hid hTT
        have htl0 : tg < W11.heap.size := by have := hB11.size; have h5 := (World.ownsRow.lt hO11.choose_spec.2.1 tg rfl).2; omega
        clear hO11 hB11 hTK hTT HSW hW x0 x1 x2 x3 y0 y1 y2 y3 fx0 fx1 fx2 fx3 fy0 fy1 fy2 fy3 hz0 hz1 hz2 hz3 hz10 hz20 hz21 hz30 hz31 hz32 hb910
        generalize Ar.turn0 g x y = T at *
        have hHf := Lib.hid (Ar.Half.zero T x y)
        go_wp2
        go_loopg [80] g.length (fun q i wr => ∃ (j : Nat) (L : List Ar.Nd), j ≤ g.length ∧ q = g.length - j ∧ i = .int .i64 j ∧ Hid (OwnD wr w9.heap.size (.slice (some ⟨tg, 0, none⟩) g.length tc) L) ∧ Hid (Ar.Half T L x y j) ∧ Hid (Below w9.heap.size w9 wr) ∧ tg < wr.heap.size)
        case atStart => exact ⟨0, T, by omega, by omega, rfl, HO11, hHf, HB11, htl0⟩
        case round =>
          obtain ⟨j, L, hj, rfl, rfl, HO, HF, HB, htw⟩ := hrel
          clear HO11 hHf HB11
          have hLl : L.length = g.length := HF.out.1.trans hTL
          by_cases hlt : j < g.length
          · have hjT : j < T.length := by omega
            have hjL : j < L.length := by omega
            have hLj : L[j] = T[j] := by rw [HF.out.2 j hjT hjL, if_neg (by omega)]
            have hks := (HTK.out T[j] (List.getElem_mem hjT)).1
            obtain ⟨_, _, hv, _, hcl⟩ := HO.out.rd
            simp only [Value.slice.injEq] at hv
            obtain ⟨rfl, hqq, rfl⟩ := hv
            clear hqq
            obtain ⟨gg, hgg, hgg2, hcl⟩ := hcl (by omega)
            cases hgg
            obtain ⟨n0, n1, n2, ⟨ka, kc, n3, n4⟩⟩ := hcl j hjL
            rw [hLj] at n0 n1 n2 n3 n4
            clear hcl n4
            obtain ⟨X, hX⟩ : ∃ X, T[j] = X := ⟨_, rfl⟩
            have hST : ∀ L2 : List Ar.Nd, L2 = L.set j (Ar.nkids X (X.kids.map (Ar.swpI x y))) → Ar.Half T L2 x y (j + 1) := fun L2 e => by
              rw [e, ← hX]; exact HF.out.step hjT
            rw [hX] at n0 n1 n2 n3 hks
            have hL0 : L = L.set j (Ar.nkids X (Ar.kmix X.kids x y 0)) := by
              rw [Ar.kmix_zero, ← hX, ← hLj]
              exact (List.set_getElem_self hjL).symm
            have HST := Lib.hid hST
            clear hST HF hX hLj
            have k1 := alloc_blk wr (.cells #[.int .i64 X.kind, .string (str X.tag), .string (str X.text), .slice ka X.kids.length kc] 37)
            have b1 := bnew wr (.cells #[.int .i64 X.kind, .string (str X.tag), .string (str X.text), .slice ka X.kids.length kc] 37)
            have hsz : (wr.alloc (.cells #[.int .i64 X.kind, .string (str X.tag), .string (str X.text), .slice ka X.kids.length kc] 37)).heap.size = wr.heap.size + 1 := by rw [World.size_alloc]
            have O1 := Lib.hid (HO.out.below b1)
            have B1 := Lib.hid (HB.out.trans (b1.mono HB.out.size))
            have N3 := Lib.hid ((b1.cell (p := ⟨tg, j * 4 + 3, none⟩) htw).trans n3)
            have K1 := Lib.hid k1
            obtain ⟨q0, q1, q2, q3⟩ := quad k1
            have hDt : tg < wr.heap.size := htw
            have hKD : Hid (∀ k, ∀ c, wr.cell? ⟨k, c, none⟩ ≠ none → k < wr.heap.size) := fun k c h => by
              rcases Nat.lt_or_ge k wr.heap.size with h1 | h1
              · exact h1
              · exact absurd (by simp [World.cell?, Array.getElem?_eq_none h1]) h
            clear b1 k1 HO HB
            go_wp2
            generalize wr.alloc (.cells #[.int .i64 X.kind, .string (str X.tag), .string (str X.text), .slice ka X.kids.length kc] 37) = W0 at *
            have hD0 := Lib.hid (Nat.le_refl wr.heap.size)
            generalize wr.heap.size = D at *
            obtain ⟨wo, hwo⟩ : ∃ wo, wo = wr := ⟨_, rfl⟩
            subst hwo
            clear q0 q1 q2 q3
            go_loopg [87] X.kids.length (fun q i wi => ∃ (m : Nat) (L2 : List Ar.Nd), m ≤ X.kids.length ∧ q = X.kids.length - m ∧ i = .int .i64 m ∧ L2 = L.set j (Ar.nkids X (Ar.kmix X.kids x y m)) ∧ Hid (OwnD wi w9.heap.size (.slice (some ⟨tg, 0, none⟩) g.length tc) L2) ∧ Hid (wi.heap[D]? = some (.cells #[.int .i64 X.kind, .string (str X.tag), .string (str X.text), .slice ka X.kids.length kc] 37)) ∧ Hid (wi.cell? ⟨tg, j * 4 + 3, none⟩ = some (.slice ka X.kids.length kc)) ∧ Hid (Below w9.heap.size w9 wi) ∧ D < wi.heap.size)
            case atStart => exact ⟨0, L, by omega, by omega, rfl, hL0, O1, K1, N3, B1, by omega⟩
            case round =>
              obtain ⟨m, L2, hm, rfl, rfl, hL2, HO2, HK2, HN2, HB2, hD2⟩ := hrel
              clear O1 K1 N3 B1
              have hL2l : L2.length = g.length := by rw [hL2, List.length_set]; exact hLl
              by_cases hmt : m < X.kids.length
              · have hjL2 : j < L2.length := by omega
                have hL2j : L2[j] = Ar.nkids X (Ar.kmix X.kids x y m) := by simp only [hL2]; rw [List.getElem_set, if_pos rfl]
                have hmk : m < L2[j].kids.length := by rw [hL2j]; show m < (Ar.kmix X.kids x y m).length; rw [Ar.kmix_len]; exact hmt
                have hO2 := HO2.out
                rw [← hL2l] at hO2
                obtain ⟨kg, kc', c3, cm, fm, hkg, hkg2, hkt, ⟨C9, fr9, hb9⟩, hset⟩ := hO2.kid j hjL2 m hmk
                rw [HN2.out, hL2j] at c3
                simp only [Option.some.injEq, Value.slice.injEq] at c3
                obtain ⟨rfl, _, rfl⟩ := c3
                have hkk : L2[j].kids[m] = X.kids[m] := by
                  simp only [hL2j]
                  exact Ar.kmix_at X.kids x y m hmt
                rw [hkk] at cm
                have hkD : kg ≠ D := fun e => by
                  subst e
                  rw [HK2.out] at hb9
                  simp at hb9
                have hstep : ∀ z, Ar.swpI x y X.kids[m] = z → L2.set j ⟨L2[j].kind, L2[j].tag, L2[j].text, L2[j].kids.set m z⟩ = L.set j (Ar.nkids X (Ar.kmix X.kids x y (m + 1))) := fun z hz => by
                  have e1 : (⟨L2[j].kind, L2[j].tag, L2[j].text, L2[j].kids.set m z⟩ : Ar.Nd) = Ar.nkids X (Ar.kmix X.kids x y (m + 1)) := by
                    rw [hL2j, ← hz, ← Ar.kmix_set X.kids x y m hmt]; rfl
                  rw [e1, hL2, List.set_set]
                have hskip : Ar.swpI x y X.kids[m] = X.kids[m] → L2 = L.set j (Ar.nkids X (Ar.kmix X.kids x y (m + 1))) := fun he => by
                  rw [← Ar.kmix_same X.kids x y m hmt he]; exact hL2
                have HSET : Hid (∀ z, Ar.swpI x y X.kids[m] = z → OwnD (wr.setCell ⟨kg, m, none⟩ (.int .i64 z)) w9.heap.size (.slice (some ⟨tg, 0, none⟩) g.length tc) (L.set j (Ar.nkids X (Ar.kmix X.kids x y (m + 1)))) ∧ (wr.setCell ⟨kg, m, none⟩ (.int .i64 z)).heap[D]? = some (.cells #[.int .i64 X.kind, .string (str X.tag), .string (str X.text), .slice (some ⟨kg, 0, none⟩) X.kids.length kc] 37) ∧
                    (wr.setCell ⟨kg, m, none⟩ (.int .i64 z)).cell? ⟨tg, j * 4 + 3, none⟩ = some (.slice (some ⟨kg, 0, none⟩) X.kids.length kc) ∧ Below w9.heap.size w9 (wr.setCell ⟨kg, m, none⟩ (.int .i64 z)) ∧ D < (wr.setCell ⟨kg, m, none⟩ (.int .i64 z)).heap.size) := fun z hz => by
                  have h1 := hset z
                  rw [hstep z hz, hL2l] at h1
                  refine ⟨h1, other_set HK2.out _ _ (Ne.symm hkD), ?_, HB2.out.setCell (p := ⟨kg, m, none⟩) hkg _, by rw [World.size_setCell]; exact hD2⟩
                  rw [← HN2.out]
                  exact World.cell?_of_block (Below.heap_setCell wr ⟨kg, m, none⟩ _ tg (Ne.symm hkt))
                obtain ⟨d0, d1, d2, d3⟩ := quad HK2.out
                have HSK := Lib.hid hskip
                have HL2 := Lib.hid hL2
                clear hset hstep hskip hkk hmk hL2j hO2 hb9 hL2
                generalize X.kids[m] = kk at *
                by_cases e1 : kk = (x : Int)
                · have b1 : (kk == (x : Int)) = true := beq_iff_eq.2 e1
                  obtain ⟨s1, s2, s3, s4, s5⟩ := HSET.out (y : Int) (by unfold Ar.swpI; rw [if_pos e1])
                  have S1 := Lib.hid s1
                  have S2 := Lib.hid s2
                  have S3 := Lib.hid s3
                  have S4 := Lib.hid s4
                  clear s1 s2 s3 s4 e1
                  go_wp2
                  go_roundg (X.kids.length - (m + 1))
                  case measure => omega
                  case rel => exact ⟨m + 1, _, by omega, rfl, by go_num, rfl, S1, S2, S3, S4, s5⟩
                · have b1 : (kk == (x : Int)) = false := beq_eq_false_iff_ne.2 e1
                  by_cases e2 : kk = (y : Int)
                  · have b2 : (kk == (y : Int)) = true := beq_iff_eq.2 e2
                    obtain ⟨s1, s2, s3, s4, s5⟩ := HSET.out (x : Int) (by unfold Ar.swpI; rw [if_neg e1, if_pos e2])
                    have S1 := Lib.hid s1
                    have S2 := Lib.hid s2
                    have S3 := Lib.hid s3
                    have S4 := Lib.hid s4
                    clear s1 s2 s3 s4 e1 e2
                    go_wp2
                    go_roundg (X.kids.length - (m + 1))
                    case measure => omega
                    case rel => exact ⟨m + 1, _, by omega, rfl, by go_num, rfl, S1, S2, S3, S4, s5⟩
                  · have b2 : (kk == (y : Int)) = false := beq_eq_false_iff_ne.2 e2
                    have hL3 := Lib.hid (HSK.out (by unfold Ar.swpI; rw [if_neg e1, if_neg e2]))
                    clear e1 e2
                    go_wp2
                    go_roundg (X.kids.length - (m + 1))
                    case measure => omega
                    case rel => exact ⟨m + 1, L2, by omega, rfl, by go_num, hL3.out, HO2, HK2, HN2, HB2, hD2⟩
              · have hme : m = X.kids.length := by omega
                rw [hme, Ar.kmix_all] at hL2
                have HF2 := Lib.hid (HST.out L2 hL2)
                clear hL2
                go_wp2
                go_roundg (g.length - (j + 1))
                case measure => omega
                case rel => exact ⟨j + 1, L2, by omega, rfl, by go_num, HO2, HF2, HB2, by omega⟩
          · have hje : j = T.length := by omega
            have hF := HF.out
            rw [hje] at hF
            have hLT := hF.all
            rw [← HTT.out] at hLT
            subst hLT
            have hfT : ∀ n ∈ Ar.turned g x y, Fine n := fun n hn => by
              rw [HTT.out] at hn
              obtain ⟨q, hq, rfl⟩ := List.mem_map.1 hn
              have := HTK.out q hq
              exact ⟨by simp only; omega, by simp only; omega, by simp only [List.length_map]; omega⟩
            have hsT : ∀ n ∈ Ar.turned g x y, n.tag.length ≤ 50000 ∧ n.text.length ≤ 50000 := fun n hn => by
              rw [HTT.out] at hn
              obtain ⟨q, hq, rfl⟩ := List.mem_map.1 hn
              have := HTK.out q hq
              exact ⟨by simp only; omega, by simp only; omega⟩
            have hlT := Ar.turned_len g x y
            have hnt := Ar.turned_normal g x y hr hx2 hy2 (by omega) (by omega)
            have hsm : Ar.same g (Ar.turned g x y) = true := (Ar.same_iff _ _).2 ⟨hr, hnt.symm⟩
            have hpt : Ar.print (Ar.turned g x y) = Ar.print g := by unfold Ar.print; rw [hnt]
            have hR := Lib.hid HO.out.rd
            have hb2r := bthen hb29 HB.out
            have cS := same_any _ _ g (Ar.turned g x y) wr ((HU.out.below hb2r).mono hb2r.size) hR.out (by omega) (by omega) hL.fine hfT (HE.out.below (bthen hb12 hb2r))
            rw [hsm] at cS
            have cQ := Lib.hid (fun W (hb : Below wr.heap.size wr W) => print_any _ (Ar.turned g x y) W ((hR.out.below hb).mono hb.size) (by omega) hfT hsT (HE.out.below (bthen (bthen hb12 hb2r) hb)))
            rw [hpt] at cQ
            clear hfT hsT hlT hnt hsm hpt hF
            go_wp2_with fail
            refine cS.mono ?_
            rintro e w12 ⟨rfl, hb12'⟩
            go_wp2_with fail
            refine (cP.out w12 (bthen hb2r hb12')).mono ?_
            rintro e w13 ⟨rfl, hb13⟩
            go_wp2_with fail
            refine (cQ.out w13 (bthen hb12' hb13)).mono ?_
            rintro e w14 ⟨rfl, hb14⟩
            go_wp2
            go_ret
            exact ⟨ret_bool (by simp), bthen hb12 (bthen hb2r (bthen hb12' (bthen hb13 hb14)))⟩
  · rw [hh] at cH
    go_wp2_with fail
    refine (cH.out w2 hb12).mono ?_
    rintro e w3 ⟨rfl, hb3⟩
    go_wp2
    go_ret
    exact ⟨rfl, bthen hb12 hb3⟩
end Go.Proofs.YtnlbnnnhmdjciaaDoor
