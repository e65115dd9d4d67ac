/-
  The walk of ArenaTurned.
-/
import Derived.Test.YtnlbnnnhmdjciaaDoorBv
namespace Go.Proofs.YtnlbnnnhmdjciaaDoor
open Go.RowKit Go.Maps
theorem nat_mod (a n : Nat) (h : 0 < n) : ∃ i : Nat, ((a : Int) % (n : Int)) = (i : Int) ∧ i < n := ⟨a % n, by omega, Nat.mod_lt _ h⟩
theorem same_other (g : List Ar.Nd) (i : Nat) (X : Ar.Nd) (hr : Ar.right g = true) (hn : Ar.order g = List.range g.length) (hi : i < g.length) (hk : X.kids = g[i].kids) (hx : X.tag ≠ g[i].tag ∨ X.text ≠ g[i].text) : Ar.same g (g.set i X) = false := by
  cases h : Ar.same g (g.set i X)
  · rfl
  · rw [← Ar.at_mem g i hi] at hk hx
    exact absurd ((Ar.same_iff _ _).1 h).2.symm (Ar.other_normal g i X hr hn hi hk hx)
theorem OwnD.setTag' {w : World} {B : Nat} {g c n : Nat} {ns : List Ar.Nd} (h : OwnD w B (.slice (some ⟨g, 0, none⟩) n c) ns) (hn : ns.length = n) (j : Nat) (hj : j < ns.length) (t : List UInt8) :
    w.frozen? ⟨g, j * 4 + 1, none⟩ = false ∧ OwnD (w.setCell ⟨g, j * 4 + 1, none⟩ (.string (str t))) B (.slice (some ⟨g, 0, none⟩) n c) (ns.set j ⟨ns[j].kind, t, ns[j].text, ns[j].kids⟩) := by
  subst hn
  exact h.setTag j hj t
theorem tag_some (g : List Ar.Nd) (x : Ar.Nd) (hm : Ar.mayBe g x = true) (hk : x.kind ≠ 0) : ∃ b t, x.tag = b :: t := by
  cases ht : x.tag with
  | cons b t => exact ⟨b, t, rfl⟩
  | nil =>
    exfalso
    have h1 : Ar.isTagOf Ar.seqW [] = false := by kernel_rfl
    have h2 : Ar.isTagOf Ar.mapW [] = false := by kernel_rfl
    unfold Ar.mayBe Ar.may1 at hm
    rw [if_neg hk, ht, h1, h2] at hm
    simp at hm
theorem fine_set {g : List Ar.Nd} (hf : ∀ x ∈ g, Fine x) (i : Nat) (X : Ar.Nd) (hX : Fine X) : ∀ x ∈ g.set i X, Fine x := fun x hx => by
  rcases List.mem_or_eq_of_mem_set hx with h | h
  · exact hf x h
  · rw [h]; exact hX
theorem str_cat (a b : List UInt8) : str a ++ str b = str (a ++ b) := by
  have h : (str a ++ str b).data.toList = (str (a ++ b)).data.toList := by rw [Tag.app_data]; rfl
  calc str a ++ str b = str (str a ++ str b).data.toList := (str_eq _).symm
    _ = str (str (a ++ b)).data.toList := by rw [h]
    _ = str (a ++ b) := str_eq _

set_option maxHeartbeats 16000000 in
set_option maxRecDepth 100000 in
theorem turned_walk (v : Value) (g : List Ar.Nd) (m1 m2 m3 : Nat) (w : World) (hg : RdGo w w.heap.size v g) (hgl : g.length ≤ 2199023255488) (hfk : ∀ x ∈ g, x.kids.length ≤ 17592186044160) (hm1 : m1 < 256) (hm2 : m2 < 256) (hm3 : m3 < 256) (hE : Env w) :
    Calls Tryd.prog 6 #[.agg #[v, .int .u8 m1, .int .u8 m2, .int .u8 m3]] w fun e w' => e = .returned (.bool true) ∧ Below w.heap.size w w' := by
  have hg' := hg
  obtain ⟨ga, gc, rfl, _, _⟩ := hg'
  have b0 := bnew w (.cells #[.slice ga g.length gc, .int .u8 m1, .int .u8 m2, .int .u8 m3] 40)
  have k0 := alloc_blk w (.cells #[.slice ga g.length gc, .int .u8 m1, .int .u8 m2, .int .u8 m3] 40)
  have cA := Lib.hid (arAlive_any _ (hE.below b0))
  have cT := Lib.hid (fun W (hb : Below w.heap.size w W) => theirs_any (.slice ga g.length gc) g W ((hg.below hb).mono hb.size) hgl hfk)
  have cH := Lib.hid (fun W (hb : Below w.heap.size w W) => heavy_any (.slice ga g.length gc) g W ((hg.below hb).mono hb.size) hgl)
  have HE := Lib.hid hE
  have K0 := Lib.hid k0
  have B0 := Lib.hid b0
  clear hE hfk hg k0 b0
  go_enter Tryd.func6, Tryd.ntmps6
  go_wp2_with fail
  refine cA.out.mono ?_
  rintro e w1 ⟨rfl, hb1⟩
  obtain ⟨q0, q1, q2, q3⟩ := quad (blk_below K0.out hb1)
  have hb01 := bthen B0.out hb1
  clear cA K0
  go_wp2
  go_quiet (fail)
  go_wp2_with fail
  refine (cT.out _ (drewBn hb01 _)).mono ?_
  rintro e w2 ⟨⟨u, rfl, hu⟩, hb2⟩
  have hb12 := bthen hb01 (undrew hb2)
  obtain ⟨ua, uc, rfl⟩ := hu.form
  have HU := Lib.hid hu.rd
  clear hu hb1 hb2 q0 q1 q2 q3 cT
  cases hh : Ar.heavy g
  · have hL := Ar.light_of g hh
    have hlen := hL.len
    rw [hh] at cH
    have cR := Lib.hid (fun W (hb : Below w2.heap.size w2 W) => right_any _ g W ((HU.out.below hb).mono hb.size) (by omega) hL.fine (HE.out.below (bthen hb12 hb)))
    have cN := Lib.hid (fun W (hb : Below w2.heap.size w2 W) => normal_any _ g W ((HU.out.below hb).mono hb.size) (by omega) hL.fine (HE.out.below (bthen hb12 hb)))
    go_wp2_with fail
    refine (cH.out w2 hb12).mono ?_
    rintro e w3 ⟨rfl, hb3⟩
    cases hr : Ar.right g
    · rw [hr] at cR
      go_wp2_with fail
      refine (cR.out w3 hb3).mono ?_
      rintro e w4 ⟨rfl, hb4⟩
      go_wp2
      go_ret
      exact ⟨rfl, bthen (bthen hb12 hb3) hb4⟩
    · rw [hr] at cR
      go_wp2_with fail
      refine (cR.out w3 hb3).mono ?_
      rintro e w4 ⟨rfl, hb4⟩
      have hb24 := bthen hb3 hb4
      clear hb3 hb4 cR cH
      go_wp2_with fail
      refine (cN.out w4 hb24).mono ?_
      rintro e w5 ⟨⟨un, rfl, hun⟩, hb5⟩
      have hb05 := bthen hb12 (bthen hb24 hb5)
      obtain ⟨na, nc, rfl⟩ := hun.form
      have HN := Lib.hid hun.rd
      have hnr := Ar.normal_right g hr
      have hnn := Ar.normal_normal g hr
      have hon := Ar.order_normal g hr
      have hnf := normal_fine g hL.fine
      have hns := normal_small g hL.small
      have hnl := normal_le g
      have hkk : ∀ x ∈ Ar.normal g, x.kids.length ≤ 17592186044160 := fun x hx => by have := (hnf x hx).kids; omega
      clear hun hb24 hb5 cN hL hr hh HU
      generalize Ar.normal g = NG at *
      have hnl0 := (right_len hnr).1
      go_wp2_with fail
      refine (ours_any _ NG w5 HN.out.any (by omega) hkk).mono ?_
      rintro e w6 ⟨⟨u6, rfl, hu6⟩, hb6⟩
      obtain ⟨a6, c6, rfl⟩ := hu6.form
      go_wp2_with fail
      refine (theirsD_any _ NG w6 hu6.rd.any (by omega) hkk).mono ?_
      rintro e w7 ⟨⟨u7, rfl, hu7⟩, hb7⟩
      obtain ⟨og, oc, rfl, hog, hog2, hocl⟩ := hu7.row hnl0
      have hb57 := bthen hb6 hb7
      have hNw := HN.out.below hb57
      obtain ⟨_, _, hv, hnc, hcl⟩ := hNw
      cases hv
      obtain ⟨ng, rfl, hng, hcl⟩ := hcl hnl0
      obtain ⟨i, hi, hil⟩ := nat_mod m1 NG.length hnl0
      obtain ⟨n0, n1, n2, ⟨ka, kc, n3, n4⟩⟩ := hcl i hil
      have hi0 : (0 : Int) ≤ (i : Int) := by omega
      have hi1 : (i : Int) < (NG.length : Int) := by omega
      have hlz : ((NG.length : Int) == 0) = false := beq_eq_false_iff_ne.2 (by omega)
      obtain ⟨_, _, hv, _, hcl2⟩ := hu7.rd
      simp only [Value.slice.injEq] at hv
      obtain ⟨rfl, _, rfl⟩ := hv
      obtain ⟨og', hog', _, hcl2⟩ := hcl2 hnl0
      cases hog'
      obtain ⟨o0, o1, o2, ⟨la, lc, o3, o4⟩⟩ := hcl2 i hil
      have hmay := (Ar.right_parts hnr).1 NG[i] (List.getElem_mem hil)
      have hfi := hnf NG[i] (List.getElem_mem hil)
      have hsi := hns NG[i] (List.getElem_mem hil)
      have hs56 := hb6.size
      have HOW := Lib.hid hu7
      have HSB : Hid (∀ (b : Nat) (c : Nat) (u : Value), w5.heap.size ≤ b → Below w5.heap.size w5 (w7.setCell ⟨b, c, none⟩ u)) := fun b c u hb => hb57.setCell (p := ⟨b, c, none⟩) hb u
      have SAME := Lib.hid (fun (W : World) (L : List Ar.Nd) (hb : Below w5.heap.size w5 W) (hL : OwnD W w6.heap.size (.slice (some ⟨og, 0, none⟩) NG.length oc) L) (hl : L.length = NG.length) (hf : ∀ x ∈ L, Fine x) => same_any _ _ NG L W ((HN.out.below hb).mono hb.size) hL.rd (by omega) (by omega) hnf hf (HE.out.below (bthen hb05 hb)))
      have st1 : (str NG[i].text).size ≤ 50000 := by rw [str_len]; exact hsi.2
      have st2 : (str NG[i].tag).size ≤ 50000 := by rw [str_len]; exact hsi.1
      clear hcl hcl2 o4 hb6 hb7 hu6 hu7
      by_cases hk0 : NG[i].kind = 0
      · rw [hk0] at n0
        obtain ⟨hfz, hst⟩ := HOW.out.setText i hil (NG[i].text ++ [120])
        have hcat : str (NG[i].text ++ [120]) = str NG[i].text ++ ⟨#[120]⟩ := (str_cat _ _).symm
        rw [hcat] at hst
        have hsame := same_other NG i ⟨NG[i].kind, NG[i].tag, NG[i].text ++ [120], NG[i].kids⟩ hnr hon hil rfl (.inr (by simp))
        have hfs := fine_set hnf i ⟨NG[i].kind, NG[i].tag, NG[i].text ++ [120], NG[i].kids⟩ ⟨hfi.tag, by simp; omega, hfi.kids⟩
        have cS := SAME.out _ _ (HSB.out og (i * 4 + 2) (.string (str NG[i].text ++ ⟨#[120]⟩)) (by omega)) hst (List.length_set) hfs
        rw [hsame] at cS
        have HB8 := Lib.hid (HSB.out og (i * 4 + 2) (.string (str NG[i].text ++ ⟨#[120]⟩)) (by omega))
        clear hst hcat hsame hfs hfi hsi hmay
        generalize NG[i] = X at *
        go_wp2_with fail
        refine cS.mono ?_
        rintro e w8 ⟨rfl, hb8⟩
        go_wp2
        go_ret
        exact ⟨rfl, bthen hb05 (bthen HB8.out hb8)⟩
      · obtain ⟨b, t, hbt⟩ := tag_some NG NG[i] hmay hk0
        have hkb : (NG[i].kind == 0) = false := beq_eq_false_iff_ne.2 hk0
        by_cases hkl : NG[i].kids.length = 0
        · rw [hbt] at n1 st2
          rw [hkl] at n3
          have st3 : (1 : Int) ≤ ((str (b :: t)).size : Int) := by rw [str_len, List.length_cons]; omega
          have st4' : 1 ≤ (str (b :: t)).size := by rw [str_len, List.length_cons]; omega
          obtain ⟨hfz, hst⟩ := HOW.out.setTag i hil ((⟨#[33, 111, 116, 104, 101, 114, 45]⟩ : ByteArray) ++ (str (b :: t)).extract 0 1).data.toList
          have hfX : Fine ⟨NG[i].kind, ((⟨#[33, 111, 116, 104, 101, 114, 45]⟩ : ByteArray) ++ (str (b :: t)).extract 0 1).data.toList, NG[i].text, NG[i].kids⟩ := ⟨by
            simp only
            rw [← Lib.size_eq, ByteArray.size_append, ByteArray.size_extract]
            have : (⟨#[33, 111, 116, 104, 101, 114, 45]⟩ : ByteArray).size = 7 := rfl
            omega, hfi.text, hfi.kids⟩
          have hd1 : ((⟨#[33, 111, 116, 104, 101, 114, 45]⟩ : ByteArray) ++ (str (b :: t)).extract 0 1).data.toList = [33, 111, 116, 104, 101, 114, 45] ++ [b] := by
            rw [Tag.app_data, Tag.ext_take]; rfl
          have hst0 := hst
          have hz0 : 0 < (str (b :: t)).size := by omega
          have hix : (str (b :: t))[0]'hz0 = b := rfl
          rw [str_eq] at hst
          by_cases hb33 : b = 33
          · subst hb33
            have hb3 : ((((str (33 :: t))[0]'hz0).toNat : Int) == 33) = true := by rw [hix]; rfl
            clear hix
            rw [str_eq] at hst0
            obtain ⟨hfz2, hst2⟩ := hst0.setTag' List.length_set i (by rw [List.length_set]; exact hil) ((33 :: t) ++ [120])
            simp only [List.getElem_set_self, List.set_set] at hst2
            rw [← str_cat] at hst2
            have hsame := same_other NG i ⟨NG[i].kind, (33 :: t) ++ [120], NG[i].text, NG[i].kids⟩ hnr hon hil rfl (.inl (by rw [hbt]; simp))
            have hfs := fine_set hnf i ⟨NG[i].kind, (33 :: t) ++ [120], NG[i].text, NG[i].kids⟩ ⟨by have := hfi.tag; have := hsi.1; rw [hbt] at this; simp at this ⊢; omega, hfi.text, hfi.kids⟩
            have hbb := (HSB.out og (i * 4 + 1) (.string ((⟨#[33, 111, 116, 104, 101, 114, 45]⟩ : ByteArray) ++ (str (33 :: t)).extract 0 1)) (by omega)).setCell (p := ⟨og, i * 4 + 1, none⟩) (show w5.heap.size ≤ og by omega) (.string (str (33 :: t) ++ str [120]))
            have cS := SAME.out _ _ hbb hst2 List.length_set hfs
            rw [hsame] at cS
            have HB8 := Lib.hid hbb
            have hw1 : (w7.setCell ⟨og, i * 4 + 1, none⟩ (.string ((⟨#[33, 111, 116, 104, 101, 114, 45]⟩ : ByteArray) ++ (str (33 :: t)).extract 0 1))).frozen? ⟨og, i * 4 + 1, none⟩ = false := hfz2
            have hn1' := (Below.heap_setCell w7 ⟨og, i * 4 + 1, none⟩ (.string ((⟨#[33, 111, 116, 104, 101, 114, 45]⟩ : ByteArray) ++ (str (33 :: t)).extract 0 1)) ng (by show ng ≠ og; omega))
            have n1' : (w7.setCell ⟨og, i * 4 + 1, none⟩ (.string ((⟨#[33, 111, 116, 104, 101, 114, 45]⟩ : ByteArray) ++ (str (33 :: t)).extract 0 1))).cell? ⟨ng, i * 4 + 1, none⟩ = some (.string (str (33 :: t))) := (World.cell?_of_block hn1').trans n1
            clear hst hst0 hst2 hsame hfs hfX hd1 hbb hfz2 hn1' hfi hsi hmay
            generalize NG[i] = X at *
            go_wp2_with fail
            refine cS.mono ?_
            rintro e w8 ⟨rfl, hb8⟩
            go_wp2
            go_ret
            exact ⟨rfl, bthen hb05 (bthen HB8.out hb8)⟩
          · have hb3 : ((((str (b :: t))[0]'hz0).toNat : Int) == 33) = false := by rw [hix]; exact beq_eq_false_iff_ne.2 (fun e => hb33 (UInt8.toNat_inj.1 (by show b.toNat = 33; omega)))
            clear hix
            have hsame := same_other NG i ⟨NG[i].kind, ((⟨#[33, 111, 116, 104, 101, 114, 45]⟩ : ByteArray) ++ (str (b :: t)).extract 0 1).data.toList, NG[i].text, NG[i].kids⟩ hnr hon hil rfl (.inl (by
              simp only
              rw [hd1, hbt]
              intro e
              exact hb33 (List.cons.inj e).1.symm))
            have hfs := fine_set hnf i _ hfX
            have hbb := HSB.out og (i * 4 + 1) (.string ((⟨#[33, 111, 116, 104, 101, 114, 45]⟩ : ByteArray) ++ (str (b :: t)).extract 0 1)) (by omega)
            have cS := SAME.out _ _ hbb hst List.length_set hfs
            rw [hsame] at cS
            have HB8 := Lib.hid hbb
            clear hst hst0 hsame hfs hfX hd1 hbb hfi hsi hmay
            generalize NG[i] = X at *
            go_wp2_with fail
            refine cS.mono ?_
            rintro e w8 ⟨rfl, hb8⟩
            go_wp2
            go_ret
            exact ⟨rfl, bthen hb05 (bthen HB8.out hb8)⟩
        · have hkz : ((NG[i].kids.length : Int) == 0) = false := beq_eq_false_iff_ne.2 (by omega)
          obtain ⟨k, hkm, hkl2⟩ := nat_mod m2 NG[i].kids.length (by omega)
          obtain ⟨z, hzm, hzl⟩ := nat_mod m3 NG.length hnl0
          have hk0' : (0 : Int) ≤ (k : Int) := by omega
          have hk1' : (k : Int) < (NG[i].kids.length : Int) := by omega
          obtain ⟨kg, kc', c3, cm, fm, hkg, hkg2, hkt, _, hset⟩ := HOW.out.kid i hil k hkl2
          rw [o3] at c3
          simp only [Option.some.injEq, Value.slice.injEq] at c3
          obtain ⟨rfl, _, rfl⟩ := c3
          obtain ⟨_, _, hv, _, hcl3⟩ := n4
          simp only [Value.slice.injEq] at hv
          obtain ⟨rfl, _, rfl⟩ := hv
          obtain ⟨vg, vo, rfl, hvg, hcl3⟩ := hcl3 (by omega)
          have t9 := hcl3 k hkl2
          have hst := hset (z : Int)
          obtain ⟨W8, hW⟩ : ∃ W, (w7.setCell ⟨kg, k, none⟩ (.int .i64 (z : Int))).drew = W := ⟨_, rfl⟩
          have hO8 : OwnD W8 w6.heap.size (.slice (some ⟨og, 0, none⟩) NG.length oc) (NG.set i ⟨NG[i].kind, NG[i].tag, NG[i].text, NG[i].kids.set k z⟩) := by rw [← hW]; exact hst.drew
          have hB8 : Below w5.heap.size w5 W8 := by rw [← hW]; exact (HSB.out kg k (.int .i64 (z : Int)) (by omega)).drew
          have hblk : ∀ q, q ≠ kg → W8.heap[q]? = w7.heap[q]? := fun q hq => by rw [← hW]; exact Below.heap_setCell w7 ⟨kg, k, none⟩ _ q hq
          have o3' : W8.cell? ⟨og, i * 4 + 3, none⟩ = some (.slice (some ⟨kg, 0, none⟩) NG[i].kids.length lc) := (World.cell?_of_block (hblk og (Ne.symm hkt))).trans o3
          have n3' : W8.cell? ⟨ng, i * 4 + 3, none⟩ = some (.slice (some ⟨vg, vo, none⟩) NG[i].kids.length kc) := (World.cell?_of_block (hblk ng (by omega))).trans n3
          have t9' : W8.cell? ⟨vg, vo + k, none⟩ = some (.int .i64 NG[i].kids[k]) := (World.cell?_of_block (hblk vg (by omega))).trans t9
          have cm' : W8.cell? ⟨kg, k, none⟩ = some (.int .i64 (z : Int)) := by
            obtain ⟨_, _, q3, qm, _⟩ := (hO8.kid' List.length_set i (by rw [List.length_set]; exact hil) k (by simp only [List.getElem_set_self, List.length_set]; exact hkl2))
            rw [o3'] at q3
            simp only [Option.some.injEq, Value.slice.injEq] at q3
            obtain ⟨h9, _, _⟩ := q3
            simp only [Option.some.injEq, Addr.mk.injEq] at h9
            obtain ⟨rfl, _⟩ := h9
            simp only [List.getElem_set_self] at qm
            exact qm
          have hfs := fine_set hnf i ⟨NG[i].kind, NG[i].tag, NG[i].text, NG[i].kids.set k z⟩ ⟨hfi.tag, hfi.text, by simp only [List.length_set]; exact hfi.kids⟩
          have cS := Lib.hid (fun W (hb : Below W8.heap.size W8 W) => SAME.out W _ (hB8.trans (hb.mono hB8.size)) (hO8.below hb) List.length_set hfs)
          have cN := Lib.hid (fun W (hb : Below W8.heap.size W8 W) => normal_any _ _ W ((hO8.below hb).rd) (by rw [List.length_set]; omega) hfs (HE.out.below (bthen hb05 (hB8.trans (hb.mono hB8.size)))))
          have hid9 : (z : Int) = NG[i].kids[k] → NG.set i ⟨NG[i].kind, NG[i].tag, NG[i].text, NG[i].kids.set k z⟩ = NG := fun e => by
            rw [e, List.set_getElem_self hkl2]
            exact List.set_getElem_self hil
          generalize NG.set i ⟨NG[i].kind, NG[i].tag, NG[i].text, NG[i].kids.set k z⟩ = LL at *
          have HB8 := Lib.hid hB8
          have HID := Lib.hid hid9
          clear hst hset hcl3 hO8 hB8 hblk hfs hfi hsi hmay hid9 SAME HOW HSB o0 o1 o2 n1 n2
          go_wp2
          go_region
          by_cases hz : (z : Int) = NG[i].kids[k]
          · have hzb : ((z : Int) == NG[i].kids[k]) = true := beq_iff_eq.2 hz
            have hLL := HID.out hz
            rw [hLL, (Ar.same_iff NG NG).2 ⟨hnr, rfl⟩] at cS
            clear hz hLL cN HID
            generalize NG[i].kids[k] = kk at *
            generalize NG[i] = X at *
            go_wp2
            go_quiet (fail)
            go_wp2_with fail
            refine (cS.out _ (drewBn (Below.refl _ _) _)).mono ?_
            rintro e w9 ⟨rfl, hb9⟩
            go_wp2
            go_ret
            exact ⟨rfl, bthen hb05 (bthen HB8.out (undrew hb9))⟩
          · have hzb : ((z : Int) == NG[i].kids[k]) = false := beq_eq_false_iff_ne.2 hz
            have hsl : Ar.same NG LL = true → (Ar.normal LL).length = NG.length := fun h => by
              rw [← ((Ar.same_iff _ _).1 h).2, hnn]
            clear hz HID
            generalize NG[i].kids[k] = kk at *
            generalize NG[i] = X at *
            cases hsm : Ar.same NG LL
            · rw [hsm] at cS
              go_wp2
              go_quiet (fail)
              go_wp2_with fail
              refine (cS.out _ (drewBn (Below.refl _ _) _)).mono ?_
              rintro e w9 ⟨rfl, hb9⟩
              go_wp2
              go_ret
              exact ⟨rfl, bthen hb05 (bthen HB8.out (undrew hb9))⟩
            · rw [hsm] at cS
              have hlN := hsl hsm
              clear hsl hsm
              go_wp2
              go_quiet (fail)
              go_wp2_with fail
              refine (cS.out _ (drewBn (Below.refl _ _) _)).mono ?_
              rintro e w9 ⟨rfl, hb9⟩
              have hb89 := undrew hb9
              go_wp2_with fail
              refine (cN.out w9 hb89).mono ?_
              rintro e w10 ⟨⟨uN, rfl, huN⟩, hb10⟩
              obtain ⟨aN, cN', rfl⟩ := huN.form
              rw [hlN]
              go_wp2
              go_ret
              exact ⟨rfl, bthen hb05 (bthen HB8.out (bthen hb89 hb10))⟩
  · rw [hh] at cH
    go_wp2_with fail
    refine (cH.out w2 hb12).mono ?_
    rintro e w3 ⟨rfl, hb3⟩
    go_wp2
    go_ret
    exact ⟨rfl, bthen hb12 hb3⟩
end Go.Proofs.YtnlbnnnhmdjciaaDoor
