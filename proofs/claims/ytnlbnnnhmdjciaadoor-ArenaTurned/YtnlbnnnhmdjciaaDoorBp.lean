/-
  The walk of ArenaNormal.
-/
import Derived.Test.YtnlbnnnhmdjciaaDoorBo
namespace Go.Proofs.YtnlbnnnhmdjciaaDoor
open Go.RowKit Go.Maps
theorem normal_fine (g : List Ar.Nd) (hf : ∀ x ∈ g, Fine x) : ∀ x ∈ Ar.normal g, Fine x := by
  intro x hx
  have hk := normal_kids g hf x hx
  unfold Ar.normal at hx
  obtain ⟨a, ha, rfl⟩ := List.mem_map.1 hx
  have hlt := (Ar.order_nb g).2 a ha
  have h1 : Fine (Ar.at' g a) := by rw [Ar.at_mem g a hlt]; exact hf _ (List.getElem_mem _)
  exact ⟨h1.tag, h1.text, hk⟩
theorem normal_small (g : List Ar.Nd) (hf : ∀ x ∈ g, x.tag.length ≤ 50000 ∧ x.text.length ≤ 50000) : ∀ x ∈ Ar.normal g, x.tag.length ≤ 50000 ∧ x.text.length ≤ 50000 := by
  intro x hx
  unfold Ar.normal at hx
  obtain ⟨a, ha, rfl⟩ := List.mem_map.1 hx
  have hlt := (Ar.order_nb g).2 a ha
  have h1 : (Ar.at' g a).tag.length ≤ 50000 ∧ (Ar.at' g a).text.length ≤ 50000 := by rw [Ar.at_mem g a hlt]; exact hf _ (List.getElem_mem _)
  exact h1
theorem drewB {w w' : World} (h : ∃ n, w' = w.drewN n) : Below w.heap.size w w' := by
  obtain ⟨n, rfl⟩ := h
  exact ⟨rfl, rfl, rfl, Nat.le_refl _, fun _ _ => rfl⟩

set_option maxHeartbeats 8000000 in
set_option maxRecDepth 100000 in
theorem normal_walk (v : Value) (g : List Ar.Nd) (w : World) (hg : RdGo w w.heap.size v g) (hgl : g.length ≤ 2199023255488) (hfk : ∀ x ∈ g, x.kids.length ≤ 17592186044160) (hE : Env w) :
    Calls Tryd.prog 4 #[v] w fun e w' => e = .returned (.bool true) ∧ Below w.heap.size w w' := by
  have cA := Lib.hid (arAlive_any w hE)
  have cT := Lib.hid (fun W (hb : Below w.heap.size w W) => theirs_any v g W ((hg.below hb).mono hb.size) hgl hfk)
  have cH := Lib.hid (fun W (hb : Below w.heap.size w W) => heavy_any v g W ((hg.below hb).mono hb.size) hgl)
  have HE := Lib.hid hE
  clear hE hfk
  obtain ⟨ga, gc, rfl, _, _⟩ := hg
  go_enter Tryd.func4, Tryd.ntmps4
  go_wp2_with fail
  refine cA.out.mono ?_
  rintro e w1 ⟨rfl, hb1⟩
  go_wp2_with fail
  refine (cT.out w1 hb1).mono ?_
  rintro e w2 ⟨⟨u, rfl, hu⟩, hb2⟩
  have hb12 := bthen hb1 hb2
  obtain ⟨ua, uc, rfl⟩ := hu.form
  have HU := Lib.hid hu.rd
  clear hu
  cases hh : Ar.heavy g
  · have hL := Ar.light_of g hh
    have hlen := hL.len
    rw [hh] at cH
    have cR := Lib.hid (fun W (hb : Below w2.heap.size w2 W) => right_any _ g W ((HU.out.below hb).mono hb.size) (by omega) hL.fine (HE.out.below (bthen hb12 hb)))
    have cN := Lib.hid (fun W (hb : Below w2.heap.size w2 W) => normal_any _ g W ((HU.out.below hb).mono hb.size) (by omega) hL.fine (HE.out.below (bthen hb12 hb)))
    go_wp2_with fail
    refine (cH.out w2 hb12).mono ?_
    rintro e w3 ⟨rfl, hb3⟩
    cases hr : Ar.right g
    · rw [hr] at cR
      go_wp2_with fail
      refine (cR.out w3 hb3).mono ?_
      rintro e w4 ⟨rfl, hb4⟩
      go_wp2
      go_ret
      exact ⟨rfl, bthen (bthen hb12 hb3) hb4⟩
    · rw [hr] at cR
      have hnr := Ar.normal_right g hr
      have hnn := Ar.normal_normal g hr
      have hon := Ar.order_normal g hr
      have hsm : Ar.same g (Ar.normal g) = true := (Ar.same_iff _ _).2 ⟨hr, hnn.symm⟩
      have hnl := normal_le g
      have hnf := normal_fine g hL.fine
      go_wp2_with fail
      refine (cR.out w3 hb3).mono ?_
      rintro e w4 ⟨rfl, hb4⟩
      have hb24 := bthen hb3 hb4
      go_wp2_with fail
      refine (cN.out w4 hb24).mono ?_
      rintro e w5 ⟨⟨un, rfl, hun⟩, hb5⟩
      have hb25 := bthen hb24 hb5
      obtain ⟨na, nc, rfl⟩ := hun.form
      have HN := Lib.hid hun.rd
      clear hun
      have dR := right_any _ (Ar.normal g) w5 HN.out (by omega) hnf (HE.out.below (bthen hb12 hb25))
      rw [hnr] at dR
      have dS := Lib.hid (fun W (hb : Below w5.heap.size w5 W) => same_any _ _ g (Ar.normal g) W ((HU.out.below (bthen hb25 hb)).mono (bthen hb25 hb).size) ((HN.out.below hb).mono hb.size) (by omega) (by omega) hL.fine hnf (HE.out.below (bthen hb12 (bthen hb25 hb))))
      rw [hsm] at dS
      have dN := Lib.hid (fun W (hb : Below w5.heap.size w5 W) => normal_any _ (Ar.normal g) W ((HN.out.below hb).mono hb.size) (by omega) hnf (HE.out.below (bthen hb12 (bthen hb25 hb))))
      rw [hnn] at dN
      have dO := Lib.hid (fun W (hb : Below w5.heap.size w5 W) => order_any _ (Ar.normal g) W ((HN.out.below hb).mono hb.size) (by omega) hnf (HE.out.below (bthen hb12 (bthen hb25 hb))))
      rw [hon] at dO
      have hkk : ∀ x ∈ Ar.normal g, x.kids.length ≤ 17592186044160 := fun x hx => by have := (hnf x hx).kids; omega
      have hkk2 : ∀ x ∈ Ar.normal g, x.kids.length ≤ 1000000 := fun x hx => (hnf x hx).kids
      have dU := Lib.hid (fun W (hb : Below w5.heap.size w5 W) => ours_any _ (Ar.normal g) W ((HN.out.below hb).mono hb.size).any (by omega) hkk)
      clear hnf hL hnr hnn hon hsm cN cR cH cA cT
      generalize Ar.normal g = NG at *
      go_wp2_with fail
      refine dR.mono ?_
      rintro e w6 ⟨rfl, hb6⟩
      go_wp2_with fail
      refine (dS.out w6 hb6).mono ?_
      rintro e w7 ⟨rfl, hb7⟩
      have hb57 := bthen hb6 hb7
      go_wp2_with fail
      refine (dN.out w7 hb57).mono ?_
      rintro e w8 ⟨⟨u8, rfl, hu8⟩, hb8⟩
      have hb58 := bthen hb57 hb8
      obtain ⟨a8, c8, rfl⟩ := hu8.form
      go_wp2_with fail
      refine (ours_any _ NG w8 hu8.rd.any (by omega) hkk).mono ?_
      rintro e w9 ⟨⟨u9, rfl, hu9⟩, hb9⟩
      have hb59 := bthen hb58 hb9
      obtain ⟨a9, c9, rfl⟩ := hu9.form
      clear hu8
      go_wp2_with fail
      refine (dU.out w9 hb59).mono ?_
      rintro e w10 ⟨⟨u10, rfl, hu10⟩, hb10⟩
      have hb510 := bthen hb59 hb10
      obtain ⟨a10, c10, rfl⟩ := hu10.form
      go_wp2_with fail
      refine (equalN_same _ _ NG w10 (hu9.below hb10).rd.any hu10.rd.any (by omega) hkk2).mono ?_
      rintro e w11 ⟨rfl, hq11⟩
      have hb511 := bthen hb510 (drewB hq11)
      clear hq11 hu9 hu10 hb6 hb7 hb8 hb9 hb10 hb57 hb58 hb59 hb510 dN dS dU
      go_wp2_with fail
      refine (dO.out w11 hb511).mono ?_
      rintro e w12 ⟨⟨uo, rfl, huo⟩, hb12'⟩
      have hb512 := bthen hb511 hb12'
      have hlo : (nats (List.range NG.length)).length = NG.length := by rw [nats_len, List.length_range]
      obtain ⟨oa, oc, rfl, hoc, hocl⟩ := huo
      have HO := Lib.hid hocl
      rw [hlo]
      clear hocl
      go_wp2
      go_loopg [41] NG.length (fun q i wr => ∃ (m : Nat), m ≤ NG.length ∧ q = NG.length - m ∧ i = .int .i64 m ∧ Hid (Below w12.heap.size w12 wr))
      case atStart => exact ⟨0, by omega, by omega, rfl, Lib.hid (Below.refl _ _)⟩
      case round =>
        obtain ⟨m, hm, rfl, rfl, HB⟩ := hrel
        by_cases hmt : m < NG.length
        · obtain ⟨og, oo, rfl, hog, hcl⟩ := HO.out (by rw [hlo]; omega)
          have hc0 := hcl m (by rw [hlo]; exact hmt)
          have e0 : (nats (List.range NG.length))[m]'(by rw [hlo]; exact hmt) = (m : Int) := by simp [nats]
          rw [e0] at hc0
          have hc1 := (HB.out.cell (p := ⟨og, oo + m, none⟩) hog).trans hc0
          clear hcl hc0
          go_wp2
          go_roundg (NG.length - (m + 1))
          case measure => omega
          case rel => exact ⟨m + 1, by omega, rfl, by go_num, HB⟩
        · have hme : m = NG.length := by omega
          go_wp2_with fail
          refine (dO.out wr (bthen hb512 HB.out)).mono ?_
          rintro e w13 ⟨⟨up, rfl, hup⟩, hb13⟩
          obtain ⟨pa, pc, rfl, _, _⟩ := hup
          rw [hlo]
          go_wp2
          go_ret
          exact ⟨ret_bool (by simp), bthen hb12 (bthen hb25 (bthen hb512 (bthen HB.out hb13)))⟩
  · rw [hh] at cH
    go_wp2_with fail
    refine (cH.out w2 hb12).mono ?_
    rintro e w3 ⟨rfl, hb3⟩
    go_wp2
    go_ret
    exact ⟨rfl, bthen hb12 hb3⟩
end Go.Proofs.YtnlbnnnhmdjciaaDoor
