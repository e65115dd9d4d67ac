/-
  The law LinesParts, walked: where both texts have lines.
-/
import Derived.Test.YtmhakkahclbbjaaGreatDoorPa
import Derived.Deep.DeepFit
import Derived.Deep.DeepCutAuto
namespace Go.Proofs.YtmhakkahclbbjaaGreatDoor
open Go.RowKit

/-- what Read answers, whatever it is -/
def SomeR (e : Ending) : Prop := ∃ a n c m, e = .returned (.tuple #[.slice a n c, .int .i64 m])
theorem readR_some {B : Nat} {r : Except Nat (List Lx.Ln)} {e : Ending} {w : World} (h : ReadR B r e w) : SomeR e := by
  cases r with
  | error n => exact ⟨none, 0, 0, n, h⟩
  | ok ls =>
    obtain ⟨v, rfl, ps, h1, h2, h3⟩ := h
    obtain ⟨a, c, rfl⟩ := own_slice h2
    exact ⟨a, ls.length, c, 0, rfl⟩
theorem app_toList (a b : ByteArray) : (a ++ b).data.toList = a.data.toList ++ b.data.toList := Tag.app_data _ _

set_option maxHeartbeats 4000000 in
set_option maxRecDepth 100000 in
theorem parts_good (a b : ByteArray) (w : World) (hs : a.size + b.size ≤ 2000) (hE : Env w) (h0 : 0 < a.size) (hsuf : Lib.hasSuffix a.data.toList [10] = true) (xs ys : List Lx.Ln) (hx : Lx.read a.data.toList = .ok xs) (hy : Lx.read b.data.toList = .ok ys)
    (hz : Lx.read (a ++ b).data.toList = .ok (xs ++ ys)) (ho : Lx.Open xs = false) :
    Calls Tryz.prog 3 #[.string a, .string b] w fun e w' => e = .returned (.bool true) ∧ Below w.heap.size w w' := by
  have cA := Lib.hid (alive_any w hE)
  have cS : Hid (∀ w, Calls Tryz.prog 9 #[.string a, .string ⟨#[10]⟩] w fun e w' => e = .returned (.bool true) ∧ w = w') := fun w => by
    have h0 := suf_any a ⟨#[10]⟩ w (by omega)
    rw [show (⟨#[10]⟩ : ByteArray).data.toList = [10] from rfl, hsuf] at h0
    exact h0
  have b1 : decide ((2000 : Int) < (a.size : Int) + (b.size : Int)) = false := decide_eq_false (by omega)
  have hem := ba_isEmpty a h0
  have hnn := ba_notnil a h0
  have hsz : (a ++ b).size ≤ 50000 := by rw [Lib.size_eq, app_toList, List.length_append, ba_len, ba_len]; omega
  have r1 := fun w hE => readLoop a w (by omega) hE
  have r2 := fun w hE => readLoop b w (by omega) hE
  have r3 := fun w hE => readLoop (a ++ b) w hsz hE
  rw [hx] at r1
  rw [hy] at r2
  rw [hz] at r3
  have fx := Lx.read_few _ _ hx
  have fy := Lx.read_few _ _ hy
  have fz := Lx.read_few _ _ hz
  rw [ba_len] at fx fy
  rw [app_toList, List.length_append, ba_len, ba_len] at fz
  have R1 := Lib.hid r1
  have R2 := Lib.hid r2
  have R3 := Lib.hid r3
  have HE := Lib.hid hE
  have FX := Lib.hid fx
  have FY := Lib.hid fy
  have FZ := Lib.hid fz
  clear r1 r2 r3 hx hy hz fx fy fz hE hsuf hsz
  have hxl := FX.out.1
  have hyl := FY.out.1
  go_enter Tryz.func3, Tryz.ntmps3
  go_upto_region 10 with (first
    | (go_at_call 8; refine cA.out.mono ?_; rintro e w1 ⟨rfl, hb1⟩)
    | (go_at_call 9; refine (cS.out _).mono ?_; rintro e w' ⟨rfl, rfl⟩)
    | (go_at_call 10; go_fit (R1.out _ (HE.out.below hb1)); rintro e w2 ⟨⟨v, rfl, hv⟩, hb2⟩; obtain ⟨va, vc, rfl⟩ := hv.form; have HV := Lib.hid hv; clear hv; have R2' := Lib.hid (R2.out w2 (HE.out.below (bthen hb1 hb2))))
    | (go_at_call 10; go_fit R2'.out; rintro e w3 ⟨⟨u, rfl, hu⟩, hb3⟩; obtain ⟨ua, uc, rfl⟩ := hu.form; have HU := Lib.hid hu; clear hu; have R3' := Lib.hid (R3.out w3 (HE.out.below (bthen (bthen hb1 hb2) hb3))))
    | (go_at_call 10; go_fit R3'.out; rintro e w4 ⟨⟨z, rfl, hz⟩, hb4⟩; obtain ⟨za, zc, rfl⟩ := hz.form; have HZ := Lib.hid hz; clear hz))
  clear cA cS R1 R2 R3 R2' R3'
  have hb24 := bthen hb3 hb4
  have hb14 := bthen hb2 hb24
  have HV4 := Lib.hid (HV.out.below hb24)
  have HU4 := Lib.hid ((HU.out.base hb2.size).below hb4)
  have CO := Lib.hid (oursL_any _ _ _ w4 HZ.out (by have := FZ.out.1; omega) (fun x hx => by have := (FZ.out.2 x hx).1; omega))
  rcases Nat.eq_zero_or_pos xs.length with hx0 | hx0
  · obtain rfl : xs = [] := List.length_eq_zero_iff.1 hx0
    clear hx0
    go_wp2_with (first
      | (go_at_call 12; go_fit CO.out; rintro e w5 ⟨⟨p, rfl, hp⟩, hb5⟩; obtain ⟨pa, pc, rfl⟩ := hp.form; have HP := Lib.hid hp; clear hp)
      | (at_builtin; refine wpList_appL (by rfl) (.tmp 98) (.tmp 99) rfl w1.heap.size _ _ [] ys rfl rfl (HV4.out.below hb5) (HU4.out.below hb5) (by omega) (by have := (bthen hb14 hb5).size; omega) ?_; intro v6 w6 hv6 hb6 hk6; obtain ⟨qa, qc, rfl⟩ := hv6.form; have HP6 := Lib.hid (OwnLR.kept HP.out (fun k h1 h2 => hk6 k h2 (fun e => by have := HV.out.lt k e; have := hb24.size; omega))); have CP := Lib.hid (oursL_any _ _ _ w6 hv6 (by have := FZ.out.1; omega) (fun x hx => by have := (FZ.out.2 x hx).1; omega)); clear hv6 hk6 HP)
      | (go_at_call 12; go_fit CP.out; rintro e w7 ⟨⟨q, rfl, hq⟩, hb7⟩; obtain ⟨ra, rc, rfl⟩ := hq.form; have CQ := Lib.hid (sameL_any _ _ _ _ _ w7 (HP6.out.below hb7) hq); clear hq)
      | (go_at_call 11; go_fit CQ.out; rintro e w8 ⟨rfl, n8, rfl⟩))
    go_ret
    exact ⟨rfl, bel_drewN ((hb1.trans ((bthen hb14 hb5).mono hb1.size)).trans ((hb6.mono hb1.size).trans (hb7.mono (by have := hb1.size; have := (bthen hb14 hb5).size; have := hb6.size; omega)))) _⟩
  · simp only [List.length_append] at CO
    obtain ⟨g, cc, e, hcc, hg, hcl⟩ := HV4.out.cells hx0
    cases e
    obtain ⟨_, _, ⟨wa, wc, c2, ow⟩, _⟩ := hcl (xs.length - 1) (by omega)
    have hlb : Lx.lastBar (xs[xs.length - 1]'(by omega)).words = false := by
      unfold Lx.Open at ho
      rw [List.getLast?_eq_getElem?, List.getElem?_eq_getElem (by omega)] at ho
      exact ho
    clear hcl
    generalize (xs[xs.length - 1]'(by omega)).words = W at *
    have i1 : (1 : Int) ≤ (xs.length : Int) := by omega
    have i2 : (0 : Int) ≤ (xs.length : Int) - 1 := by omega
    have i3 : ((xs.length : Int) - 1).toNat = xs.length - 1 := by omega
    have i4 : (xs.length : Int) - 1 < (xs.length : Int) := by omega
    have i5 : decide ((0 : Int) < (xs.length : Int)) = true := decide_eq_true (by omega)
    have hwl := own_len ow
    rcases Nat.eq_zero_or_pos W.length with hw0 | hw0
    · obtain rfl : W = [] := List.length_eq_zero_iff.1 hw0
      clear hw0 ow hlb
      change w4.cell? ⟨g, (xs.length - 1) * 4 + 2, none⟩ = some (.slice wa 0 wc) at c2
      go_wp2_with (first
        | (go_at_call 12; go_fit CO.out; rintro e w5 ⟨⟨p, rfl, hp⟩, hb5⟩; obtain ⟨pa, pc, rfl⟩ := hp.form; have HP := Lib.hid hp; clear hp)
        | (at_builtin; refine wpList_appL (by rfl) (.tmp 98) (.tmp 99) rfl w1.heap.size _ _ xs ys rfl rfl (HV4.out.below hb5) (HU4.out.below hb5) (by omega) (by have := (bthen hb14 hb5).size; omega) ?_; intro v6 w6 hv6 hb6 hk6; obtain ⟨qa, qc, rfl⟩ := hv6.form; have HP6 := Lib.hid (OwnLR.kept HP.out (fun k h1 h2 => hk6 k h2 (fun e => by have := HV.out.lt k e; have := hb24.size; omega))); have CP := Lib.hid (oursL_any _ _ _ w6 hv6 (by have := FZ.out.1; omega) (fun x hx => by have := (FZ.out.2 x hx).1; omega)); simp only [List.length_append] at CP; clear hv6 hk6 HP)
        | (go_at_call 12; go_fit CP.out; rintro e w7 ⟨⟨q, rfl, hq⟩, hb7⟩; obtain ⟨ra, rc, rfl⟩ := hq.form; have CQ := Lib.hid (sameL_any _ _ _ _ _ w7 (HP6.out.below hb7) hq); simp only [List.length_append] at CQ; clear hq)
        | (go_at_call 11; go_fit CQ.out; rintro e w8 ⟨rfl, n8, rfl⟩))
      go_ret
      exact ⟨rfl, bel_drewN ((hb1.trans ((bthen hb14 hb5).mono hb1.size)).trans ((hb6.mono hb1.size).trans (hb7.mono (by have := hb1.size; have := (bthen hb14 hb5).size; have := hb6.size; omega)))) _⟩
    · obtain ⟨_, hwc, gw, rfl, hgw, hcw⟩ := OwnW.cells ow hw0
      have d0 := (hcw (W.length - 1) (by omega)).1
      have hk13 : (((W[W.length - 1]'(by omega)).kind : Int) == 13) = false := by
        unfold Lx.lastBar at hlb
        rw [List.getLast?_eq_getElem?, List.getElem?_eq_getElem (by omega)] at hlb
        exact beq_eq_false_iff_ne.2 (by have := of_decide_eq_false hlb; omega)
      generalize (W[W.length - 1]'(by omega)).kind = K at *
      clear hcw hlb ow
      have j1 : (1 : Int) ≤ (W.length : Int) := by omega
      have j2 : (0 : Int) ≤ (W.length : Int) - 1 := by omega
      have j3 : ((W.length : Int) - 1).toNat = W.length - 1 := by omega
      have j4 : (W.length : Int) - 1 < (W.length : Int) := by omega
      have j5 : decide ((0 : Int) < (W.length : Int)) = true := decide_eq_true (by omega)
      go_wp2_with (first
        | (go_at_call 12; go_fit CO.out; rintro e w5 ⟨⟨p, rfl, hp⟩, hb5⟩; obtain ⟨pa, pc, rfl⟩ := hp.form; have HP := Lib.hid hp; clear hp)
        | (at_builtin; refine wpList_appL (by rfl) (.tmp 98) (.tmp 99) rfl w1.heap.size _ _ xs ys rfl rfl (HV4.out.below hb5) (HU4.out.below hb5) (by omega) (by have := (bthen hb14 hb5).size; omega) ?_; intro v6 w6 hv6 hb6 hk6; obtain ⟨qa, qc, rfl⟩ := hv6.form; have HP6 := Lib.hid (OwnLR.kept HP.out (fun k h1 h2 => hk6 k h2 (fun e => by have := HV.out.lt k e; have := hb24.size; omega))); have CP := Lib.hid (oursL_any _ _ _ w6 hv6 (by have := FZ.out.1; omega) (fun x hx => by have := (FZ.out.2 x hx).1; omega)); simp only [List.length_append] at CP; clear hv6 hk6 HP)
        | (go_at_call 12; go_fit CP.out; rintro e w7 ⟨⟨q, rfl, hq⟩, hb7⟩; obtain ⟨ra, rc, rfl⟩ := hq.form; have CQ := Lib.hid (sameL_any _ _ _ _ _ w7 (HP6.out.below hb7) hq); simp only [List.length_append] at CQ; clear hq)
        | (go_at_call 11; go_fit CQ.out; rintro e w8 ⟨rfl, n8, rfl⟩))
      go_ret
      exact ⟨rfl, bel_drewN ((hb1.trans ((bthen hb14 hb5).mono hb1.size)).trans ((hb6.mono hb1.size).trans (hb7.mono (by have := hb1.size; have := (bthen hb14 hb5).size; have := hb6.size; omega)))) _⟩

set_option maxHeartbeats 4000000 in
set_option maxRecDepth 100000 in
theorem parts_good0 (a b : ByteArray) (w : World) (hs : a.size + b.size ≤ 2000) (hE : Env w) (h0 : a.size = 0) (xs ys : List Lx.Ln) (hx : Lx.read a.data.toList = .ok xs) (hy : Lx.read b.data.toList = .ok ys)
    (hz : Lx.read (a ++ b).data.toList = .ok (xs ++ ys)) (ho : Lx.Open xs = false) :
    Calls Tryz.prog 3 #[.string a, .string b] w fun e w' => e = .returned (.bool true) ∧ Below w.heap.size w w' := by
  have cA := Lib.hid (alive_any w hE)
  have b1 : decide ((2000 : Int) < (a.size : Int) + (b.size : Int)) = false := decide_eq_false (by omega)
  have hem : a.toList.isEmpty = true := by rw [Lib.toList_data, ba_zero a h0]; rfl
  have hnn : a.toList = [] := by rw [Lib.toList_data, ba_zero a h0]
  have hsz : (a ++ b).size ≤ 50000 := by rw [Lib.size_eq, app_toList, List.length_append, ba_len, ba_len]; omega
  have r1 := fun w hE => readLoop a w (by omega) hE
  have r2 := fun w hE => readLoop b w (by omega) hE
  have r3 := fun w hE => readLoop (a ++ b) w hsz hE
  rw [hx] at r1
  rw [hy] at r2
  rw [hz] at r3
  have fx := Lx.read_few _ _ hx
  have fy := Lx.read_few _ _ hy
  have fz := Lx.read_few _ _ hz
  rw [ba_len] at fx fy
  rw [app_toList, List.length_append, ba_len, ba_len] at fz
  have R1 := Lib.hid r1
  have R2 := Lib.hid r2
  have R3 := Lib.hid r3
  have HE := Lib.hid hE
  have FX := Lib.hid fx
  have FY := Lib.hid fy
  have FZ := Lib.hid fz
  clear r1 r2 r3 hx hy hz fx fy fz hE hsz
  have hxl := FX.out.1
  have hyl := FY.out.1
  go_enter Tryz.func3, Tryz.ntmps3
  go_upto_region 10 with (first
    | (go_at_call 8; refine cA.out.mono ?_; rintro e w1 ⟨rfl, hb1⟩)
    | (go_at_call 10; go_fit (R1.out _ (HE.out.below hb1)); rintro e w2 ⟨⟨v, rfl, hv⟩, hb2⟩; obtain ⟨va, vc, rfl⟩ := hv.form; have HV := Lib.hid hv; clear hv; have R2' := Lib.hid (R2.out w2 (HE.out.below (bthen hb1 hb2))))
    | (go_at_call 10; go_fit R2'.out; rintro e w3 ⟨⟨u, rfl, hu⟩, hb3⟩; obtain ⟨ua, uc, rfl⟩ := hu.form; have HU := Lib.hid hu; clear hu; have R3' := Lib.hid (R3.out w3 (HE.out.below (bthen (bthen hb1 hb2) hb3))))
    | (go_at_call 10; go_fit R3'.out; rintro e w4 ⟨⟨z, rfl, hz⟩, hb4⟩; obtain ⟨za, zc, rfl⟩ := hz.form; have HZ := Lib.hid hz; clear hz))
  clear cA R1 R2 R3 R2' R3'
  have hb24 := bthen hb3 hb4
  have hb14 := bthen hb2 hb24
  have HV4 := Lib.hid (HV.out.below hb24)
  have HU4 := Lib.hid ((HU.out.base hb2.size).below hb4)
  have CO := Lib.hid (oursL_any _ _ _ w4 HZ.out (by have := FZ.out.1; omega) (fun x hx => by have := (FZ.out.2 x hx).1; omega))
  rcases Nat.eq_zero_or_pos xs.length with hx0 | hx0
  · obtain rfl : xs = [] := List.length_eq_zero_iff.1 hx0
    clear hx0
    go_wp2_with (first
      | (go_at_call 12; go_fit CO.out; rintro e w5 ⟨⟨p, rfl, hp⟩, hb5⟩; obtain ⟨pa, pc, rfl⟩ := hp.form; have HP := Lib.hid hp; clear hp)
      | (at_builtin; refine wpList_appL (by rfl) (.tmp 98) (.tmp 99) rfl w1.heap.size _ _ [] ys rfl rfl (HV4.out.below hb5) (HU4.out.below hb5) (by omega) (by have := (bthen hb14 hb5).size; omega) ?_; intro v6 w6 hv6 hb6 hk6; obtain ⟨qa, qc, rfl⟩ := hv6.form; have HP6 := Lib.hid (OwnLR.kept HP.out (fun k h1 h2 => hk6 k h2 (fun e => by have := HV.out.lt k e; have := hb24.size; omega))); have CP := Lib.hid (oursL_any _ _ _ w6 hv6 (by have := FZ.out.1; omega) (fun x hx => by have := (FZ.out.2 x hx).1; omega)); clear hv6 hk6 HP)
      | (go_at_call 12; go_fit CP.out; rintro e w7 ⟨⟨q, rfl, hq⟩, hb7⟩; obtain ⟨ra, rc, rfl⟩ := hq.form; have CQ := Lib.hid (sameL_any _ _ _ _ _ w7 (HP6.out.below hb7) hq); clear hq)
      | (go_at_call 11; go_fit CQ.out; rintro e w8 ⟨rfl, n8, rfl⟩))
    go_ret
    exact ⟨rfl, bel_drewN ((hb1.trans ((bthen hb14 hb5).mono hb1.size)).trans ((hb6.mono hb1.size).trans (hb7.mono (by have := hb1.size; have := (bthen hb14 hb5).size; have := hb6.size; omega)))) _⟩
  · simp only [List.length_append] at CO
    obtain ⟨g, cc, e, hcc, hg, hcl⟩ := HV4.out.cells hx0
    cases e
    obtain ⟨_, _, ⟨wa, wc, c2, ow⟩, _⟩ := hcl (xs.length - 1) (by omega)
    have hlb : Lx.lastBar (xs[xs.length - 1]'(by omega)).words = false := by
      unfold Lx.Open at ho
      rw [List.getLast?_eq_getElem?, List.getElem?_eq_getElem (by omega)] at ho
      exact ho
    clear hcl
    generalize (xs[xs.length - 1]'(by omega)).words = W at *
    have i1 : (1 : Int) ≤ (xs.length : Int) := by omega
    have i2 : (0 : Int) ≤ (xs.length : Int) - 1 := by omega
    have i3 : ((xs.length : Int) - 1).toNat = xs.length - 1 := by omega
    have i4 : (xs.length : Int) - 1 < (xs.length : Int) := by omega
    have i5 : decide ((0 : Int) < (xs.length : Int)) = true := decide_eq_true (by omega)
    have hwl := own_len ow
    rcases Nat.eq_zero_or_pos W.length with hw0 | hw0
    · obtain rfl : W = [] := List.length_eq_zero_iff.1 hw0
      clear hw0 ow hlb
      change w4.cell? ⟨g, (xs.length - 1) * 4 + 2, none⟩ = some (.slice wa 0 wc) at c2
      go_wp2_with (first
        | (go_at_call 12; go_fit CO.out; rintro e w5 ⟨⟨p, rfl, hp⟩, hb5⟩; obtain ⟨pa, pc, rfl⟩ := hp.form; have HP := Lib.hid hp; clear hp)
        | (at_builtin; refine wpList_appL (by rfl) (.tmp 98) (.tmp 99) rfl w1.heap.size _ _ xs ys rfl rfl (HV4.out.below hb5) (HU4.out.below hb5) (by omega) (by have := (bthen hb14 hb5).size; omega) ?_; intro v6 w6 hv6 hb6 hk6; obtain ⟨qa, qc, rfl⟩ := hv6.form; have HP6 := Lib.hid (OwnLR.kept HP.out (fun k h1 h2 => hk6 k h2 (fun e => by have := HV.out.lt k e; have := hb24.size; omega))); have CP := Lib.hid (oursL_any _ _ _ w6 hv6 (by have := FZ.out.1; omega) (fun x hx => by have := (FZ.out.2 x hx).1; omega)); simp only [List.length_append] at CP; clear hv6 hk6 HP)
        | (go_at_call 12; go_fit CP.out; rintro e w7 ⟨⟨q, rfl, hq⟩, hb7⟩; obtain ⟨ra, rc, rfl⟩ := hq.form; have CQ := Lib.hid (sameL_any _ _ _ _ _ w7 (HP6.out.below hb7) hq); simp only [List.length_append] at CQ; clear hq)
        | (go_at_call 11; go_fit CQ.out; rintro e w8 ⟨rfl, n8, rfl⟩))
      go_ret
      exact ⟨rfl, bel_drewN ((hb1.trans ((bthen hb14 hb5).mono hb1.size)).trans ((hb6.mono hb1.size).trans (hb7.mono (by have := hb1.size; have := (bthen hb14 hb5).size; have := hb6.size; omega)))) _⟩
    · obtain ⟨_, hwc, gw, rfl, hgw, hcw⟩ := OwnW.cells ow hw0
      have d0 := (hcw (W.length - 1) (by omega)).1
      have hk13 : (((W[W.length - 1]'(by omega)).kind : Int) == 13) = false := by
        unfold Lx.lastBar at hlb
        rw [List.getLast?_eq_getElem?, List.getElem?_eq_getElem (by omega)] at hlb
        exact beq_eq_false_iff_ne.2 (by have := of_decide_eq_false hlb; omega)
      generalize (W[W.length - 1]'(by omega)).kind = K at *
      clear hcw hlb ow
      have j1 : (1 : Int) ≤ (W.length : Int) := by omega
      have j2 : (0 : Int) ≤ (W.length : Int) - 1 := by omega
      have j3 : ((W.length : Int) - 1).toNat = W.length - 1 := by omega
      have j4 : (W.length : Int) - 1 < (W.length : Int) := by omega
      have j5 : decide ((0 : Int) < (W.length : Int)) = true := decide_eq_true (by omega)
      go_wp2_with (first
        | (go_at_call 12; go_fit CO.out; rintro e w5 ⟨⟨p, rfl, hp⟩, hb5⟩; obtain ⟨pa, pc, rfl⟩ := hp.form; have HP := Lib.hid hp; clear hp)
        | (at_builtin; refine wpList_appL (by rfl) (.tmp 98) (.tmp 99) rfl w1.heap.size _ _ xs ys rfl rfl (HV4.out.below hb5) (HU4.out.below hb5) (by omega) (by have := (bthen hb14 hb5).size; omega) ?_; intro v6 w6 hv6 hb6 hk6; obtain ⟨qa, qc, rfl⟩ := hv6.form; have HP6 := Lib.hid (OwnLR.kept HP.out (fun k h1 h2 => hk6 k h2 (fun e => by have := HV.out.lt k e; have := hb24.size; omega))); have CP := Lib.hid (oursL_any _ _ _ w6 hv6 (by have := FZ.out.1; omega) (fun x hx => by have := (FZ.out.2 x hx).1; omega)); simp only [List.length_append] at CP; clear hv6 hk6 HP)
        | (go_at_call 12; go_fit CP.out; rintro e w7 ⟨⟨q, rfl, hq⟩, hb7⟩; obtain ⟨ra, rc, rfl⟩ := hq.form; have CQ := Lib.hid (sameL_any _ _ _ _ _ w7 (HP6.out.below hb7) hq); simp only [List.length_append] at CQ; clear hq)
        | (go_at_call 11; go_fit CQ.out; rintro e w8 ⟨rfl, n8, rfl⟩))
      go_ret
      exact ⟨rfl, bel_drewN ((hb1.trans ((bthen hb14 hb5).mono hb1.size)).trans ((hb6.mono hb1.size).trans (hb7.mono (by have := hb1.size; have := (bthen hb14 hb5).size; have := hb6.size; omega)))) _⟩
end Go.Proofs.YtmhakkahclbbjaaGreatDoor
