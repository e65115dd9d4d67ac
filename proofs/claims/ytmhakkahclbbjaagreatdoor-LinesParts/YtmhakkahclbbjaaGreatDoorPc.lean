/-
  The law LinesParts, walked.
-/
import Derived.Test.YtmhakkahclbbjaaGreatDoorPb
namespace Go.Proofs.YtmhakkahclbbjaaGreatDoor
open Go.RowKit

set_option maxHeartbeats 4000000 in
set_option maxRecDepth 100000 in
theorem parts_bad (a b : ByteArray) (w : World) (hs : a.size + b.size ≤ 2000) (hE : Env w) (h0 : 0 < a.size) (hsuf : Lib.hasSuffix a.data.toList [10] = true) (xs : List Lx.Ln) (m : Nat) (hx : Lx.read a.data.toList = .ok xs) (hy : Lx.read b.data.toList = .error m)
    (hz : Lx.read (a ++ b).data.toList = .error m) (ho : Lx.Open xs = false) :
    Calls Tryz.prog 3 #[.string a, .string b] w fun e w' => e = .returned (.bool true) ∧ Below w.heap.size w w' := by
  have cA := Lib.hid (alive_any w hE)
  have cS : Hid (∀ w, Calls Tryz.prog 9 #[.string a, .string ⟨#[10]⟩] w fun e w' => e = .returned (.bool true) ∧ w = w') := fun w => by
    have h0 := suf_any a ⟨#[10]⟩ w (by omega)
    rw [show (⟨#[10]⟩ : ByteArray).data.toList = [10] from rfl, hsuf] at h0
    exact h0
  have b1 : decide ((2000 : Int) < (a.size : Int) + (b.size : Int)) = false := decide_eq_false (by omega)
  have hem := ba_isEmpty a h0
  have hnn := ba_notnil a h0
  have hsz : (a ++ b).size ≤ 50000 := by rw [Lib.size_eq, app_toList, List.length_append, ba_len, ba_len]; omega
  have r1 := fun w hE => readLoop a w (by omega) hE
  have r2 := fun w hE => readLoop b w (by omega) hE
  have r3 := fun w hE => readLoop (a ++ b) w hsz hE
  rw [hx] at r1
  rw [hy] at r2
  rw [hz] at r3
  have fx := Lx.read_few _ _ hx
  have hm := Lx.read_err _ _ hy
  have bm : ((m : Int) != 0) = true := bne_iff_ne.2 (by omega)
  rw [ba_len] at fx
  have R1 := Lib.hid r1
  have R2 := Lib.hid r2
  have R3 := Lib.hid r3
  have HE := Lib.hid hE
  have FX := Lib.hid fx
  clear r1 r2 r3 hx hy hz fx hm hE hsuf hsz
  have hxl := FX.out.1
  go_enter Tryz.func3, Tryz.ntmps3
  go_upto_region 10 with (first
    | (go_at_call 8; refine cA.out.mono ?_; rintro e w1 ⟨rfl, hb1⟩)
    | (go_at_call 9; refine (cS.out _).mono ?_; rintro e w' ⟨rfl, rfl⟩)
    | (go_at_call 10; go_fit (R1.out _ (HE.out.below hb1)); rintro e w2 ⟨⟨v, rfl, hv⟩, hb2⟩; obtain ⟨va, vc, rfl⟩ := hv.form; have HV := Lib.hid hv; clear hv; have R2' := Lib.hid (R2.out w2 (HE.out.below (bthen hb1 hb2))))
    | (go_at_call 10; go_fit R2'.out; rintro e w3 ⟨hq3, hb3⟩; obtain rfl := hq3; have R3' := Lib.hid (R3.out w3 (HE.out.below (bthen (bthen hb1 hb2) hb3))))
    | (go_at_call 10; go_fit R3'.out; rintro e w4 ⟨hq4, hb4⟩; obtain rfl := hq4))
  clear cA cS R1 R2 R3 R2' R3'
  have hb24 := bthen hb3 hb4
  have hb14 := bthen hb2 hb24
  have HV4 := Lib.hid (HV.out.below hb24)
  rcases Nat.eq_zero_or_pos xs.length with hx0 | hx0
  · obtain rfl : xs = [] := List.length_eq_zero_iff.1 hx0
    clear hx0
    go_wp2
    go_ret
    exact ⟨rfl, bthen hb1 hb14⟩
  · obtain ⟨g, cc, e, hcc, hg, hcl⟩ := HV4.out.cells hx0
    cases e
    obtain ⟨_, _, ⟨wa, wc, c2, ow⟩, _⟩ := hcl (xs.length - 1) (by omega)
    have hlb : Lx.lastBar (xs[xs.length - 1]'(by omega)).words = false := by
      unfold Lx.Open at ho
      rw [List.getLast?_eq_getElem?, List.getElem?_eq_getElem (by omega)] at ho
      exact ho
    clear hcl
    generalize (xs[xs.length - 1]'(by omega)).words = W at *
    have i1 : (1 : Int) ≤ (xs.length : Int) := by omega
    have i2 : (0 : Int) ≤ (xs.length : Int) - 1 := by omega
    have i3 : ((xs.length : Int) - 1).toNat = xs.length - 1 := by omega
    have i4 : (xs.length : Int) - 1 < (xs.length : Int) := by omega
    have i5 : decide ((0 : Int) < (xs.length : Int)) = true := decide_eq_true (by omega)
    have hwl := own_len ow
    rcases Nat.eq_zero_or_pos W.length with hw0 | hw0
    · obtain rfl : W = [] := List.length_eq_zero_iff.1 hw0
      clear hw0 ow hlb
      change w4.cell? ⟨g, (xs.length - 1) * 4 + 2, none⟩ = some (.slice wa 0 wc) at c2
      go_wp2
      go_ret
      exact ⟨rfl, bthen hb1 hb14⟩
    · obtain ⟨_, hwc, gw, rfl, hgw, hcw⟩ := OwnW.cells ow hw0
      have d0 := (hcw (W.length - 1) (by omega)).1
      have hk13 : (((W[W.length - 1]'(by omega)).kind : Int) == 13) = false := by
        unfold Lx.lastBar at hlb
        rw [List.getLast?_eq_getElem?, List.getElem?_eq_getElem (by omega)] at hlb
        exact beq_eq_false_iff_ne.2 (by have := of_decide_eq_false hlb; omega)
      generalize (W[W.length - 1]'(by omega)).kind = K at *
      clear hcw hlb ow
      have j1 : (1 : Int) ≤ (W.length : Int) := by omega
      have j2 : (0 : Int) ≤ (W.length : Int) - 1 := by omega
      have j3 : ((W.length : Int) - 1).toNat = W.length - 1 := by omega
      have j4 : (W.length : Int) - 1 < (W.length : Int) := by omega
      have j5 : decide ((0 : Int) < (W.length : Int)) = true := decide_eq_true (by omega)
      go_wp2
      go_ret
      exact ⟨rfl, bthen hb1 hb14⟩

set_option maxHeartbeats 4000000 in
set_option maxRecDepth 100000 in
theorem parts_bad0 (a b : ByteArray) (w : World) (hs : a.size + b.size ≤ 2000) (hE : Env w) (h0 : a.size = 0) (xs : List Lx.Ln) (m : Nat) (hx : Lx.read a.data.toList = .ok xs) (hy : Lx.read b.data.toList = .error m)
    (hz : Lx.read (a ++ b).data.toList = .error m) (ho : Lx.Open xs = false) :
    Calls Tryz.prog 3 #[.string a, .string b] w fun e w' => e = .returned (.bool true) ∧ Below w.heap.size w w' := by
  have cA := Lib.hid (alive_any w hE)
  have b1 : decide ((2000 : Int) < (a.size : Int) + (b.size : Int)) = false := decide_eq_false (by omega)
  have hem : a.toList.isEmpty = true := by rw [Lib.toList_data, ba_zero a h0]; rfl
  have hnn : a.toList = [] := by rw [Lib.toList_data, ba_zero a h0]
  have hsz : (a ++ b).size ≤ 50000 := by rw [Lib.size_eq, app_toList, List.length_append, ba_len, ba_len]; omega
  have r1 := fun w hE => readLoop a w (by omega) hE
  have r2 := fun w hE => readLoop b w (by omega) hE
  have r3 := fun w hE => readLoop (a ++ b) w hsz hE
  rw [hx] at r1
  rw [hy] at r2
  rw [hz] at r3
  have fx := Lx.read_few _ _ hx
  have hm := Lx.read_err _ _ hy
  have bm : ((m : Int) != 0) = true := bne_iff_ne.2 (by omega)
  rw [ba_len] at fx
  have R1 := Lib.hid r1
  have R2 := Lib.hid r2
  have R3 := Lib.hid r3
  have HE := Lib.hid hE
  have FX := Lib.hid fx
  clear r1 r2 r3 hx hy hz fx hm hE hsz
  have hxl := FX.out.1
  go_enter Tryz.func3, Tryz.ntmps3
  go_upto_region 10 with (first
    | (go_at_call 8; refine cA.out.mono ?_; rintro e w1 ⟨rfl, hb1⟩)
    | (go_at_call 10; go_fit (R1.out _ (HE.out.below hb1)); rintro e w2 ⟨⟨v, rfl, hv⟩, hb2⟩; obtain ⟨va, vc, rfl⟩ := hv.form; have HV := Lib.hid hv; clear hv; have R2' := Lib.hid (R2.out w2 (HE.out.below (bthen hb1 hb2))))
    | (go_at_call 10; go_fit R2'.out; rintro e w3 ⟨hq3, hb3⟩; obtain rfl := hq3; have R3' := Lib.hid (R3.out w3 (HE.out.below (bthen (bthen hb1 hb2) hb3))))
    | (go_at_call 10; go_fit R3'.out; rintro e w4 ⟨hq4, hb4⟩; obtain rfl := hq4))
  clear cA R1 R2 R3 R2' R3'
  have hb24 := bthen hb3 hb4
  have hb14 := bthen hb2 hb24
  have HV4 := Lib.hid (HV.out.below hb24)
  rcases Nat.eq_zero_or_pos xs.length with hx0 | hx0
  · obtain rfl : xs = [] := List.length_eq_zero_iff.1 hx0
    clear hx0
    go_wp2
    go_ret
    exact ⟨rfl, bthen hb1 hb14⟩
  · obtain ⟨g, cc, e, hcc, hg, hcl⟩ := HV4.out.cells hx0
    cases e
    obtain ⟨_, _, ⟨wa, wc, c2, ow⟩, _⟩ := hcl (xs.length - 1) (by omega)
    have hlb : Lx.lastBar (xs[xs.length - 1]'(by omega)).words = false := by
      unfold Lx.Open at ho
      rw [List.getLast?_eq_getElem?, List.getElem?_eq_getElem (by omega)] at ho
      exact ho
    clear hcl
    generalize (xs[xs.length - 1]'(by omega)).words = W at *
    have i1 : (1 : Int) ≤ (xs.length : Int) := by omega
    have i2 : (0 : Int) ≤ (xs.length : Int) - 1 := by omega
    have i3 : ((xs.length : Int) - 1).toNat = xs.length - 1 := by omega
    have i4 : (xs.length : Int) - 1 < (xs.length : Int) := by omega
    have i5 : decide ((0 : Int) < (xs.length : Int)) = true := decide_eq_true (by omega)
    have hwl := own_len ow
    rcases Nat.eq_zero_or_pos W.length with hw0 | hw0
    · obtain rfl : W = [] := List.length_eq_zero_iff.1 hw0
      clear hw0 ow hlb
      change w4.cell? ⟨g, (xs.length - 1) * 4 + 2, none⟩ = some (.slice wa 0 wc) at c2
      go_wp2
      go_ret
      exact ⟨rfl, bthen hb1 hb14⟩
    · obtain ⟨_, hwc, gw, rfl, hgw, hcw⟩ := OwnW.cells ow hw0
      have d0 := (hcw (W.length - 1) (by omega)).1
      have hk13 : (((W[W.length - 1]'(by omega)).kind : Int) == 13) = false := by
        unfold Lx.lastBar at hlb
        rw [List.getLast?_eq_getElem?, List.getElem?_eq_getElem (by omega)] at hlb
        exact beq_eq_false_iff_ne.2 (by have := of_decide_eq_false hlb; omega)
      generalize (W[W.length - 1]'(by omega)).kind = K at *
      clear hcw hlb ow
      have j1 : (1 : Int) ≤ (W.length : Int) := by omega
      have j2 : (0 : Int) ≤ (W.length : Int) - 1 := by omega
      have j3 : ((W.length : Int) - 1).toNat = W.length - 1 := by omega
      have j4 : (W.length : Int) - 1 < (W.length : Int) := by omega
      have j5 : decide ((0 : Int) < (W.length : Int)) = true := decide_eq_true (by omega)
      go_wp2
      go_ret
      exact ⟨rfl, bthen hb1 hb14⟩

set_option maxHeartbeats 4000000 in
set_option maxRecDepth 100000 in
theorem parts_err (a b : ByteArray) (w : World) (hs : a.size + b.size ≤ 2000) (hE : Env w) (h0 : 0 < a.size) (hsuf : Lib.hasSuffix a.data.toList [10] = true) (m : Nat) (hx : Lx.read a.data.toList = .error m)
    (hz : Lx.read (a ++ b).data.toList = .error m) :
    Calls Tryz.prog 3 #[.string a, .string b] w fun e w' => e = .returned (.bool true) ∧ Below w.heap.size w w' := by
  have cA := Lib.hid (alive_any w hE)
  have cS : Hid (∀ w, Calls Tryz.prog 9 #[.string a, .string ⟨#[10]⟩] w fun e w' => e = .returned (.bool true) ∧ w = w') := fun w => by
    have h0 := suf_any a ⟨#[10]⟩ w (by omega)
    rw [show (⟨#[10]⟩ : ByteArray).data.toList = [10] from rfl, hsuf] at h0
    exact h0
  have b1 : decide ((2000 : Int) < (a.size : Int) + (b.size : Int)) = false := decide_eq_false (by omega)
  have hem := ba_isEmpty a h0
  have hnn := ba_notnil a h0
  have hsz : (a ++ b).size ≤ 50000 := by rw [Lib.size_eq, app_toList, List.length_append, ba_len, ba_len]; omega
  have r1 := fun w hE => readLoop a w (by omega) hE
  have r2 := fun w hE => readLoop b w (by omega) hE
  have r3 := fun w hE => readLoop (a ++ b) w hsz hE
  rw [hx] at r1
  rw [hz] at r3
  have hm := Lx.read_err _ _ hx
  have bm : ((m : Int) != 0) = true := bne_iff_ne.2 (by omega)
  have R1 := Lib.hid r1
  have R2 := Lib.hid r2
  have R3 := Lib.hid r3
  have HE := Lib.hid hE
  clear r1 r2 r3 hx hz hm hE hsuf hsz
  go_enter Tryz.func3, Tryz.ntmps3
  go_wp2_with (first
    | (go_at_call 8; refine cA.out.mono ?_; rintro e w1 ⟨rfl, hb1⟩)
    | (go_at_call 9; refine (cS.out _).mono ?_; rintro e w' ⟨rfl, rfl⟩)
    | (go_at_call 10; go_fit (R1.out _ (HE.out.below hb1)); rintro e w2 ⟨hq2, hb2⟩; obtain rfl := hq2; have R2' := Lib.hid (R2.out w2 (HE.out.below (bthen hb1 hb2))))
    | (go_at_call 10; go_fit R2'.out; rintro e w3 ⟨hq3, hb3⟩; obtain ⟨ya, yn, yc, ym, rfl⟩ := readR_some hq3; have R3' := Lib.hid (R3.out w3 (HE.out.below (bthen (bthen hb1 hb2) hb3))))
    | (go_at_call 10; go_fit R3'.out; rintro e w4 ⟨hq4, hb4⟩; obtain rfl := hq4))
  go_ret
  exact ⟨rfl, bthen (bthen (bthen hb1 hb2) hb3) hb4⟩

set_option maxHeartbeats 4000000 in
set_option maxRecDepth 100000 in
theorem parts_open (a b : ByteArray) (w : World) (hs : a.size + b.size ≤ 2000) (hE : Env w) (h0 : 0 < a.size) (hsuf : Lib.hasSuffix a.data.toList [10] = true) (xs : List Lx.Ln) (hx : Lx.read a.data.toList = .ok xs) (ho : Lx.Open xs = true) :
    Calls Tryz.prog 3 #[.string a, .string b] w fun e w' => e = .returned (.bool true) ∧ Below w.heap.size w w' := by
  have cA := Lib.hid (alive_any w hE)
  have cS : Hid (∀ w, Calls Tryz.prog 9 #[.string a, .string ⟨#[10]⟩] w fun e w' => e = .returned (.bool true) ∧ w = w') := fun w => by
    have h0 := suf_any a ⟨#[10]⟩ w (by omega)
    rw [show (⟨#[10]⟩ : ByteArray).data.toList = [10] from rfl, hsuf] at h0
    exact h0
  have b1 : decide ((2000 : Int) < (a.size : Int) + (b.size : Int)) = false := decide_eq_false (by omega)
  have hem := ba_isEmpty a h0
  have hnn := ba_notnil a h0
  have hsz : (a ++ b).size ≤ 50000 := by rw [Lib.size_eq, app_toList, List.length_append, ba_len, ba_len]; omega
  have r1 := fun w hE => readLoop a w (by omega) hE
  have r2 := fun w hE => readLoop b w (by omega) hE
  have r3 := fun w hE => readLoop (a ++ b) w hsz hE
  rw [hx] at r1
  have fx := Lx.read_few _ _ hx
  rw [ba_len] at fx
  have R1 := Lib.hid r1
  have R2 := Lib.hid r2
  have R3 := Lib.hid r3
  have HE := Lib.hid hE
  have FX := Lib.hid fx
  clear r1 r2 r3 hx fx hE hsuf hsz
  have hxl := FX.out.1
  go_enter Tryz.func3, Tryz.ntmps3
  go_upto_region 10 with (first
    | (go_at_call 8; refine cA.out.mono ?_; rintro e w1 ⟨rfl, hb1⟩)
    | (go_at_call 9; refine (cS.out _).mono ?_; rintro e w' ⟨rfl, rfl⟩)
    | (go_at_call 10; go_fit (R1.out _ (HE.out.below hb1)); rintro e w2 ⟨⟨v, rfl, hv⟩, hb2⟩; obtain ⟨va, vc, rfl⟩ := hv.form; have HV := Lib.hid hv; clear hv; have R2' := Lib.hid (R2.out w2 (HE.out.below (bthen hb1 hb2))))
    | (go_at_call 10; go_fit R2'.out; rintro e w3 ⟨hq3, hb3⟩; obtain ⟨ya, yn, yc, ym, rfl⟩ := readR_some hq3; have R3' := Lib.hid (R3.out w3 (HE.out.below (bthen (bthen hb1 hb2) hb3))))
    | (go_at_call 10; go_fit R3'.out; rintro e w4 ⟨hq4, hb4⟩; obtain ⟨za, zn, zc, zm, rfl⟩ := readR_some hq4))
  clear cA cS R1 R2 R3 R2' R3'
  have hb24 := bthen hb3 hb4
  have hb14 := bthen hb2 hb24
  have HV4 := Lib.hid (HV.out.below hb24)
  have hx0 : 0 < xs.length := by
    cases xs with
    | nil => cases ho
    | cons x t => simp
  obtain ⟨g, cc, e, hcc, hg, hcl⟩ := HV4.out.cells hx0
  cases e
  obtain ⟨_, _, ⟨wa, wc, c2, ow⟩, _⟩ := hcl (xs.length - 1) (by omega)
  have hlb : Lx.lastBar (xs[xs.length - 1]'(by omega)).words = true := by
    unfold Lx.Open at ho
    rw [List.getLast?_eq_getElem?, List.getElem?_eq_getElem (by omega)] at ho
    exact ho
  clear hcl
  generalize (xs[xs.length - 1]'(by omega)).words = W at *
  have i1 : (1 : Int) ≤ (xs.length : Int) := by omega
  have i2 : (0 : Int) ≤ (xs.length : Int) - 1 := by omega
  have i3 : ((xs.length : Int) - 1).toNat = xs.length - 1 := by omega
  have i4 : (xs.length : Int) - 1 < (xs.length : Int) := by omega
  have i5 : decide ((0 : Int) < (xs.length : Int)) = true := decide_eq_true (by omega)
  have hwl := own_len ow
  have hw0 : 0 < W.length := by
    cases W with
    | nil => cases hlb
    | cons x t => simp
  obtain ⟨_, hwc, gw, rfl, hgw, hcw⟩ := OwnW.cells ow hw0
  have d0 := (hcw (W.length - 1) (by omega)).1
  have hk13 : (((W[W.length - 1]'(by omega)).kind : Int) == 13) = true := by
    unfold Lx.lastBar at hlb
    rw [List.getLast?_eq_getElem?, List.getElem?_eq_getElem (by omega)] at hlb
    exact beq_iff_eq.2 (by have := of_decide_eq_true hlb; omega)
  generalize (W[W.length - 1]'(by omega)).kind = K at *
  clear hcw hlb ow
  have j1 : (1 : Int) ≤ (W.length : Int) := by omega
  have j2 : (0 : Int) ≤ (W.length : Int) - 1 := by omega
  have j3 : ((W.length : Int) - 1).toNat = W.length - 1 := by omega
  have j4 : (W.length : Int) - 1 < (W.length : Int) := by omega
  have j5 : decide ((0 : Int) < (W.length : Int)) = true := decide_eq_true (by omega)
  go_wp2
  go_ret
  exact ⟨rfl, bthen hb1 hb14⟩

theorem last_suffix (t : List UInt8) (h : Lib.hasSuffix t [10] = true) : t.getLast? = some 10 := by
  unfold Lib.hasSuffix at h
  rw [List.isSuffixOf_iff_suffix] at h
  obtain ⟨c, rfl⟩ := h
  simp

set_option maxHeartbeats 4000000 in
set_option maxRecDepth 100000 in
theorem parts_walk (a b : ByteArray) (w : World) (ha : a.size ≤ 140737488355328) (hb : b.size ≤ 140737488355328) (hE : Env w) :
    Calls Tryz.prog 3 #[.string a, .string b] w fun e w' => e = .returned (.bool true) ∧ Below w.heap.size w w' := by
  have cA := Lib.hid (alive_any w hE)
  by_cases hbig : 2000 < a.size + b.size
  · have b1 : decide ((2000 : Int) < (a.size : Int) + (b.size : Int)) = true := decide_eq_true (by omega)
    clear hE
    go_enter Tryz.func3, Tryz.ntmps3
    go_wp2_with (go_at_call 8; refine cA.out.mono ?_; rintro e w1 ⟨rfl, hb1⟩)
    go_ret
    exact ⟨rfl, hb1⟩
  · have hs : a.size + b.size ≤ 2000 := by omega
    have rest : ∀ (xs : List Lx.Ln), Lx.read a.data.toList = .ok xs → Lx.Open xs = false → (a.data.toList = [] ∨ a.data.toList.getLast? = some 10) → Lx.read (a ++ b).data.toList = Lx.joinL xs (Lx.read b.data.toList) := fun xs hx ho hc => by
      rw [app_toList]; exact (Lx.read_parts a.data.toList b.data.toList hc).2 xs hx ho
    rcases Nat.eq_zero_or_pos a.size with h0 | h0
    · have hnil : a.data.toList = [] := by rw [ba_zero a h0]
      have hx : Lx.read a.data.toList = .ok [] := by rw [hnil]; exact Lx.rd_empty
      have hz := rest [] hx rfl (.inl hnil)
      cases hy : Lx.read b.data.toList with
      | error m => rw [hy] at hz; exact parts_bad0 a b w hs hE h0 [] m hx hy hz rfl
      | ok ys => rw [hy] at hz; exact parts_good0 a b w hs hE h0 [] ys hx hy hz rfl
    · cases hsuf : Lib.hasSuffix a.data.toList [10] with
      | false =>
        have cS : Hid (∀ w, Calls Tryz.prog 9 #[.string a, .string ⟨#[10]⟩] w fun e w' => e = .returned (.bool false) ∧ w = w') := fun w => by
          have h0 := suf_any a ⟨#[10]⟩ w (by omega)
          rw [show (⟨#[10]⟩ : ByteArray).data.toList = [10] from rfl, hsuf] at h0
          exact h0
        have b1 : decide ((2000 : Int) < (a.size : Int) + (b.size : Int)) = false := decide_eq_false (by omega)
        have hem := ba_isEmpty a h0
        have hnn := ba_notnil a h0
        clear hE rest hsuf
        go_enter Tryz.func3, Tryz.ntmps3
        go_wp2_with (first
          | (go_at_call 8; refine cA.out.mono ?_; rintro e w1 ⟨rfl, hb1⟩)
          | (go_at_call 9; refine (cS.out _).mono ?_; rintro e w' ⟨rfl, rfl⟩))
        go_ret
        exact ⟨rfl, hb1⟩
      | true =>
        have hc := last_suffix _ hsuf
        cases hx : Lx.read a.data.toList with
        | error m => exact parts_err a b w hs hE h0 hsuf m hx (by rw [app_toList]; exact (Lx.read_parts a.data.toList b.data.toList (.inr hc)).1 m hx)
        | ok xs =>
          cases ho : Lx.Open xs with
          | true => exact parts_open a b w hs hE h0 hsuf xs hx ho
          | false =>
            have hz := rest xs hx ho (.inr hc)
            cases hy : Lx.read b.data.toList with
            | error m => rw [hy] at hz; exact parts_bad a b w hs hE h0 hsuf xs m hx hy hz ho
            | ok ys => rw [hy] at hz; exact parts_good a b w hs hE h0 hsuf xs ys hx hy hz ho
end Go.Proofs.YtmhakkahclbbjaaGreatDoor
