/-
  The walk of ParseDocuments.
-/
import Derived.Test.YtjcfmghijfnehaaGreatDoorDa
import Derived.Test.YtjcfmghijfnehaaGreatDoorEy
import Derived.Test.YtjcfmghijfnehaaGreatDoorKi
namespace Go.Proofs.YtjcfmghijfnehaaGreatDoor
open Go.RowKit
theorem textR_some {B : Nat} {r : Except Nat (List Ev.E)} {e : Ending} {w : World} (h : TextR B r e w) : ∃ a n c, ∃ m : Int, e = .returned (.tuple #[.slice a n c, .int .i64 m]) := by
  cases r with
  | error n => exact ⟨none, 0, 0, n, h⟩
  | ok ls =>
    obtain ⟨v, rfl, h2⟩ := h
    obtain ⟨a, c, rfl⟩ := own_slice h2
    exact ⟨a, ls.length, c, 0, rfl⟩
theorem textR_err {B n : Nat} {e : Ending} {w : World} (h : TextR B (.error n) e w) : e = .returned (.tuple #[.slice none 0 0, .int .i64 n]) := h
theorem textR_ok {B : Nat} {es : List Ev.E} {e : Ending} {w : World} (h : TextR B (.ok es) e w) : ∃ a c, e = .returned (.tuple #[.slice a es.length c, .int .i64 0]) ∧ OwnE w B (.slice a es.length c) es := by
  obtain ⟨v, rfl, h2⟩ := h
  obtain ⟨a, c, rfl⟩ := own_slice h2
  exact ⟨a, c, rfl, h2⟩
theorem bel_drewN' {B : Nat} {a w : World} (h : Below B a w) (n : Nat) : Below B a (w.drewN n) := ⟨h.os, h.tape, h.output, h.size, h.block⟩
/-- the text of two, with a mark between -/
def both (a b : ByteArray) : ByteArray := (a ++ (⟨#[10, 46, 46, 46, 10]⟩ : ByteArray)) ++ b
theorem both_data (a b : ByteArray) : (both a b).data.toList = a.data.toList ++ [10, 46, 46, 46, 10] ++ b.data.toList := by
  unfold both
  rw [Tag.app_data, Tag.app_data]
theorem both_size (a b : ByteArray) : (both a b).size = a.size + 5 + b.size := by
  rw [Lib.size_eq, both_data, List.length_append, List.length_append, ba_len, ba_len]; rfl

set_option maxHeartbeats 4000000 in
set_option maxRecDepth 100000 in
theorem docs_good (a b : ByteArray) (w : World) (hs : a.size + b.size ≤ 2000) (hE : Env w) (xs ys zs : List Ev.E) (hx : Px.text a.data.toList = .ok xs) (hy : Px.text b.data.toList = .ok ys)
    (hz : Px.text (both a b).data.toList = .ok zs) (hzs : xs ++ ys = zs) :
    Calls Tryz.prog 5 #[.string a, .string b] w fun e w' => e = .returned (.bool true) ∧ Below w.heap.size w w' := by
  have cA := Lib.hid (palive_any w hE)
  have b1 : decide ((2000 : Int) < (a.size : Int) + (b.size : Int)) = false := decide_eq_false (by omega)
  have r1 := fun w hE => textP_any a w (by omega) hE
  have r2 := fun w hE => textP_any b w (by omega) hE
  have r3 := fun w hE => textP_any (both a b) w (by rw [both_size]; omega) hE
  rw [hx] at r1
  rw [hy] at r2
  rw [hz] at r3
  have lx := Px.text_len _ _ hx
  have ly := Px.text_len _ _ hy
  have lz := Px.text_len _ _ hz
  rw [ba_len] at lx ly
  rw [ba_len, both_size] at lz
  unfold both at r3
  have R1 := Lib.hid r1
  have R2 := Lib.hid r2
  have R3 := Lib.hid r3
  have HE := Lib.hid hE
  have HZS := Lib.hid hzs
  clear r1 r2 r3 hx hy hz hE hzs
  go_enter Tryz.func5, Tryz.ntmps5
  go_wp2_with (first
    | (go_at_call 10; refine cA.out.mono ?_; rintro e w1 ⟨rfl, hb1⟩; have R1' := Lib.hid (R1.out w1 (HE.out.below hb1)))
    | (go_at_call 11; go_fit R1'.out; rintro e w2 ⟨hq, hb2⟩; obtain ⟨va, vc, rfl, hv⟩ := textR_ok hq; have HV := Lib.hid hv; clear hv hq; have hb12 := bthen hb1 hb2; have R2' := Lib.hid (R2.out w2 (HE.out.below hb12)))
    | (go_at_call 11; go_fit R2'.out; rintro e w3 ⟨hq, hb3⟩; obtain ⟨ua, uc, rfl, hu⟩ := textR_ok hq; have HU := Lib.hid hu; clear hu hq; have hb13 := bthen hb12 hb3; have R3' := Lib.hid (R3.out w3 (HE.out.below hb13)))
    | (go_at_call 11; go_fit R3'.out; rintro e w4 ⟨hq, hb4⟩; obtain ⟨za, zc, rfl, hz⟩ := textR_ok hq; have hb14 := bthen hb13 hb4; have HV4 := Lib.hid (HV.out.below (bthen hb3 hb4)); have HU4 := Lib.hid (HU.out.below hb4); have CZ := Lib.hid (ours_any _ zs w4 (rowE_rd hz) (by omega)); clear hz hq)
    | (go_at_call 15; go_fit CZ.out; rintro e w5 ⟨⟨p, rfl, hp⟩, hb5⟩; obtain ⟨pa, pc, rfl⟩ := own_slice hp; have HP := Lib.hid hp; clear hp; have CX := Lib.hid (ours_any _ xs w5 (rowE_rd (HV4.out.below hb5)) (by omega)))
    | (go_at_call 15; go_fit CX.out; rintro e w6 ⟨⟨q, rfl, hq⟩, hb6⟩; obtain ⟨qa, qc, rfl⟩ := own_slice hq; have HQ := Lib.hid hq; clear hq; have CY := Lib.hid (ours_any _ ys w6 (rowE_rd (HU4.out.below (bthen hb5 hb6))) (by omega)))
    | (go_at_call 15; go_fit CY.out; rintro e w7 ⟨⟨r, rfl, hr⟩, hb7⟩; obtain ⟨ra, rc, rfl⟩ := own_slice hr; have HR := Lib.hid hr; clear hr; have hb57 := bthen hb6 hb7)
    | (at_builtin; refine wpList_appQ (by rfl) (.tmp 56) (.tmp 58) rfl w5.heap.size w6.heap.size _ _ xs ys rfl rfl (HQ.out.below hb7) HR.out (by omega) (by have := hb57.size; omega) ?_; intro v8 w8 hv8 hb8 hk8; rw [HZS.out] at hv8; obtain ⟨ga, gc, rfl⟩ := own_slice hv8; have CS := Lib.hid (sameE_any _ _ zs w8 (rowE_rd (HP.out.below (hb57.trans hb8))) (rowE_rd hv8) (by omega)); clear hv8 hk8)
    | (go_at_call 14; go_fit CS.out; rintro e w9 ⟨rfl, n9, rfl⟩))
  go_ret
  exact ⟨rfl, bel_drewN' (hb14.trans ((hb5.trans ((hb57.trans hb8).mono hb5.size)).mono hb14.size)) _⟩
set_option maxHeartbeats 4000000 in
set_option maxRecDepth 100000 in
theorem docs_bad1 (a b : ByteArray) (w : World) (hs : a.size + b.size ≤ 2000) (hE : Env w) (n m : Nat) (hx : Px.text a.data.toList = .error n) (hz : Px.text (both a b).data.toList = .error m) :
    Calls Tryz.prog 5 #[.string a, .string b] w fun e w' => e = .returned (.bool true) ∧ Below w.heap.size w w' := by
  have cA := Lib.hid (palive_any w hE)
  have b1 : decide ((2000 : Int) < (a.size : Int) + (b.size : Int)) = false := decide_eq_false (by omega)
  have r1 := fun w hE => textP_any a w (by omega) hE
  have r2 := fun w hE => textP_any b w (by omega) hE
  have r3 := fun w hE => textP_any (both a b) w (by rw [both_size]; omega) hE
  rw [hx] at r1
  rw [hz] at r3
  have hn := Px.text_er _ _ hx
  have hm := Px.text_er _ _ hz
  have bn : ((n : Int) != 0) = true := bne_iff_ne.2 (by omega)
  have bm : ((m : Int) != 0) = true := bne_iff_ne.2 (by omega)
  unfold both at r3
  have R1 := Lib.hid r1
  have R2 := Lib.hid r2
  have R3 := Lib.hid r3
  have HE := Lib.hid hE
  clear r1 r2 r3 hx hz hE hn hm
  go_enter Tryz.func5, Tryz.ntmps5
  go_wp2_with (first
    | (go_at_call 10; refine cA.out.mono ?_; rintro e w1 ⟨rfl, hb1⟩; have R1' := Lib.hid (R1.out w1 (HE.out.below hb1)))
    | (go_at_call 11; go_fit R1'.out; rintro e w2 ⟨hq, hb2⟩; obtain rfl := textR_err hq; clear hq; have hb12 := bthen hb1 hb2; have R2' := Lib.hid (R2.out w2 (HE.out.below hb12)))
    | (go_at_call 11; go_fit R2'.out; rintro e w3 ⟨hq, hb3⟩; obtain ⟨ua, un, uc, um, rfl⟩ := textR_some hq; clear hq; have hb13 := bthen hb12 hb3; have R3' := Lib.hid (R3.out w3 (HE.out.below hb13)))
    | (go_at_call 11; go_fit R3'.out; rintro e w4 ⟨hq, hb4⟩; obtain rfl := textR_err hq; clear hq; have hb14 := bthen hb13 hb4))
  go_ret
  exact ⟨rfl, hb14⟩
set_option maxHeartbeats 4000000 in
set_option maxRecDepth 100000 in
theorem docs_bad2 (a b : ByteArray) (w : World) (hs : a.size + b.size ≤ 2000) (hE : Env w) (n m : Nat) (xs : List Ev.E) (hx : Px.text a.data.toList = .ok xs) (hy : Px.text b.data.toList = .error n) (hz : Px.text (both a b).data.toList = .error m) :
    Calls Tryz.prog 5 #[.string a, .string b] w fun e w' => e = .returned (.bool true) ∧ Below w.heap.size w w' := by
  have cA := Lib.hid (palive_any w hE)
  have b1 : decide ((2000 : Int) < (a.size : Int) + (b.size : Int)) = false := decide_eq_false (by omega)
  have r1 := fun w hE => textP_any a w (by omega) hE
  have r2 := fun w hE => textP_any b w (by omega) hE
  have r3 := fun w hE => textP_any (both a b) w (by rw [both_size]; omega) hE
  rw [hx] at r1
  rw [hy] at r2
  rw [hz] at r3
  have hn := Px.text_er _ _ hy
  have hm := Px.text_er _ _ hz
  have bn : ((n : Int) != 0) = true := bne_iff_ne.2 (by omega)
  have bm : ((m : Int) != 0) = true := bne_iff_ne.2 (by omega)
  unfold both at r3
  have R1 := Lib.hid r1
  have R2 := Lib.hid r2
  have R3 := Lib.hid r3
  have HE := Lib.hid hE
  clear r1 r2 r3 hx hy hz hE hn hm
  go_enter Tryz.func5, Tryz.ntmps5
  go_wp2_with (first
    | (go_at_call 10; refine cA.out.mono ?_; rintro e w1 ⟨rfl, hb1⟩; have R1' := Lib.hid (R1.out w1 (HE.out.below hb1)))
    | (go_at_call 11; go_fit R1'.out; rintro e w2 ⟨hq, hb2⟩; obtain ⟨va, vc, rfl, _⟩ := textR_ok hq; clear hq; have hb12 := bthen hb1 hb2; have R2' := Lib.hid (R2.out w2 (HE.out.below hb12)))
    | (go_at_call 11; go_fit R2'.out; rintro e w3 ⟨hq, hb3⟩; obtain rfl := textR_err hq; clear hq; have hb13 := bthen hb12 hb3; have R3' := Lib.hid (R3.out w3 (HE.out.below hb13)))
    | (go_at_call 11; go_fit R3'.out; rintro e w4 ⟨hq, hb4⟩; obtain rfl := textR_err hq; clear hq; have hb14 := bthen hb13 hb4))
  go_ret
  exact ⟨rfl, hb14⟩
set_option maxHeartbeats 4000000 in
set_option maxRecDepth 100000 in
theorem docs_walk (a b : ByteArray) (w : World) (ha : a.size ≤ 140737488355328) (hb : b.size ≤ 140737488355328) (hE : Env w) :
    Calls Tryz.prog 5 #[.string a, .string b] w fun e w' => e = .returned (.bool true) ∧ Below w.heap.size w w' := by
  by_cases hbig : 2000 < a.size + b.size
  · have cA := Lib.hid (palive_any w hE)
    have b1 : decide ((2000 : Int) < (a.size : Int) + (b.size : Int)) = true := decide_eq_true (by omega)
    clear hE
    go_enter Tryz.func5, Tryz.ntmps5
    go_wp2_with (go_at_call 10; refine cA.out.mono ?_; rintro e w1 ⟨rfl, hb1⟩)
    go_ret
    exact ⟨rfl, hb1⟩
  · obtain ⟨h1, h2⟩ := Px.text_mark a.data.toList b.data.toList
    rw [← both_data] at h1 h2
    cases hx : Px.text a.data.toList with
    | error n =>
      obtain ⟨m, hz⟩ := h2 fun x y h => by rw [hx] at h; cases h.1
      exact docs_bad1 a b w (by omega) hE n m hx hz
    | ok xs =>
      cases hy : Px.text b.data.toList with
      | error n =>
        obtain ⟨m, hz⟩ := h2 fun x y h => by rw [hy] at h; cases h.2
        exact docs_bad2 a b w (by omega) hE n m xs hx hy hz
      | ok ys => exact docs_good a b w (by omega) hE xs ys _ hx hy (h1 xs ys hx hy) rfl
end Go.Proofs.YtjcfmghijfnehaaGreatDoor
