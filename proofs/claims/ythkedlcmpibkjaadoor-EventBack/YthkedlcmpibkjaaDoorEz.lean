/-
  The walk of EventBack.
-/
import Derived.Test.YthkedlcmpibkjaaDoorEy
namespace Go.Proofs.YthkedlcmpibkjaaDoor
open Go.RowKit
theorem parseR_none {B : Nat} {e : Ending} {w : World} (h : ParseR B none e w) : e = .returned (.tuple #[.slice none 0 0, .int .i64 5]) := h
theorem parseR_some {B : Nat} {e : Ending} {w : World} {es : List Ev.E} (h : ParseR B (some es) e w) : ∃ v, e = .returned (.tuple #[v, .int .i64 0]) ∧ OwnE w B v es := h
set_option maxHeartbeats 4000000 in
set_option maxRecDepth 100000 in
theorem back_any (v : Value) (es : List Ev.E) (s : ByteArray) (w : World) (hR : RdE w w.heap.size v es) (hl : es.length ≤ 9223372036854775807)
    (hS : ∀ x ∈ es, x.anchor.length ≤ 9223372036854775807 ∧ x.tag.length ≤ 9223372036854775807 ∧ x.text.length ≤ 9223372036854775807) (hs : s.size ≤ 9223372036854775807) (hE : Env w) :
    Calls Tryd.prog 4 #[v, .string s] w fun e w' => e = .returned (.bool true) ∧ Below w.heap.size w w' := by
  obtain ⟨l, rfl⟩ : ∃ l, s = str l := ⟨s.data.toList, (str_eq s).symm⟩
  have hsl := str_len l
  have HR := Lib.hid hR
  obtain ⟨aa, ac, rfl, hac, _⟩ := hR
  have cA := Lib.hid (alive_any w hE)
  have cH := Lib.hid (fun W (hb : Below w.heap.size w W) => heavy_any _ es W ((HR.out.below hb).mono hb.size) (by omega) hS)
  have HE := Lib.hid hE
  clear hS hE
  cases h1 : Ev.heavy es
  · rw [h1] at cH
    obtain ⟨lx, sx⟩ := Ev.light es h1
    have SX := Lib.hid (Ev.light_small es h1)
    have cT := Lib.hid (fun W (hb : Below w.heap.size w W) => theirs_any _ es W ((HR.out.below hb).mono hb.size) (by omega))
    have RX := Lib.hid (fun v W (h : RdE W W.heap.size v es) (hE : Env W) => right_any v es W h (by omega) SX.out hE)
    have PX := Lib.hid (fun v W (h : RdE W W.heap.size v es) (hE : Env W) => print_any v es W h (by omega) SX.out hE)
    have cO := Lib.hid (fun v W (h : RdE W W.heap.size v es) => ours_any v es W h (by omega))
    have cS := Lib.hid (fun v u W (h : RdE W W.heap.size v es) (h' : RdE W W.heap.size u es) => sameE_any v u es W h h' (by omega))
    by_cases hl3 : l.length ≤ 3000
    · have hlI : ¬ (3000 : Int) < ((str l).size : Int) := by rw [hsl]; omega
      have cP := Lib.hid (fun W (hE : Env W) => parse_any l W (by omega) (by have := Ev.linesF_len l.length l; omega) (Ev.fine_short l hl3) hE)
      have HPP := Lib.hid (Ev.print_parse l)
      have HPS := Lib.hid (Ev.parse_small l hl3)
      cases hrx : Ev.right es
      · have hp0 : Ev.print es = [] := by unfold Ev.print; rw [hrx]; rfl
        rw [hp0] at PX
        rw [hrx] at RX
        rw [str_nil] at PX
        clear hp0 hrx sx
        cases hps : Ev.parse l with
        | none =>
        rw [hps] at cP
        clear hps HPP HPS
        go_enter Tryd.func4, Tryd.ntmps4
        go_wp2_with (first
          | (go_at_call 8; refine cA.out.mono ?_; rintro e w1 ⟨rfl, hb1⟩)
          | (go_at_call 9; go_fit (cH.out _ hb1); rintro e w2 ⟨rfl, hb2⟩; have HB2 := Lib.hid (bthen hb1 hb2))
          | (go_at_call 10; go_fit (cT.out _ HB2.out); rintro e w3 ⟨⟨xv, rfl, hxo⟩, hb3⟩; obtain ⟨xa, xc, rfl⟩ := own_slice hxo; have HX3 := Lib.hid (rowE_rd hxo); have HB3 := Lib.hid (bthen HB2.out hb3); clear hxo)
          | (go_at_call 17; go_fit (PX.out _ _ HX3.out (HE.out.below HB3.out)); rintro e w4 ⟨rfl, hb4⟩; have HB4 := Lib.hid (bthen HB3.out hb4); have HX4 := Lib.hid ((HX3.out.below hb4).mono hb4.size))
          | (go_at_call 19; go_fit (cP.out _ (HE.out.below HB4.out)); rintro e w6 ⟨rfl, hb6⟩; have HB6 := Lib.hid (bthen HB4.out hb6); have HX6 := Lib.hid ((HX4.out.below hb6).mono hb6.size))
          | (go_at_call 11; go_fit (RX.out _ _ HX6.out (HE.out.below HB6.out)); rintro e w7 ⟨rfl, hb7⟩; have HB7 := Lib.hid (bthen HB6.out hb7)))
        go_ret
        exact ⟨rfl, HB7.out⟩
        | some ms =>
        rw [hps] at cP
        obtain ⟨hm1, hm2⟩ := HPS.out ms hps
        have PM := Lib.hid (fun v W (h : RdE W W.heap.size v ms) (hE : Env W) => print_any v ms W h (by omega) hm2 hE)
        rw [HPP.out ms hps] at PM
        clear hps HPP HPS hm2
        go_enter Tryd.func4, Tryd.ntmps4
        go_wp2_with (first
          | (go_at_call 8; refine cA.out.mono ?_; rintro e w1 ⟨rfl, hb1⟩)
          | (go_at_call 9; go_fit (cH.out _ hb1); rintro e w2 ⟨rfl, hb2⟩; have HB2 := Lib.hid (bthen hb1 hb2))
          | (go_at_call 10; go_fit (cT.out _ HB2.out); rintro e w3 ⟨⟨xv, rfl, hxo⟩, hb3⟩; obtain ⟨xa, xc, rfl⟩ := own_slice hxo; have HX3 := Lib.hid (rowE_rd hxo); have HB3 := Lib.hid (bthen HB2.out hb3); clear hxo)
          | (go_at_call 17; go_fit (PX.out _ _ HX3.out (HE.out.below HB3.out)); rintro e w4 ⟨rfl, hb4⟩; have HB4 := Lib.hid (bthen HB3.out hb4); have HX4 := Lib.hid ((HX3.out.below hb4).mono hb4.size))
          | (go_at_call 19; go_fit (cP.out _ (HE.out.below HB4.out)); rintro e w5 ⟨⟨mv, rfl, hmo⟩, hb5⟩; obtain ⟨ma, mc, rfl⟩ := own_slice hmo; have HM5 := Lib.hid (rowE_rd hmo); have HB5 := Lib.hid (bthen HB4.out hb5); have HX5 := Lib.hid ((HX4.out.below hb5).mono hb5.size); clear hmo)
          | (go_at_call 17; go_fit (PM.out _ _ HM5.out (HE.out.below HB5.out)); rintro e w6 ⟨rfl, hb6⟩; have HB6 := Lib.hid (bthen HB5.out hb6); have HX6 := Lib.hid ((HX5.out.below hb6).mono hb6.size))
          | (go_at_call 11; go_fit (RX.out _ _ HX6.out (HE.out.below HB6.out)); rintro e w7 ⟨rfl, hb7⟩; have HB7 := Lib.hid (bthen HB6.out hb7)))
        go_ret
        exact ⟨rfl, HB7.out⟩
      · have cQ := Lib.hid (fun W (hE : Env W) => parse_any (Ev.print es) W (by have := Ev.print_len es SX.out; omega) (by rw [Ev.print_lines es hrx, List.length_map]; omega) (Ev.fine_print es hrx sx) hE)
        rw [Ev.parse_print es hrx] at cQ
        rw [hrx] at RX
        clear hrx sx
        generalize Ev.print es = pr at *
        cases hps : Ev.parse l with
        | none =>
        rw [hps] at cP
        clear hps HPP HPS
        go_enter Tryd.func4, Tryd.ntmps4
        go_wp2_with (first
          | (go_at_call 8; refine cA.out.mono ?_; rintro e w1 ⟨rfl, hb1⟩)
          | (go_at_call 9; go_fit (cH.out _ hb1); rintro e w2 ⟨rfl, hb2⟩; have HB2 := Lib.hid (bthen hb1 hb2))
          | (go_at_call 10; go_fit (cT.out _ HB2.out); rintro e w3 ⟨⟨xv, rfl, hxo⟩, hb3⟩; obtain ⟨xa, xc, rfl⟩ := own_slice hxo; have HX3 := Lib.hid (rowE_rd hxo); have HB3 := Lib.hid (bthen HB2.out hb3); clear hxo)
          | (go_at_call 17; go_fit (PX.out _ _ HX3.out (HE.out.below HB3.out)); rintro e w4 ⟨rfl, hb4⟩; have HB4 := Lib.hid (bthen HB3.out hb4); have HX4 := Lib.hid ((HX3.out.below hb4).mono hb4.size))
          | (go_at_call 19; go_fit (cP.out _ (HE.out.below HB4.out)); rintro e w6 ⟨rfl, hb6⟩; have HB6 := Lib.hid (bthen HB4.out hb6); have HX6 := Lib.hid ((HX4.out.below hb6).mono hb6.size))
          | (go_at_call 11; go_fit (RX.out _ _ HX6.out (HE.out.below HB6.out)); rintro e w7 ⟨rfl, hb7⟩; have HB7 := Lib.hid (bthen HB6.out hb7))
          | (go_at_call 19; go_fit (cQ.out _ (HE.out.below HB7.out)); rintro e w8 ⟨⟨bv, rfl, hbo⟩, hb8⟩; obtain ⟨ba, bc, rfl⟩ := own_slice hbo; have HO8 := Lib.hid (rowE_rd hbo); have HB8 := Lib.hid (bthen HB7.out hb8); clear hbo)
          | (go_at_call 21; go_fit (cO.out _ _ HO8.out); rintro e w9 ⟨⟨ov, rfl, hoo⟩, hb9⟩; obtain ⟨oa, oc, rfl⟩ := own_slice hoo; have HO9 := Lib.hid (rowE_rd hoo); have HB9 := Lib.hid (bthen HB8.out hb9); have HL9 := Lib.hid ((HR.out.below HB9.out).mono HB9.out.size); clear hoo)
          | (go_at_call 20; go_fit (cS.out _ _ _ HO9.out HL9.out); rintro e w10 ⟨rfl, hb10⟩))
        go_ret
        exact ⟨rfl, bthen HB9.out (by obtain ⟨n, hn⟩ := hb10; exact below_same hn)⟩
        | some ms =>
        rw [hps] at cP
        obtain ⟨hm1, hm2⟩ := HPS.out ms hps
        have PM := Lib.hid (fun v W (h : RdE W W.heap.size v ms) (hE : Env W) => print_any v ms W h (by omega) hm2 hE)
        rw [HPP.out ms hps] at PM
        clear hps HPP HPS hm2
        go_enter Tryd.func4, Tryd.ntmps4
        go_wp2_with (first
          | (go_at_call 8; refine cA.out.mono ?_; rintro e w1 ⟨rfl, hb1⟩)
          | (go_at_call 9; go_fit (cH.out _ hb1); rintro e w2 ⟨rfl, hb2⟩; have HB2 := Lib.hid (bthen hb1 hb2))
          | (go_at_call 10; go_fit (cT.out _ HB2.out); rintro e w3 ⟨⟨xv, rfl, hxo⟩, hb3⟩; obtain ⟨xa, xc, rfl⟩ := own_slice hxo; have HX3 := Lib.hid (rowE_rd hxo); have HB3 := Lib.hid (bthen HB2.out hb3); clear hxo)
          | (go_at_call 17; go_fit (PX.out _ _ HX3.out (HE.out.below HB3.out)); rintro e w4 ⟨rfl, hb4⟩; have HB4 := Lib.hid (bthen HB3.out hb4); have HX4 := Lib.hid ((HX3.out.below hb4).mono hb4.size))
          | (go_at_call 19; go_fit (cP.out _ (HE.out.below HB4.out)); rintro e w5 ⟨⟨mv, rfl, hmo⟩, hb5⟩; obtain ⟨ma, mc, rfl⟩ := own_slice hmo; have HM5 := Lib.hid (rowE_rd hmo); have HB5 := Lib.hid (bthen HB4.out hb5); have HX5 := Lib.hid ((HX4.out.below hb5).mono hb5.size); clear hmo)
          | (go_at_call 17; go_fit (PM.out _ _ HM5.out (HE.out.below HB5.out)); rintro e w6 ⟨rfl, hb6⟩; have HB6 := Lib.hid (bthen HB5.out hb6); have HX6 := Lib.hid ((HX5.out.below hb6).mono hb6.size))
          | (go_at_call 11; go_fit (RX.out _ _ HX6.out (HE.out.below HB6.out)); rintro e w7 ⟨rfl, hb7⟩; have HB7 := Lib.hid (bthen HB6.out hb7))
          | (go_at_call 19; go_fit (cQ.out _ (HE.out.below HB7.out)); rintro e w8 ⟨⟨bv, rfl, hbo⟩, hb8⟩; obtain ⟨ba, bc, rfl⟩ := own_slice hbo; have HO8 := Lib.hid (rowE_rd hbo); have HB8 := Lib.hid (bthen HB7.out hb8); clear hbo)
          | (go_at_call 21; go_fit (cO.out _ _ HO8.out); rintro e w9 ⟨⟨ov, rfl, hoo⟩, hb9⟩; obtain ⟨oa, oc, rfl⟩ := own_slice hoo; have HO9 := Lib.hid (rowE_rd hoo); have HB9 := Lib.hid (bthen HB8.out hb9); have HL9 := Lib.hid ((HR.out.below HB9.out).mono HB9.out.size); clear hoo)
          | (go_at_call 20; go_fit (cS.out _ _ _ HO9.out HL9.out); rintro e w10 ⟨rfl, hb10⟩))
        go_ret
        exact ⟨rfl, bthen HB9.out (by obtain ⟨n, hn⟩ := hb10; exact below_same hn)⟩
    · have hlI : (3000 : Int) < ((str l).size : Int) := by rw [hsl]; omega
      go_enter Tryd.func4, Tryd.ntmps4
      go_wp2_with (first
        | (go_at_call 8; refine cA.out.mono ?_; rintro e w1 ⟨rfl, hb1⟩)
        | (go_at_call 9; go_fit (cH.out _ hb1); rintro e w2 ⟨rfl, hb2⟩; have HB2 := Lib.hid (bthen hb1 hb2)))
      go_ret
      exact ⟨rfl, HB2.out⟩
  · rw [h1] at cH
    go_enter Tryd.func4, Tryd.ntmps4
    go_wp2_with (first
      | (go_at_call 8; refine cA.out.mono ?_; rintro e w1 ⟨rfl, hb1⟩)
      | (go_at_call 9; go_fit (cH.out _ hb1); rintro e w2 ⟨rfl, hb2⟩; have HB2 := Lib.hid (bthen hb1 hb2)))
    go_ret
    exact ⟨rfl, HB2.out⟩
end Go.Proofs.YthkedlcmpibkjaaDoor
