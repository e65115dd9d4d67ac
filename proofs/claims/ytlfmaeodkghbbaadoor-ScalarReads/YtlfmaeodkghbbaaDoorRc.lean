/-
  Walks of the document's fits and Detect.
-/
import Derived.Test.YtlfmaeodkghbbaaDoorRb
import Derived.Test.YtlfmaeodkghbbaaDoorWh
namespace Go.Proofs.YtlfmaeodkghbbaaDoor
open Go.RowKit

def fit1 (b : UInt8) (y : Nat) : Bool := if y = 256 then !decide (b.toNat = 0) else if y < 256 then decide (b.toNat = y) else true
def fitGo : List UInt8 → List Nat → Bool
  | b :: l, y :: rs => fit1 b y && fitGo l rs
  | _, _ => true
def fitsB (l : List UInt8) (rs : List Nat) : Bool := if l.length < rs.length then false else fitGo l rs

set_option maxHeartbeats 2000000 in
set_option maxRecDepth 100000 in
theorem fits_any (a ar : Option Addr) (l : List UInt8) (rs : List Nat) (cap cr : Nat) (w : World) (hb : RdB w w.heap.size a l) (hr : RdI w w.heap.size ar rs) (hl : l.length ≤ 1000000) (hrl : rs.length ≤ 1000) (hy : ∀ y ∈ rs, y ≤ 256) :
    Calls Tryd.prog 80 #[.slice a l.length cap, .slice ar rs.length cr] w fun e w' => e = .returned (.bool (fitsB l rs)) ∧ Below w.heap.size w w' := by
  unfold fitsB
  by_cases hlt : l.length < rs.length
  · rw [if_pos hlt]
    clear hb hr hy
    go_enter Tryd.func80, Tryd.ntmps80
    go_wp2
    go_ret
    exact ⟨rfl, Below.refl _ _⟩
  · rw [if_neg hlt]
    obtain ⟨ANS, hANS⟩ : ∃ ANS, fitGo l rs = ANS := ⟨_, rfl⟩
    rw [hANS]
    have HA : Hid (fitGo (l.drop 0) (rs.drop 0) = ANS) := hANS
    clear hANS
    have HB := Lib.hid hb
    have HR := Lib.hid hr
    have HY := Lib.hid hy
    clear hb hr hy
    go_enter Tryd.func80, Tryd.ntmps80
    go_wp2
    go_loopw [5] (fun i wr => ∃ k : Nat, k ≤ rs.length ∧ i = .int .i64 k ∧ Below w.heap.size w wr ∧ Hid (fitGo (l.drop k) (rs.drop k) = ANS)) (fun i _ => rs.length - (intOf i).toNat)
    case atStart => exact ⟨0, by omega, rfl, Below.refl _ _, HA⟩
    case round =>
      obtain ⟨k, hk, rfl, hbw, HK⟩ := hrel
      clear HA
      by_cases hkl : k < rs.length
      · have hkb : k < l.length := by omega
        obtain ⟨g, off, rfl, hg, hcb⟩ := HB.out (by omega)
        obtain ⟨g', off', rfl, hg', hcr⟩ := HR.out (by omega)
        have c1 := (hbw.cell (p := ⟨g, off + k, none⟩) hg).trans (hcb k hkb)
        have c2 := (hbw.cell (p := ⟨g', off' + k, none⟩) hg').trans (hcr k hkl)
        have hy := HY.out _ (List.getElem_mem hkl)
        have hstep : fitGo (l.drop k) (rs.drop k) = (fit1 l[k] rs[k] && fitGo (l.drop (k + 1)) (rs.drop (k + 1))) := by
          rw [List.drop_eq_getElem_cons hkb, List.drop_eq_getElem_cons hkl]; rfl
        have HS := Lib.hid hstep
        clear hstep hcb hcr HB HR HY
        have hx := l[k].toNat_lt
        generalize l[k] = x at *
        generalize rs[k] = y at *
        have hw1 : IntKind.i64.wrap ((x.toNat : Nat) : Int) = (x.toNat : Int) := IntWalk.i64_in _ (by omega)
        have hki : (0 : Int) ≤ (k : Int) := by omega
        have hk1 : (k : Int) < (l.length : Int) := by omega
        have hk2 : (k : Int) < (rs.length : Int) := by omega
        have good : fit1 x y = true → Hid (fitGo (l.drop (k + 1)) (rs.drop (k + 1)) = ANS) := fun h => by
          have := HK.out; rw [HS.out, h, Bool.true_and] at this; exact this
        have bad : fit1 x y = false → Hid (ANS = false) := fun h => by
          have := HK.out; rw [HS.out, h, Bool.false_and] at this; exact this.symm
        clear HS HK
        by_cases y1 : y = 256
        · have e1 : ((y : Int) == 256) = true := beq_iff_eq.2 (by omega)
          have e2 : decide ((y : Int) < 256) = false := decide_eq_false (by omega)
          by_cases x1 : x.toNat = 0
          · have e3 : ((x.toNat : Int) == 0) = true := beq_iff_eq.2 (by omega)
            have HF := bad (by unfold fit1; rw [if_pos y1]; simp [x1])
            clear good bad y1 x1
            go_wp2
            go_quiet (fail)
            go_wp2
            go_ret
            rw [HF.out]
            exact ⟨rfl, below_drewN hbw _⟩
          · have e3 : ((x.toNat : Int) == 0) = false := beq_eq_false_iff_ne.2 (by omega)
            have HN := good (by unfold fit1; rw [if_pos y1]; simp [x1])
            clear good bad y1 x1
            go_wp2
            go_quiet (fail)
            go_wp2
            go_roundw
            case rel => exact ⟨k + 1, by omega, by go_num, below_drewN hbw _, HN⟩
            case measure => simp [intOf]; omega
        · have e1 : ((y : Int) == 256) = false := beq_eq_false_iff_ne.2 (by omega)
          have e2 : decide ((y : Int) < 256) = true := decide_eq_true (by omega)
          by_cases x1 : x.toNat = y
          · have e3 : ((x.toNat : Int) != (y : Int)) = false := by rw [x1]; simp
            have HN := good (by unfold fit1; rw [if_neg y1, if_pos (by omega)]; simp [x1])
            clear good bad y1 x1
            go_wp2
            go_quiet (fail)
            go_wp2
            go_roundw
            case rel => exact ⟨k + 1, by omega, by go_num, below_drewN hbw _, HN⟩
            case measure => simp [intOf]; omega
          · have e3 : ((x.toNat : Int) != (y : Int)) = true := bne_iff_ne.2 (by omega)
            have HF := bad (by unfold fit1; rw [if_neg y1, if_pos (by omega)]; simp [x1])
            clear good bad y1 x1
            go_wp2
            go_quiet (fail)
            go_wp2
            go_ret
            rw [HF.out]
            exact ⟨rfl, below_drewN hbw _⟩
      · have hA : ANS = true := by
          have := HK.out
          rw [show rs.drop k = [] from List.drop_eq_nil_iff.2 (by omega)] at this
          rw [← this]
          cases l.drop k <;> rfl
        clear HB HR HY HK
        go_wp2
        go_ret
        exact ⟨ret_bool hA.symm, hbw⟩

/-- fits at a row of constants that was just laid -/
theorem fits_at (a : Option Addr) (l : List UInt8) (rs : List Nat) (cap : Nat) (w0 : World) (C : Array Value) (n : Nat) (hC : C = (rs.map fun (r : Nat) => Value.int .i64 (r : Int)).toArray) (hn : n = rs.length) (hb : RdB w0 w0.heap.size a l) (hl : l.length ≤ 1000000) (hrl : rs.length ≤ 1000) (hy : ∀ y ∈ rs, y ≤ 256) (b : Bool) (hres : fitsB l rs = b) :
    Calls Tryd.prog 80 #[.slice a l.length cap, .slice (some ⟨w0.heap.size, 0, none⟩) n n] (w0.alloc (.cells C 3)) fun e w' => e = .returned (.bool b) ∧ Below w0.heap.size w0 w' := by
  subst hC hn hres
  have hal : Below w0.heap.size w0 (w0.alloc (.cells (rs.map fun (r : Nat) => Value.int .i64 (r : Int)).toArray 3)) := (Below.refl _ _).alloc (Nat.le_refl _) _
  refine (fits_any a _ l rs cap _ _ ((hb.below hal).more hal.size) (fun h0 => ⟨w0.heap.size, 0, rfl, by rw [World.size_alloc]; omega, fun j hj => ?_⟩) hl hrl hy).mono ?_
  · have := cells_of_new w0 3 (rs.map fun (r : Nat) => Value.int .i64 (r : Int)) j (.int .i64 (rs[j] : Nat)) (by simp [hj])
    have e : (⟨w0.heap.size, 0, none⟩ : Addr).add j = ⟨w0.heap.size, 0 + j, none⟩ := by unfold Addr.add; split <;> simp_all
    rw [e] at this
    exact this
  · rintro e w' ⟨rfl, hb'⟩
    exact ⟨rfl, hal.trans (hb'.mono hal.size)⟩

theorem fits_1 (a : Option Addr) (L : List UInt8) (cap : Nat) (w0 : World) (hb : RdB w0 w0.heap.size a L) (hl : L.length ≤ 1000000) (h : fitsB L [0, 0, 254, 255] = false) :
    Calls Tryd.prog 80 #[.slice a L.length cap, .slice (some ⟨w0.heap.size, 0, none⟩) 4 4] (w0.alloc (.cells #[.int .i64 0, .int .i64 0, .int .i64 254, .int .i64 255] 3)) fun e w' => e = .returned (.bool false) ∧ Below w0.heap.size w0 w' :=
  fits_at a L [0, 0, 254, 255] cap w0 #[.int .i64 0, .int .i64 0, .int .i64 254, .int .i64 255] 4 rfl rfl hb hl (by decide) (by decide) false h
theorem fits_2 (a : Option Addr) (L : List UInt8) (cap : Nat) (w0 : World) (hb : RdB w0 w0.heap.size a L) (hl : L.length ≤ 1000000) (h : fitsB L [0, 0, 0, 256] = false) :
    Calls Tryd.prog 80 #[.slice a L.length cap, .slice (some ⟨w0.heap.size, 0, none⟩) 4 4] (w0.alloc (.cells #[.int .i64 0, .int .i64 0, .int .i64 0, .int .i64 256] 3)) fun e w' => e = .returned (.bool false) ∧ Below w0.heap.size w0 w' :=
  fits_at a L [0, 0, 0, 256] cap w0 #[.int .i64 0, .int .i64 0, .int .i64 0, .int .i64 256] 4 rfl rfl hb hl (by decide) (by decide) false h
theorem fits_3 (a : Option Addr) (L : List UInt8) (cap : Nat) (w0 : World) (hb : RdB w0 w0.heap.size a L) (hl : L.length ≤ 1000000) (h : fitsB L [255, 254, 0, 0] = false) :
    Calls Tryd.prog 80 #[.slice a L.length cap, .slice (some ⟨w0.heap.size, 0, none⟩) 4 4] (w0.alloc (.cells #[.int .i64 255, .int .i64 254, .int .i64 0, .int .i64 0] 3)) fun e w' => e = .returned (.bool false) ∧ Below w0.heap.size w0 w' :=
  fits_at a L [255, 254, 0, 0] cap w0 #[.int .i64 255, .int .i64 254, .int .i64 0, .int .i64 0] 4 rfl rfl hb hl (by decide) (by decide) false h
theorem fits_4 (a : Option Addr) (L : List UInt8) (cap : Nat) (w0 : World) (hb : RdB w0 w0.heap.size a L) (hl : L.length ≤ 1000000) (h : fitsB L [256, 0, 0, 0] = false) :
    Calls Tryd.prog 80 #[.slice a L.length cap, .slice (some ⟨w0.heap.size, 0, none⟩) 4 4] (w0.alloc (.cells #[.int .i64 256, .int .i64 0, .int .i64 0, .int .i64 0] 3)) fun e w' => e = .returned (.bool false) ∧ Below w0.heap.size w0 w' :=
  fits_at a L [256, 0, 0, 0] cap w0 #[.int .i64 256, .int .i64 0, .int .i64 0, .int .i64 0] 4 rfl rfl hb hl (by decide) (by decide) false h
theorem fits_5 (a : Option Addr) (L : List UInt8) (cap : Nat) (w0 : World) (hb : RdB w0 w0.heap.size a L) (hl : L.length ≤ 1000000) (h : fitsB L [254, 255] = false) :
    Calls Tryd.prog 80 #[.slice a L.length cap, .slice (some ⟨w0.heap.size, 0, none⟩) 2 2] (w0.alloc (.cells #[.int .i64 254, .int .i64 255] 3)) fun e w' => e = .returned (.bool false) ∧ Below w0.heap.size w0 w' :=
  fits_at a L [254, 255] cap w0 #[.int .i64 254, .int .i64 255] 2 rfl rfl hb hl (by decide) (by decide) false h
theorem fits_6 (a : Option Addr) (L : List UInt8) (cap : Nat) (w0 : World) (hb : RdB w0 w0.heap.size a L) (hl : L.length ≤ 1000000) (h : fitsB L [0, 256] = false) :
    Calls Tryd.prog 80 #[.slice a L.length cap, .slice (some ⟨w0.heap.size, 0, none⟩) 2 2] (w0.alloc (.cells #[.int .i64 0, .int .i64 256] 3)) fun e w' => e = .returned (.bool false) ∧ Below w0.heap.size w0 w' :=
  fits_at a L [0, 256] cap w0 #[.int .i64 0, .int .i64 256] 2 rfl rfl hb hl (by decide) (by decide) false h
theorem fits_7 (a : Option Addr) (L : List UInt8) (cap : Nat) (w0 : World) (hb : RdB w0 w0.heap.size a L) (hl : L.length ≤ 1000000) (h : fitsB L [255, 254] = false) :
    Calls Tryd.prog 80 #[.slice a L.length cap, .slice (some ⟨w0.heap.size, 0, none⟩) 2 2] (w0.alloc (.cells #[.int .i64 255, .int .i64 254] 3)) fun e w' => e = .returned (.bool false) ∧ Below w0.heap.size w0 w' :=
  fits_at a L [255, 254] cap w0 #[.int .i64 255, .int .i64 254] 2 rfl rfl hb hl (by decide) (by decide) false h
theorem fits_8 (a : Option Addr) (L : List UInt8) (cap : Nat) (w0 : World) (hb : RdB w0 w0.heap.size a L) (hl : L.length ≤ 1000000) (h : fitsB L [256, 0] = false) :
    Calls Tryd.prog 80 #[.slice a L.length cap, .slice (some ⟨w0.heap.size, 0, none⟩) 2 2] (w0.alloc (.cells #[.int .i64 256, .int .i64 0] 3)) fun e w' => e = .returned (.bool false) ∧ Below w0.heap.size w0 w' :=
  fits_at a L [256, 0] cap w0 #[.int .i64 256, .int .i64 0] 2 rfl rfl hb hl (by decide) (by decide) false h
theorem fits_9 (a : Option Addr) (L : List UInt8) (cap : Nat) (w0 : World) (hb : RdB w0 w0.heap.size a L) (hl : L.length ≤ 1000000) (h : fitsB L [239, 187, 191] = true) :
    Calls Tryd.prog 80 #[.slice a L.length cap, .slice (some ⟨w0.heap.size, 0, none⟩) 3 3] (w0.alloc (.cells #[.int .i64 239, .int .i64 187, .int .i64 191] 3)) fun e w' => e = .returned (.bool true) ∧ Below w0.heap.size w0 w' :=
  fits_at a L [239, 187, 191] cap w0 #[.int .i64 239, .int .i64 187, .int .i64 191] 3 rfl rfl hb hl (by decide) (by decide) true h

set_option maxHeartbeats 2000000 in
set_option maxRecDepth 100000 in
theorem detect_gen (a : Option Addr) (L : List UInt8) (cap : Nat) (w : World) (hb : RdB w w.heap.size a L) (hL : L.length ≤ 1000000)
    (f1 : fitsB L [0, 0, 254, 255] = false) (f2 : fitsB L [0, 0, 0, 256] = false) (f3 : fitsB L [255, 254, 0, 0] = false) (f4 : fitsB L [256, 0, 0, 0] = false) (f5 : fitsB L [254, 255] = false) (f6 : fitsB L [0, 256] = false) (f7 : fitsB L [255, 254] = false) (f8 : fitsB L [256, 0] = false) (f9 : fitsB L [239, 187, 191] = true) :
    Calls Tryd.prog 63 #[.slice a L.length cap] w fun e w' => e = .returned (.tuple #[.int .i64 0, .int .i64 3]) ∧ Below w.heap.size w w' := by
  have C1 := Lib.hid (fun w1 (h : Below w.heap.size w w1) => fits_1 a L cap w1 ((hb.below h).more h.size) hL f1)
  have C2 := Lib.hid (fun w1 (h : Below w.heap.size w w1) => fits_2 a L cap w1 ((hb.below h).more h.size) hL f2)
  have C3 := Lib.hid (fun w1 (h : Below w.heap.size w w1) => fits_3 a L cap w1 ((hb.below h).more h.size) hL f3)
  have C4 := Lib.hid (fun w1 (h : Below w.heap.size w w1) => fits_4 a L cap w1 ((hb.below h).more h.size) hL f4)
  have C5 := Lib.hid (fun w1 (h : Below w.heap.size w w1) => fits_5 a L cap w1 ((hb.below h).more h.size) hL f5)
  have C6 := Lib.hid (fun w1 (h : Below w.heap.size w w1) => fits_6 a L cap w1 ((hb.below h).more h.size) hL f6)
  have C7 := Lib.hid (fun w1 (h : Below w.heap.size w w1) => fits_7 a L cap w1 ((hb.below h).more h.size) hL f7)
  have C8 := Lib.hid (fun w1 (h : Below w.heap.size w w1) => fits_8 a L cap w1 ((hb.below h).more h.size) hL f8)
  have C9 := Lib.hid (fun w1 (h : Below w.heap.size w w1) => fits_9 a L cap w1 ((hb.below h).more h.size) hL f9)
  clear f1 f2 f3 f4 f5 f6 f7 f8 f9 hb
  go_enter Tryd.func63, Tryd.ntmps63
  go_wp2_with fail
  refine (C1.out _ (Below.refl _ _)).mono ?_
  rintro e w1 ⟨rfl, h1⟩
  go_wp2_with fail
  refine (C2.out _ h1).mono ?_
  rintro e w2 ⟨rfl, g2⟩
  have h2 := h1.trans (g2.mono h1.size)
  go_wp2_with fail
  refine (C3.out _ h2).mono ?_
  rintro e w3 ⟨rfl, g3⟩
  have h3 := h2.trans (g3.mono h2.size)
  go_wp2_with fail
  refine (C4.out _ h3).mono ?_
  rintro e w4 ⟨rfl, g4⟩
  have h4 := h3.trans (g4.mono h3.size)
  go_wp2_with fail
  refine (C5.out _ h4).mono ?_
  rintro e w5 ⟨rfl, g5⟩
  have h5 := h4.trans (g5.mono h4.size)
  go_wp2_with fail
  refine (C6.out _ h5).mono ?_
  rintro e w6 ⟨rfl, g6⟩
  have h6 := h5.trans (g6.mono h5.size)
  go_wp2_with fail
  refine (C7.out _ h6).mono ?_
  rintro e w7 ⟨rfl, g7⟩
  have h7 := h6.trans (g7.mono h6.size)
  go_wp2_with fail
  refine (C8.out _ h7).mono ?_
  rintro e w8 ⟨rfl, g8⟩
  have h8 := h7.trans (g8.mono h7.size)
  go_wp2_with fail
  refine (C9.out _ h8).mono ?_
  rintro e w9 ⟨rfl, g9⟩
  have h9 := h8.trans (g9.mono h8.size)
  go_wp2
  go_ret2
  exact ⟨rfl, h9⟩
theorem fits_no (L : List UInt8) (rs : List Nat) (h : fitGo L rs = false) : fitsB L rs = false := by
  unfold fitsB
  split
  · rfl
  · exact h
theorem fits_yes (t : List UInt8) : fitsB (239 :: 187 :: 191 :: t) [239, 187, 191] = true := by
  unfold fitsB
  rw [if_neg (by simp only [List.length_cons, List.length_nil]; omega)]
  cases t <;> rfl
/-- Detect of bytes that begin with the mark of Utf8 -/
theorem detect_utf8 (a : Option Addr) (t : List UInt8) (cap : Nat) (w : World) (hb : RdB w w.heap.size a (239 :: 187 :: 191 :: t)) (hl : t.length ≤ 100000) :
    Calls Tryd.prog 63 #[.slice a (239 :: 187 :: 191 :: t).length cap] w fun e w' => e = .returned (.tuple #[.int .i64 0, .int .i64 3]) ∧ Below w.heap.size w w' :=
  detect_gen a (239 :: 187 :: 191 :: t) cap w hb (by simp only [List.length_cons]; omega) (fits_no _ _ rfl) (fits_no _ _ rfl) (fits_no _ _ rfl) (fits_no _ _ rfl) (fits_no _ _ rfl) (fits_no _ _ rfl) (fits_no _ _ rfl) (fits_no _ _ rfl) (fits_yes t)
end Go.Proofs.YtlfmaeodkghbbaaDoor
