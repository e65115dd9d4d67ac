/-
  Walks of the document's Detect, plain, Runes and Chars.
-/
import Derived.Test.YthkedlcmpibkjaaGreatDoorQa
import Derived.Test.YthkedlcmpibkjaaGreatDoorWh
import Derived.Lib.AppendStr
namespace Go.Proofs.YthkedlcmpibkjaaGreatDoor
open Go.RowKit

def fit1 (b : UInt8) (y : Nat) : Bool := if y = 256 then !decide (b.toNat = 0) else if y < 256 then decide (b.toNat = y) else true
def fitGo : List UInt8 → List Nat → Bool
  | b :: l, y :: rs => fit1 b y && fitGo l rs
  | _, _ => true
def fitsB (l : List UInt8) (rs : List Nat) : Bool := if l.length < rs.length then false else fitGo l rs

set_option maxHeartbeats 2000000 in
set_option maxRecDepth 100000 in
theorem fits_any (a ar : Option Addr) (l : List UInt8) (rs : List Nat) (cap cr : Nat) (w : World) (hb : RdB w w.heap.size a l) (hr : RdI w w.heap.size ar rs) (hl : l.length ≤ 1200000) (hrl : rs.length ≤ 1000) (hy : ∀ y ∈ rs, y ≤ 256) :
    Calls Tryz.prog 103 #[.slice a l.length cap, .slice ar rs.length cr] w fun e w' => e = .returned (.bool (fitsB l rs)) ∧ Below w.heap.size w w' := by
  unfold fitsB
  by_cases hlt : l.length < rs.length
  · rw [if_pos hlt]
    clear hb hr hy
    go_enter Tryz.func103, Tryz.ntmps103
    go_wp2
    go_ret
    exact ⟨rfl, Below.refl _ _⟩
  · rw [if_neg hlt]
    obtain ⟨ANS, hANS⟩ : ∃ ANS, fitGo l rs = ANS := ⟨_, rfl⟩
    rw [hANS]
    have HA : Hid (fitGo (l.drop 0) (rs.drop 0) = ANS) := hANS
    clear hANS
    have HB := Lib.hid hb
    have HR := Lib.hid hr
    have HY := Lib.hid hy
    clear hb hr hy
    go_enter Tryz.func103, Tryz.ntmps103
    go_wp2
    go_loopw [5] (fun i wr => ∃ k : Nat, k ≤ rs.length ∧ i = .int .i64 k ∧ Below w.heap.size w wr ∧ Hid (fitGo (l.drop k) (rs.drop k) = ANS)) (fun i _ => rs.length - (intOf i).toNat)
    case atStart => exact ⟨0, by omega, rfl, Below.refl _ _, HA⟩
    case round =>
      obtain ⟨k, hk, rfl, hbw, HK⟩ := hrel
      clear HA
      by_cases hkl : k < rs.length
      · have hkb : k < l.length := by omega
        obtain ⟨g, off, rfl, hg, hcb⟩ := HB.out (by omega)
        obtain ⟨g', off', rfl, hg', hcr⟩ := HR.out (by omega)
        have c1 := (hbw.cell (p := ⟨g, off + k, none⟩) hg).trans (hcb k hkb)
        have c2 := (hbw.cell (p := ⟨g', off' + k, none⟩) hg').trans (hcr k hkl)
        have hy := HY.out _ (List.getElem_mem hkl)
        have hstep : fitGo (l.drop k) (rs.drop k) = (fit1 l[k] rs[k] && fitGo (l.drop (k + 1)) (rs.drop (k + 1))) := by
          rw [List.drop_eq_getElem_cons hkb, List.drop_eq_getElem_cons hkl]; rfl
        have HS := Lib.hid hstep
        clear hstep hcb hcr HB HR HY
        have hx := l[k].toNat_lt
        generalize l[k] = x at *
        generalize rs[k] = y at *
        have hw1 : IntKind.i64.wrap ((x.toNat : Nat) : Int) = (x.toNat : Int) := IntWalk.i64_in _ (by omega)
        have hki : (0 : Int) ≤ (k : Int) := by omega
        have hk1 : (k : Int) < (l.length : Int) := by omega
        have hk2 : (k : Int) < (rs.length : Int) := by omega
        have good : fit1 x y = true → Hid (fitGo (l.drop (k + 1)) (rs.drop (k + 1)) = ANS) := fun h => by
          have := HK.out; rw [HS.out, h, Bool.true_and] at this; exact this
        have bad : fit1 x y = false → Hid (ANS = false) := fun h => by
          have := HK.out; rw [HS.out, h, Bool.false_and] at this; exact this.symm
        clear HS HK
        by_cases y1 : y = 256
        · have e1 : ((y : Int) == 256) = true := beq_iff_eq.2 (by omega)
          have e2 : decide ((y : Int) < 256) = false := decide_eq_false (by omega)
          by_cases x1 : x.toNat = 0
          · have e3 : ((x.toNat : Int) == 0) = true := beq_iff_eq.2 (by omega)
            have HF := bad (by unfold fit1; rw [if_pos y1]; simp [x1])
            clear good bad y1 x1
            go_wp2
            go_quiet (fail)
            go_wp2
            go_ret
            rw [HF.out]
            exact ⟨rfl, bel_drewN hbw _⟩
          · have e3 : ((x.toNat : Int) == 0) = false := beq_eq_false_iff_ne.2 (by omega)
            have HN := good (by unfold fit1; rw [if_pos y1]; simp [x1])
            clear good bad y1 x1
            go_wp2
            go_quiet (fail)
            go_wp2
            go_roundw
            case rel => exact ⟨k + 1, by omega, by go_num, bel_drewN hbw _, HN⟩
            case measure => simp [intOf]; omega
        · have e1 : ((y : Int) == 256) = false := beq_eq_false_iff_ne.2 (by omega)
          have e2 : decide ((y : Int) < 256) = true := decide_eq_true (by omega)
          by_cases x1 : x.toNat = y
          · have e3 : ((x.toNat : Int) != (y : Int)) = false := by rw [x1]; simp
            have HN := good (by unfold fit1; rw [if_neg y1, if_pos (by omega)]; simp [x1])
            clear good bad y1 x1
            go_wp2
            go_quiet (fail)
            go_wp2
            go_roundw
            case rel => exact ⟨k + 1, by omega, by go_num, bel_drewN hbw _, HN⟩
            case measure => simp [intOf]; omega
          · have e3 : ((x.toNat : Int) != (y : Int)) = true := bne_iff_ne.2 (by omega)
            have HF := bad (by unfold fit1; rw [if_neg y1, if_pos (by omega)]; simp [x1])
            clear good bad y1 x1
            go_wp2
            go_quiet (fail)
            go_wp2
            go_ret
            rw [HF.out]
            exact ⟨rfl, bel_drewN hbw _⟩
      · have hA : ANS = true := by
          have := HK.out
          rw [show rs.drop k = [] from List.drop_eq_nil_iff.2 (by omega)] at this
          rw [← this]
          cases l.drop k <;> rfl
        clear HB HR HY HK
        go_wp2
        go_ret
        exact ⟨ret_bool hA.symm, hbw⟩

/-- fits at a row of constants that was just laid -/
theorem fits_at (a : Option Addr) (l : List UInt8) (rs : List Nat) (cap : Nat) (w0 : World) (C : Array Value) (n : Nat) (hC : C = (rs.map fun (r : Nat) => Value.int .i64 (r : Int)).toArray) (hn : n = rs.length) (hb : RdB w0 w0.heap.size a l) (hl : l.length ≤ 1200000) (hrl : rs.length ≤ 1000) (hy : ∀ y ∈ rs, y ≤ 256) (b : Bool) (hres : fitsB l rs = b) :
    Calls Tryz.prog 103 #[.slice a l.length cap, .slice (some ⟨w0.heap.size, 0, none⟩) n n] (w0.alloc (.cells C 3)) fun e w' => e = .returned (.bool b) ∧ Below w0.heap.size w0 w' := by
  subst hC hn hres
  have hal : Below w0.heap.size w0 (w0.alloc (.cells (rs.map fun (r : Nat) => Value.int .i64 (r : Int)).toArray 3)) := (Below.refl _ _).alloc (Nat.le_refl _) _
  refine (fits_any a _ l rs cap _ _ ((hb.below hal).more hal.size) (fun h0 => ⟨w0.heap.size, 0, rfl, by rw [World.size_alloc]; omega, fun j hj => ?_⟩) hl hrl hy).mono ?_
  · have := cells_of_new w0 3 (rs.map fun (r : Nat) => Value.int .i64 (r : Int)) j (.int .i64 (rs[j] : Nat)) (by simp [hj])
    have e : (⟨w0.heap.size, 0, none⟩ : Addr).add j = ⟨w0.heap.size, 0 + j, none⟩ := by unfold Addr.add; split <;> simp_all
    rw [e] at this
    exact this
  · rintro e w' ⟨rfl, hb'⟩
    exact ⟨rfl, hal.trans (hb'.mono hal.size)⟩

theorem fits_1 (a : Option Addr) (L : List UInt8) (cap : Nat) (w0 : World) (hb : RdB w0 w0.heap.size a L) (hl : L.length ≤ 1200000) (h : fitsB L [0, 0, 254, 255] = false) :
    Calls Tryz.prog 103 #[.slice a L.length cap, .slice (some ⟨w0.heap.size, 0, none⟩) 4 4] (w0.alloc (.cells #[.int .i64 0, .int .i64 0, .int .i64 254, .int .i64 255] 3)) fun e w' => e = .returned (.bool false) ∧ Below w0.heap.size w0 w' :=
  fits_at a L [0, 0, 254, 255] cap w0 #[.int .i64 0, .int .i64 0, .int .i64 254, .int .i64 255] 4 rfl rfl hb hl (by decide) (by decide) false h
theorem fits_2 (a : Option Addr) (L : List UInt8) (cap : Nat) (w0 : World) (hb : RdB w0 w0.heap.size a L) (hl : L.length ≤ 1200000) (h : fitsB L [0, 0, 0, 256] = false) :
    Calls Tryz.prog 103 #[.slice a L.length cap, .slice (some ⟨w0.heap.size, 0, none⟩) 4 4] (w0.alloc (.cells #[.int .i64 0, .int .i64 0, .int .i64 0, .int .i64 256] 3)) fun e w' => e = .returned (.bool false) ∧ Below w0.heap.size w0 w' :=
  fits_at a L [0, 0, 0, 256] cap w0 #[.int .i64 0, .int .i64 0, .int .i64 0, .int .i64 256] 4 rfl rfl hb hl (by decide) (by decide) false h
theorem fits_3 (a : Option Addr) (L : List UInt8) (cap : Nat) (w0 : World) (hb : RdB w0 w0.heap.size a L) (hl : L.length ≤ 1200000) (h : fitsB L [255, 254, 0, 0] = false) :
    Calls Tryz.prog 103 #[.slice a L.length cap, .slice (some ⟨w0.heap.size, 0, none⟩) 4 4] (w0.alloc (.cells #[.int .i64 255, .int .i64 254, .int .i64 0, .int .i64 0] 3)) fun e w' => e = .returned (.bool false) ∧ Below w0.heap.size w0 w' :=
  fits_at a L [255, 254, 0, 0] cap w0 #[.int .i64 255, .int .i64 254, .int .i64 0, .int .i64 0] 4 rfl rfl hb hl (by decide) (by decide) false h
theorem fits_4 (a : Option Addr) (L : List UInt8) (cap : Nat) (w0 : World) (hb : RdB w0 w0.heap.size a L) (hl : L.length ≤ 1200000) (h : fitsB L [256, 0, 0, 0] = false) :
    Calls Tryz.prog 103 #[.slice a L.length cap, .slice (some ⟨w0.heap.size, 0, none⟩) 4 4] (w0.alloc (.cells #[.int .i64 256, .int .i64 0, .int .i64 0, .int .i64 0] 3)) fun e w' => e = .returned (.bool false) ∧ Below w0.heap.size w0 w' :=
  fits_at a L [256, 0, 0, 0] cap w0 #[.int .i64 256, .int .i64 0, .int .i64 0, .int .i64 0] 4 rfl rfl hb hl (by decide) (by decide) false h
theorem fits_5 (a : Option Addr) (L : List UInt8) (cap : Nat) (w0 : World) (hb : RdB w0 w0.heap.size a L) (hl : L.length ≤ 1200000) (h : fitsB L [254, 255] = false) :
    Calls Tryz.prog 103 #[.slice a L.length cap, .slice (some ⟨w0.heap.size, 0, none⟩) 2 2] (w0.alloc (.cells #[.int .i64 254, .int .i64 255] 3)) fun e w' => e = .returned (.bool false) ∧ Below w0.heap.size w0 w' :=
  fits_at a L [254, 255] cap w0 #[.int .i64 254, .int .i64 255] 2 rfl rfl hb hl (by decide) (by decide) false h
theorem fits_6 (a : Option Addr) (L : List UInt8) (cap : Nat) (w0 : World) (hb : RdB w0 w0.heap.size a L) (hl : L.length ≤ 1200000) (h : fitsB L [0, 256] = false) :
    Calls Tryz.prog 103 #[.slice a L.length cap, .slice (some ⟨w0.heap.size, 0, none⟩) 2 2] (w0.alloc (.cells #[.int .i64 0, .int .i64 256] 3)) fun e w' => e = .returned (.bool false) ∧ Below w0.heap.size w0 w' :=
  fits_at a L [0, 256] cap w0 #[.int .i64 0, .int .i64 256] 2 rfl rfl hb hl (by decide) (by decide) false h
theorem fits_7 (a : Option Addr) (L : List UInt8) (cap : Nat) (w0 : World) (hb : RdB w0 w0.heap.size a L) (hl : L.length ≤ 1200000) (h : fitsB L [255, 254] = false) :
    Calls Tryz.prog 103 #[.slice a L.length cap, .slice (some ⟨w0.heap.size, 0, none⟩) 2 2] (w0.alloc (.cells #[.int .i64 255, .int .i64 254] 3)) fun e w' => e = .returned (.bool false) ∧ Below w0.heap.size w0 w' :=
  fits_at a L [255, 254] cap w0 #[.int .i64 255, .int .i64 254] 2 rfl rfl hb hl (by decide) (by decide) false h
theorem fits_8 (a : Option Addr) (L : List UInt8) (cap : Nat) (w0 : World) (hb : RdB w0 w0.heap.size a L) (hl : L.length ≤ 1200000) (h : fitsB L [256, 0] = false) :
    Calls Tryz.prog 103 #[.slice a L.length cap, .slice (some ⟨w0.heap.size, 0, none⟩) 2 2] (w0.alloc (.cells #[.int .i64 256, .int .i64 0] 3)) fun e w' => e = .returned (.bool false) ∧ Below w0.heap.size w0 w' :=
  fits_at a L [256, 0] cap w0 #[.int .i64 256, .int .i64 0] 2 rfl rfl hb hl (by decide) (by decide) false h
theorem fits_9 (a : Option Addr) (L : List UInt8) (cap : Nat) (w0 : World) (hb : RdB w0 w0.heap.size a L) (hl : L.length ≤ 1200000) (h : fitsB L [239, 187, 191] = true) :
    Calls Tryz.prog 103 #[.slice a L.length cap, .slice (some ⟨w0.heap.size, 0, none⟩) 3 3] (w0.alloc (.cells #[.int .i64 239, .int .i64 187, .int .i64 191] 3)) fun e w' => e = .returned (.bool true) ∧ Below w0.heap.size w0 w' :=
  fits_at a L [239, 187, 191] cap w0 #[.int .i64 239, .int .i64 187, .int .i64 191] 3 rfl rfl hb hl (by decide) (by decide) true h

set_option maxHeartbeats 2000000 in
set_option maxRecDepth 100000 in
theorem detect_gen (a : Option Addr) (L : List UInt8) (cap : Nat) (w : World) (hb : RdB w w.heap.size a L) (hL : L.length ≤ 1200000)
    (f1 : fitsB L [0, 0, 254, 255] = false) (f2 : fitsB L [0, 0, 0, 256] = false) (f3 : fitsB L [255, 254, 0, 0] = false) (f4 : fitsB L [256, 0, 0, 0] = false) (f5 : fitsB L [254, 255] = false) (f6 : fitsB L [0, 256] = false) (f7 : fitsB L [255, 254] = false) (f8 : fitsB L [256, 0] = false) (f9 : fitsB L [239, 187, 191] = true) :
    Calls Tryz.prog 89 #[.slice a L.length cap] w fun e w' => e = .returned (.tuple #[.int .i64 0, .int .i64 3]) ∧ Below w.heap.size w w' := by
  have C1 := Lib.hid (fun w1 (h : Below w.heap.size w w1) => fits_1 a L cap w1 ((hb.below h).more h.size) hL f1)
  have C2 := Lib.hid (fun w1 (h : Below w.heap.size w w1) => fits_2 a L cap w1 ((hb.below h).more h.size) hL f2)
  have C3 := Lib.hid (fun w1 (h : Below w.heap.size w w1) => fits_3 a L cap w1 ((hb.below h).more h.size) hL f3)
  have C4 := Lib.hid (fun w1 (h : Below w.heap.size w w1) => fits_4 a L cap w1 ((hb.below h).more h.size) hL f4)
  have C5 := Lib.hid (fun w1 (h : Below w.heap.size w w1) => fits_5 a L cap w1 ((hb.below h).more h.size) hL f5)
  have C6 := Lib.hid (fun w1 (h : Below w.heap.size w w1) => fits_6 a L cap w1 ((hb.below h).more h.size) hL f6)
  have C7 := Lib.hid (fun w1 (h : Below w.heap.size w w1) => fits_7 a L cap w1 ((hb.below h).more h.size) hL f7)
  have C8 := Lib.hid (fun w1 (h : Below w.heap.size w w1) => fits_8 a L cap w1 ((hb.below h).more h.size) hL f8)
  have C9 := Lib.hid (fun w1 (h : Below w.heap.size w w1) => fits_9 a L cap w1 ((hb.below h).more h.size) hL f9)
  clear f1 f2 f3 f4 f5 f6 f7 f8 f9 hb
  go_enter Tryz.func89, Tryz.ntmps89
  go_wp2_with fail
  refine (C1.out _ (Below.refl _ _)).mono ?_
  rintro e w1 ⟨rfl, h1⟩
  go_wp2_with fail
  refine (C2.out _ h1).mono ?_
  rintro e w2 ⟨rfl, g2⟩
  have h2 := h1.trans (g2.mono h1.size)
  go_wp2_with fail
  refine (C3.out _ h2).mono ?_
  rintro e w3 ⟨rfl, g3⟩
  have h3 := h2.trans (g3.mono h2.size)
  go_wp2_with fail
  refine (C4.out _ h3).mono ?_
  rintro e w4 ⟨rfl, g4⟩
  have h4 := h3.trans (g4.mono h3.size)
  go_wp2_with fail
  refine (C5.out _ h4).mono ?_
  rintro e w5 ⟨rfl, g5⟩
  have h5 := h4.trans (g5.mono h4.size)
  go_wp2_with fail
  refine (C6.out _ h5).mono ?_
  rintro e w6 ⟨rfl, g6⟩
  have h6 := h5.trans (g6.mono h5.size)
  go_wp2_with fail
  refine (C7.out _ h6).mono ?_
  rintro e w7 ⟨rfl, g7⟩
  have h7 := h6.trans (g7.mono h6.size)
  go_wp2_with fail
  refine (C8.out _ h7).mono ?_
  rintro e w8 ⟨rfl, g8⟩
  have h8 := h7.trans (g8.mono h7.size)
  go_wp2_with fail
  refine (C9.out _ h8).mono ?_
  rintro e w9 ⟨rfl, g9⟩
  have h9 := h8.trans (g9.mono h8.size)
  go_wp2
  go_ret2
  exact ⟨rfl, h9⟩
theorem fits_no (L : List UInt8) (rs : List Nat) (h : fitGo L rs = false) : fitsB L rs = false := by
  unfold fitsB
  split
  · rfl
  · exact h
theorem fits_yes (t : List UInt8) : fitsB (239 :: 187 :: 191 :: t) [239, 187, 191] = true := by
  unfold fitsB
  rw [if_neg (by simp only [List.length_cons, List.length_nil]; omega)]
  cases t <;> rfl
/-- Detect of bytes that begin with the mark of Utf8 -/
theorem detect_utf8 (a : Option Addr) (t : List UInt8) (cap : Nat) (w : World) (hb : RdB w w.heap.size a (239 :: 187 :: 191 :: t)) (hl : t.length ≤ 1100000) :
    Calls Tryz.prog 89 #[.slice a (239 :: 187 :: 191 :: t).length cap] w fun e w' => e = .returned (.tuple #[.int .i64 0, .int .i64 3]) ∧ Below w.heap.size w w' :=
  detect_gen a (239 :: 187 :: 191 :: t) cap w hb (by simp only [List.length_cons]; omega) (fits_no _ _ rfl) (fits_no _ _ rfl) (fits_no _ _ rfl) (fits_no _ _ rfl) (fits_no _ _ rfl) (fits_no _ _ rfl) (fits_no _ _ rfl) (fits_no _ _ rfl) (fits_yes t)
end Go.Proofs.YthkedlcmpibkjaaGreatDoor

namespace Go.Proofs.YthkedlcmpibkjaaGreatDoor
open Go.RowKit

def sliceLen : Value → Nat
  | .slice _ n _ => n
  | _ => 0
def JoinsI (a : List Nat) (o ANS : Option (List Nat)) : Prop := o.map (a ++ ·) = ANS
theorem JoinsI.step {a : List Nat} {r : Nat} {o ANS : Option (List Nat)} (h : JoinsI a (o.map (r :: ·)) ANS) : JoinsI (a ++ [r]) o ANS := by
  unfold JoinsI at *
  rw [← h, Option.map_map]
  congr 1
  funext y
  simp
/-- what a call that answers characters, or that there are none, returns -/
def ChR (B : Nat) (w : World) (o : Option (List Nat)) (e : Ending) (w' : World) : Prop :=
  ∃ v, e = .returned (.tuple #[v, .bool o.isSome]) ∧ OwnI w' B v (o.getD []) ∧ Below B w w'
theorem leadN_le (c : Nat) : (Sc.leadN c).1 ≤ 4 ∧ ((Sc.leadN c).1 ≠ 0 → (Sc.leadN c).2 < 128) := by
  unfold Sc.leadN
  repeat' split
  all_goals exact ⟨by simp, by simp; try omega⟩

def stepK (l : List UInt8) (n r0 : Nat) : Option (Nat × Nat) :=
  if n = 0 ∨ l.length < n then none else (Sc.contR ((l.drop 1).take (n - 1)) r0).bind fun r => if Sc.isCh r ∧ (Sc.enc r).length = n then some (r, n) else none
theorem stepR_eq (l : List UInt8) : Sc.stepR l = stepK l (Sc.leadN (l.getD 0 0).toNat).1 (Sc.leadN (l.getD 0 0).toNat).2 := by
  unfold Sc.stepR stepK
  split
  · rfl
  · cases Sc.contR ((l.drop 1).take ((Sc.leadN (l.getD 0 0).toNat).1 - 1)) (Sc.leadN (l.getD 0 0).toNat).2 <;> rfl

set_option maxHeartbeats 4000000 in
set_option maxRecDepth 100000 in
theorem plainR_any (a : Option Addr) (L : List UInt8) (cap : Nat) (w : World) (hb : RdB w w.heap.size a L) (hc : L.length ≤ cap) (hcm : cap ≤ maxLen) (hL : L.length ≤ 1100000) :
    Calls Tryz.prog 90 #[.slice a L.length cap] w (ChR w.heap.size w (Sc.charsOf L)) := by
  unfold maxLen at hcm
  obtain ⟨ANS, hANS⟩ : ∃ ANS, Sc.charsOf L = ANS := ⟨_, rfl⟩
  have HA : JoinsI [] (Sc.charsOf L) ANS := by unfold JoinsI; rw [hANS]; simp
  rw [hANS]
  clear hANS
  go_enter Tryz.func90, Tryz.ntmps90
  go_wp2
  go_loopw [0, 4] (fun b v wr => ∃ (a : Option Addr) (l : List UInt8) (cap : Nat) (acc : List Nat), b = .slice a l.length cap ∧ l.length ≤ cap ∧ cap ≤ 9223372036854775807 ∧ RdB w w.heap.size a l ∧ OwnI wr w.heap.size v acc ∧ Below w.heap.size w wr ∧ JoinsI acc (Sc.charsOf l) ANS ∧ acc.length + l.length ≤ 1100000) (fun b _ _ => sliceLen b)
  case atStart => exact ⟨a, L, cap, [], rfl, hc, hcm, hb, ownI_nil _ _, Below.refl _ _, HA, by simpa using hL⟩
  case round =>
    clear hb hc hcm hL HA
    obtain ⟨a, l, cap, acc, rfl, hc, hcm, hb, hown, hbw, HJ, hal⟩ := hrel
    have hsz := hbw.size
    by_cases h0 : l.length = 0
    · have hl : l = [] := List.eq_nil_of_length_eq_zero h0
      have hA : some acc = ANS := by
        unfold JoinsI at HJ; rw [hl] at HJ; simpa [Sc.charsOf, Lib.validD_nil, Sc.rns_nil] using HJ
      subst hA
      subst hl
      clear HJ
      go_wp2
      go_ret2
      exact ⟨_, rfl, hown, hbw⟩
    · obtain ⟨g, off, rfl, hg, hcb⟩ := hb (by omega)
      have hne : l ≠ [] := fun e => h0 (by rw [e]; rfl)
      have hp : 0 < l.length := by omega
      have c0 := (hbw.cell (p := ⟨g, off + 0, none⟩) hg).trans (hcb 0 hp)
      rw [Nat.add_zero] at c0
      have hx0 := l[0].toNat_lt
      have hgd : l.getD 0 0 = l[0] := by simp [List.getD, hp]
      obtain ⟨x, hx⟩ : ∃ x, l[0] = x := ⟨_, rfl⟩
      rw [hx] at c0 hx0 hgd
      obtain ⟨hn4, hr128⟩ := leadN_le x.toNat
      have cL := lead_any x.toNat
      have hst := stepR_eq l
      rw [hgd] at hst
      obtain ⟨n, r0, hnr⟩ : ∃ n r0, Sc.leadN x.toNat = (n, r0) := ⟨_, _, rfl⟩
      rw [hnr] at hn4 hr128 cL hst
      simp only at hn4 hr128 cL hst
      clear hgd hnr hx h0
      have HST := Lib.hid hst
      have CL := Lib.hid (fun w1 => cL w1 hx0)
      clear hst cL
      by_cases hbad : n = 0 ∨ l.length < n
      · have hA : ANS = none := by
          have := Sc.charsOf_none l hne (by rw [HST.out]; unfold stepK; rw [if_pos hbad])
          unfold JoinsI at HJ; rw [this] at HJ; exact HJ.symm
        subst hA
        clear HJ HST hcb
        rcases hbad with rfl | hbad
        · go_wp2_with (go_at_call 104; refine (CL.out _).mono ?_; rintro e w' ⟨rfl, rfl⟩)
          go_ret2
          exact ⟨_, rfl, ownI_nil _ _, hbw⟩
        · by_cases hn0 : n = 0
          · subst hn0
            exact absurd hbad (by omega)
          · have b1 : ((n : Int) == 0) = false := beq_eq_false_iff_ne.2 (by omega)
            clear hn0
            go_wp2_with (go_at_call 104; refine (CL.out _).mono ?_; rintro e w' ⟨rfl, rfl⟩)
            go_ret2
            exact ⟨_, rfl, ownI_nil _ _, hbw⟩
      · have HS2 : Hid (Sc.stepR l = (Sc.contR ((l.drop 1).take (n - 1)) r0).bind fun r => if Sc.isCh r ∧ (Sc.enc r).length = n then some (r, n) else none) := by
          have := HST.out; unfold stepK at this; rw [if_neg hbad] at this; exact this
        clear HST
        have hn1 : 1 ≤ n := by omega
        have hnl : n ≤ l.length := by omega
        have hr0 : r0 < 128 := hr128 (by omega)
        have b1 : ((n : Int) == 0) = false := beq_eq_false_iff_ne.2 (by omega)
        have b2 : decide (l.length < n) = false := decide_eq_false (by omega)
        have b3 : decide ((l.length : Int) < (n : Int)) = false := decide_eq_false (by omega)
        have b4 : decide (0 < l.length) = true := decide_eq_true (by omega)
        have b5 : decide ((0 : Int) < (l.length : Int)) = true := decide_eq_true (by omega)
        clear hbad hr128
        go_wp2_with (go_at_call 104; refine (CL.out _).mono ?_; rintro e w' ⟨rfl, rfl⟩)
        clear CL c0
        go_loop [6, 7] (fun rr i => ∃ k r : Nat, 1 ≤ k ∧ k ≤ n ∧ i = .int .i64 k ∧ rr = .int .i64 r ∧ Hid (r < 128 * 64 ^ (k - 1)) ∧ Hid (Sc.contR ((l.drop 1).take (n - 1)) r0 = Sc.contR ((l.drop k).take (n - k)) r)) (fun _ i => n - (intOf i).toNat)
        case atStart => exact ⟨1, r0, by omega, hn1, rfl, rfl, (by simpa using hr0 : r0 < 128 * 64 ^ (1 - 1)), (rfl : Sc.contR _ _ = _)⟩
        case round =>
          obtain ⟨k, r, hk1, hkn, rfl, rfl, HB, HK⟩ := hrel
          have hrb : r < 33554432 := by
            have h1 := HB.out
            have h2 : 64 ^ (k - 1) ≤ 64 ^ 3 := Nat.pow_le_pow_right (by decide) (by omega)
            have h3 : (64 : Nat) ^ 3 = 262144 := by decide
            rw [h3] at h2
            have h4 : 128 * 64 ^ (k - 1) ≤ 128 * 262144 := Nat.mul_le_mul_left 128 h2
            omega
          by_cases hlt : k < n
          · have hkl : k < l.length := by omega
            have ck := (hbw.cell (p := ⟨g, off + k, none⟩) hg).trans (hcb k hkl)
            have hdr : (l.drop k).take (n - k) = l[k] :: (l.drop (k + 1)).take (n - (k + 1)) := by
              rw [List.drop_eq_getElem_cons hkl]
              obtain ⟨d, hd⟩ : ∃ d, n - k = d + 1 := ⟨n - k - 1, by omega⟩
              have hd2 : n - (k + 1) = d := by omega
              rw [hd, hd2, List.take_succ_cons]
            have hxk := l[k].toNat_lt
            generalize l[k] = y at *
            by_cases hy : y.toNat < 128 ∨ 191 < y.toNat
            · have hA : ANS = none := by
                have h1 := HK.out; rw [hdr] at h1; simp only [Sc.contR, if_pos hy] at h1
                have h2 := HS2.out; rw [h1] at h2
                have := Sc.charsOf_none l hne h2
                unfold JoinsI at HJ; rw [this] at HJ; exact HJ.symm
              subst hA
              clear HJ HS2 HK HB hcb hdr
              by_cases hy1 : y.toNat < 128
              · clear hy
                go_wp2
                go_ret2
                exact ⟨_, rfl, ownI_nil _ _, hbw⟩
              · have hy2 : 191 < y.toNat := by omega
                clear hy
                go_wp2
                go_ret2
                exact ⟨_, rfl, ownI_nil _ _, hbw⟩
            · have HN : Hid (Sc.contR ((l.drop 1).take (n - 1)) r0 = Sc.contR ((l.drop (k + 1)).take (n - (k + 1))) (r * 64 + y.toNat - 128)) := by
                have h1 := HK.out; rw [hdr] at h1; simp only [Sc.contR, if_neg hy] at h1; exact h1
              have HB2 : Hid (r * 64 + y.toNat - 128 < 128 * 64 ^ (k + 1 - 1)) := by
                have h1 := HB.out
                show r * 64 + y.toNat - 128 < 128 * 64 ^ (k + 1 - 1)
                obtain ⟨d, rfl⟩ : ∃ d, k = d + 1 := ⟨k - 1, by omega⟩
                have e1 : d + 1 - 1 = d := by omega
                have e2 : d + 1 + 1 - 1 = d + 1 := by omega
                rw [e1] at h1
                rw [e2, Nat.pow_succ]
                omega
              have hy1 : 128 ≤ y.toNat := by omega
              have hy2 : y.toNat ≤ 191 := by omega
              clear hy hdr HK HB HJ HS2 hcb
              go_wp2
              go_round
              case rel => exact ⟨k + 1, r * 64 + y.toNat - 128, by omega, by omega, by go_num, by go_num, HB2, HN⟩
              case measure => simp [intOf]; omega
          · obtain rfl : k = n := by omega
            have HC : Hid (Sc.contR ((l.drop 1).take (k - 1)) r0 = some r) := by
              have h1 := HK.out; rw [Nat.sub_self, List.take_zero] at h1; exact h1
            clear HK HB
            have HS3 : Hid (Sc.stepR l = if Sc.isCh r ∧ (Sc.enc r).length = k then some (r, k) else none) := by
              have := HS2.out; rw [HC.out] at this; exact this
            clear HS2 HC hcb
            by_cases hch : Sc.isCh r
            · have b6 : chI (r : Int) = true := by rw [chI_nat]; exact decide_eq_true hch
              by_cases hw : (Sc.enc r).length = k
              · have b7 : (((Sc.enc r).length : Int) != (k : Int)) = false := by rw [hw]; simp
                have hsome : Sc.stepR l = some (r, k) := by rw [HS3.out, if_pos ⟨hch, hw⟩]
                have HN : JoinsI (acc ++ [r]) (Sc.charsOf (l.drop k)) ANS := by
                  have := HJ; rw [Sc.charsOf_step l r k hsome] at this; exact this.step
                have hbr : RdB w w.heap.size (if cap = k then some ⟨g, off, none⟩ else some ⟨g, off + k, none⟩) (l.drop k) := by
                  by_cases hck : cap = k
                  · intro h0; rw [List.length_drop] at h0; omega
                  · rw [if_neg hck]
                    by_cases hkl : k < l.length
                    · have e : (⟨g, off, none⟩ : Addr).add k = ⟨g, off + k, none⟩ := by unfold Addr.add; split <;> simp_all
                      have := hb.cut k hkl
                      simp only [cutA, Option.map_some, e] at this
                      exact this
                    · intro h0; rw [List.length_drop] at h0; omega
                have hdl : (l.drop k).length = l.length - k := List.length_drop ..
                have HBR := Lib.hid hbr
                have hal2 : (acc ++ [r]).length + (l.length - k) ≤ 1100000 := by rw [List.length_append]; simp; omega
                obtain ⟨m, hm⟩ : ∃ m, m = l.drop k := ⟨_, rfl⟩
                rw [← hm] at HN HBR hdl
                clear hsome HS3 HJ hbr hw hm
                by_cases hck : cap = k
                · subst hck
                  rw [if_pos rfl] at HBR
                  go_wp2_with (first | (go_at_call 74; refine (character_any _ _).mono ?_; rintro e w' ⟨rfl, rfl⟩) | (go_at_call 75; refine (bytes_any r _ hch).mono ?_; rintro e w2 ⟨rfl, rfl⟩) | (at_builtin; refine wpList_pushI rfl (.tmp 63) (.tmp 65) rfl w.heap.size _ acc [r] (wr.alloc (.cells (Lib.byteCells (Sc.enc r)).toArray 5)) _ _ _ rfl _ rfl (by rw [World.size_alloc]) rfl rfl (ownI_alloc hown _) (by simp; omega) (by rw [World.size_alloc]; omega) ?_; intro v' w' ho' hk' hB'))
                  go_roundw
                  case rel => exact ⟨_, m, cap - cap, acc ++ [r], by rw [hdl]; go_num, by omega, by omega, HBR.out, ho', (hbw.alloc hsz _).trans hk', HN, by rw [hdl]; exact hal2⟩
                  case measure => simp [sliceLen]; omega
                · rw [if_neg hck] at HBR
                  go_wp2_with (first | (go_at_call 74; refine (character_any _ _).mono ?_; rintro e w' ⟨rfl, rfl⟩) | (go_at_call 75; refine (bytes_any r _ hch).mono ?_; rintro e w2 ⟨rfl, rfl⟩) | (at_builtin; refine wpList_pushI rfl (.tmp 63) (.tmp 65) rfl w.heap.size _ acc [r] (wr.alloc (.cells (Lib.byteCells (Sc.enc r)).toArray 5)) _ _ _ rfl _ rfl (by rw [World.size_alloc]) rfl rfl (ownI_alloc hown _) (by simp; omega) (by rw [World.size_alloc]; omega) ?_; intro v' w' ho' hk' hB'))
                  go_roundw
                  case rel => exact ⟨_, m, cap - k, acc ++ [r], by rw [hdl], by omega, by omega, HBR.out, ho', (hbw.alloc hsz _).trans hk', HN, by rw [hdl]; exact hal2⟩
                  case measure => simp [sliceLen]; omega
              · have b7 : (((Sc.enc r).length : Int) != (k : Int)) = true := bne_iff_ne.2 (by omega)
                have hA : ANS = none := by
                  have := Sc.charsOf_none l hne (by rw [HS3.out, if_neg (fun h => hw h.2)])
                  unfold JoinsI at HJ; rw [this] at HJ; exact HJ.symm
                subst hA
                clear HJ HS3 hw
                go_wp2_with (first | (go_at_call 74; refine (character_any _ _).mono ?_; rintro e w' ⟨rfl, rfl⟩) | (go_at_call 75; refine (bytes_any r _ hch).mono ?_; rintro e w2 ⟨rfl, rfl⟩))
                go_ret2
                exact ⟨_, rfl, ownI_nil _ _, hbw.alloc hsz _⟩
            · have b6 : chI (r : Int) = false := by rw [chI_nat]; exact decide_eq_false hch
              have hA : ANS = none := by
                have := Sc.charsOf_none l hne (by rw [HS3.out, if_neg (fun h => hch h.1)])
                unfold JoinsI at HJ; rw [this] at HJ; exact HJ.symm
              subst hA
              clear HJ HS3 hch
              go_wp2_with (go_at_call 74; refine (character_any _ _).mono ?_; rintro e w' ⟨rfl, rfl⟩)
              go_ret2
              exact ⟨_, rfl, ownI_nil _ _, hbw⟩
end Go.Proofs.YthkedlcmpibkjaaGreatDoor

namespace Go.Proofs.YthkedlcmpibkjaaGreatDoor
open Go.RowKit

def RuR (B : Nat) (w : World) (o : Option (List Nat)) (e : Ending) (w' : World) : Prop :=
  ∃ v, e = .returned (.tuple #[v, .int .i64 (if o.isSome then 0 else 6)]) ∧ OwnI w' B v (o.getD []) ∧ Below B w w'

theorem OwnI.mono {w : World} {B B' : Nat} {v : Value} {l : List Nat} (h : OwnI w B v l) (hB : B' ≤ B) : OwnI w B' v l := by
  obtain ⟨h1, h2⟩ := h
  refine ⟨h1, ?_⟩
  rcases h2 with h2 | ⟨g, cap, cur, hv, hB2, hr⟩
  · exact .inl h2
  · exact .inr ⟨g, cap, cur, hv, by omega, hr⟩

set_option maxHeartbeats 1000000 in
set_option maxRecDepth 100000 in
theorem runes_utf8 (a : Option Addr) (t : List UInt8) (cap : Nat) (w : World) (hb : RdB w w.heap.size a (239 :: 187 :: 191 :: t)) (hc : (239 :: 187 :: 191 :: t : List UInt8).length ≤ cap) (hcm : cap ≤ maxLen) (hL : t.length ≤ 1100000) :
    Calls Tryz.prog 70 #[.slice a (239 :: 187 :: 191 :: t).length cap] w (RuR w.heap.size w (Sc.charsOf t)) := by
  have cD := detect_utf8 a t cap w hb hL
  have hlen : (239 :: 187 :: 191 :: t : List UInt8).length = t.length + 3 := by simp
  rw [hlen] at hc cD ⊢
  obtain ⟨g, off, rfl, hg, hcb⟩ := hb (by rw [hlen]; omega)
  have hbt : RdB w w.heap.size (if cap = 3 then some ⟨g, off, none⟩ else some ⟨g, off + 3, none⟩) t := by
    intro h0
    rw [if_neg (by omega)]
    refine ⟨g, off + 3, rfl, hg, fun j hj => ?_⟩
    have := hcb (j + 3) (by rw [hlen]; omega)
    rw [Nat.add_assoc, Nat.add_comm 3 j]
    exact this
  unfold maxLen at hcm
  have CP := Lib.hid (fun (w1 : World) (h : Below w.heap.size w w1) => plainR_any (if cap = 3 then some ⟨g, off, none⟩ else some ⟨g, off + 3, none⟩) t (cap - 3) w1 ((hbt.below h).more h.size) (by omega) (by unfold maxLen; omega) hL)
  have hch : ∀ rs, Sc.charsOf t = some rs → ∀ r ∈ rs, Sc.isCh r := by
    intro rs h
    unfold Sc.charsOf at h
    split at h
    · cases h; exact Sc.ch_rns t
    · cases h
  have hrl : ∀ rs, Sc.charsOf t = some rs → rs.length ≤ 1100000 := by
    intro rs h
    unfold Sc.charsOf at h
    split at h
    · cases h
      have : ∀ (n : Nat) (l : List UInt8), l.length ≤ n → (Sc.rns l).length ≤ l.length := by
        intro n
        induction n with
        | zero => intro l h; have : l = [] := List.eq_nil_of_length_eq_zero (by omega)
                  subst this; simp [Sc.rns_nil]
        | succ n ih =>
          intro l h
          by_cases hl : l = []
          · subst hl; simp [Sc.rns_nil]
          · have hp : 0 < l.length := List.length_pos_iff.2 hl
            have hw := Lib.decodeL_width l
            have := ih (l.drop (Lib.decodeL l).2) (by rw [List.length_drop]; omega)
            rw [Sc.rns_step l hl, List.length_cons]
            rw [List.length_drop] at this
            omega
      have := this t.length t (Nat.le_refl _)
      omega
    · cases h
  clear hb hcb hbt
  by_cases hck : cap = 3
  · subst hck
    have ht : t = [] := List.eq_nil_of_length_eq_zero (by omega)
    subst ht
    have ho : Sc.charsOf [] = some [] := rfl
    rw [ho] at CP ⊢
    clear hch hrl ho hlen hc
    go_enter Tryz.func70, Tryz.ntmps70
    go_wp2_with fail
    refine cD.mono ?_
    rintro e w1 ⟨rfl, h1⟩
    go_wp2_with fail
    refine (CP.out w1 h1).mono ?_
    rintro e w2 ⟨v, rfl, ho, h2⟩
    obtain ⟨a', cap', hv, hc1, hc2, hrd⟩ := ho.form
    have HO := Lib.hid (ho.mono h1.size)
    clear CP cD hrd ho
    subst hv
    go_wp2
    refine wp_loop_rounds 1 ?_
    rw [rounds_succ]
    go_wp2
    go_ret2
    exact ⟨_, rfl, HO.out, h1.trans (h2.mono h1.size)⟩
  · rw [if_neg hck] at CP
    cases ho : Sc.charsOf t with
    | none =>
      rw [ho] at CP
      clear hch hrl ho
      go_enter Tryz.func70, Tryz.ntmps70
      go_wp2_with fail
      refine cD.mono ?_
      rintro e w1 ⟨rfl, h1⟩
      go_wp2_with fail
      refine (CP.out w1 h1).mono ?_
      rintro e w2 ⟨v, rfl, ho, h2⟩
      clear CP cD ho
      go_wp2
      go_ret2
      exact ⟨_, rfl, ownI_nil _ _, h1.trans (h2.mono h1.size)⟩
    | some rs =>
      rw [ho] at CP
      have HCH := Lib.hid (hch rs ho)
      have hrs := hrl rs ho
      clear hch hrl ho
      go_enter Tryz.func70, Tryz.ntmps70
      go_wp2_with fail
      refine cD.mono ?_
      rintro e w1 ⟨rfl, h1⟩
      go_wp2_with fail
      refine (CP.out w1 h1).mono ?_
      rintro e w2 ⟨v, rfl, ho, h2⟩
      obtain ⟨a', cap', hv, hc1, hc2, hrd⟩ := ho.form
      have HO := Lib.hid (ho.mono h1.size)
      have HR := Lib.hid hrd
      clear CP cD hrd ho
      unfold maxLen at hc2
      simp only [Option.getD_some] at hv hc1 HO HR
      subst hv
      go_wp2
      go_loop [10] (fun i => ∃ k : Nat, k ≤ rs.length ∧ i = .int .i64 k) (fun i => rs.length - (intOf i).toNat)
      case atStart => exact ⟨0, by omega, rfl⟩
      case round =>
        obtain ⟨k, hk, rfl⟩ := hrel
        by_cases hlt : k < rs.length
        · obtain ⟨g2, off2, rfl, hg2, hcell⟩ := HR.out (by omega)
          have ck := hcell k hlt
          have b6 : chI (rs[k] : Int) = true := by rw [chI_nat]; exact decide_eq_true (HCH.out _ (List.getElem_mem hlt))
          generalize rs[k] = y at *
          clear hcell
          go_wp2_with (go_at_call 74; refine (character_any _ _).mono ?_; rintro e w' ⟨rfl, rfl⟩)
          go_round
          case rel => exact ⟨k + 1, by omega, by go_num⟩
          case measure => simp [intOf]; omega
        · go_wp2
          go_ret2
          exact ⟨_, rfl, HO.out, h1.trans (h2.mono h1.size)⟩

set_option maxHeartbeats 1000000 in
set_option maxRecDepth 100000 in
/-- THE CONTRACT of Chars -/
theorem chars_any (s : ByteArray) (w : World) (hs : s.size ≤ 1100000) : Calls Tryz.prog 43 #[.string s] w (ChR w.heap.size w (Sc.charsOf s.data.toList)) := by
  obtain ⟨i0, hi, hz0, hz1, hz2⟩ := info_parts info5
  have ho0 : (w.alloc (.cells #[.int .u8 239, .int .u8 187, .int .u8 191] 5)).ownsRow w.heap.size 5 1 (.slice (some ⟨w.heap.size, 0, none⟩) 3 3) 3 (Lib.byteCells [239, 187, 191]) := World.ownsRow_lit (base := w.heap.size) (e := 5) (size := 1) w #[.int .u8 239, .int .u8 187, .int .u8 191] 3 (Nat.le_refl _) (by decide) rfl
  have hal : Below w.heap.size w (w.alloc (.cells #[.int .u8 239, .int .u8 187, .int .u8 191] 5)) := (Below.refl _ _).alloc (Nat.le_refl _) _
  obtain ⟨ANS, hANS⟩ : ∃ ANS, Sc.charsOf s.data.toList = ANS := ⟨_, rfl⟩
  have CR := Lib.hid (fun a cap (w1 : World) hb hc hcm => runes_utf8 a s.data.toList cap w1 hb hc hcm (by rw [← Lib.size_eq]; exact hs))
  rw [hANS] at CR ⊢
  clear hANS
  have HO := Lib.hid ho0
  clear ho0
  go_enter Tryz.func43, Tryz.ntmps43
  go_wp2_with (at_builtin; refine Lib.wpList_append_own_string _ rfl (.tmp 7) (.tmp 8) 46 9 rfl w.heap.size 5 i0 Tryz.underlying46 Tryz.underlying9 hi hz0 hz1 hz2 _ 3 _ rfl HO.out s rfl (by simp only [maxLen]; omega) (by omega) (by rw [World.size_alloc]; omega) ?_; intro v' w' ho' hg' _)
  have hown : Own w' w.heap.size v' (239 :: 187 :: 191 :: s.data.toList) := by
    have e : (239 :: 187 :: 191 :: s.data.toList : List UInt8) = [239, 187, 191] ++ s.data.toList := rfl
    rw [e]
    refine own_of_append ho' ?_ ?_
    · rw [List.length_append, ← Lib.size_eq]; rfl
    · rw [Lib.byteCells_append]; rfl
  have hb1 : Below w.heap.size w w' := hal.grown hg' (by rw [World.size_alloc]; omega) (fun k hk => (HO.out.lt k hk).1)
  obtain ⟨a', cap', hv, hc1, hc2, hrd⟩ := hown.form
  clear ho' hg' hown HO hal
  subst hv
  go_wp2_with fail
  refine (CR.out a' cap' w' hrd hc1 hc2).mono ?_
  rintro e w2 ⟨v, rfl, ho, h2⟩
  clear CR hrd
  have HO := Lib.hid (ho.mono hb1.size)
  clear ho
  cases ANS with
  | none =>
    go_wp2
    go_ret2
    exact ⟨_, rfl, HO.out, hb1.trans (h2.mono hb1.size)⟩
  | some rs =>
    go_wp2
    go_ret2
    exact ⟨_, rfl, HO.out, hb1.trans (h2.mono hb1.size)⟩
end Go.Proofs.YthkedlcmpibkjaaGreatDoor
