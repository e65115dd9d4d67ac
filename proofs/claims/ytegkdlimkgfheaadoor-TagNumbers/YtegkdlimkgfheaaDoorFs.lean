/-
  Walk of strconv's ftoa64 at the shortest form.
-/
import Derived.Test.YtegkdlimkgfheaaDoorFq
namespace Go.Proofs.YtegkdlimkgfheaaDoor
open Go.RowKit Go.Sort

theorem OutE.lift {B : Nat} {w w4 w' : World} {e : Ending} (h : OutE B w4 e w') (hk : Kept B w w4) : OutE B w e w' := by
  obtain ⟨v', out, he, ho, hn, hl, hk'⟩ := h
  exact ⟨v', out, he, ho, hn, hl, hk.trans hk'⟩
theorem kept_new {B : Nat} {w w4 : World} (hb : Below w.heap.size w w4) (hB : B ≤ w.heap.size) : Kept B w w4 :=
  ⟨hb.mono hB, fun k _ hk _ _ => (hb.block k (Array.getElem?_eq_some_iff.1 hk).1).trans hk⟩
theorem st_new {B : Nat} {w w4 : World} {v : Value} (hst : St w B 0 w v []) (hb : Below w.heap.size w w4) (hvb : ∀ g, v.ownBlock = some g → g < w.heap.size) : St w4 B 0 w4 v [] :=
  ⟨own_past hst.1 hb hvb, Kept.refl _ _, Nat.le_trans hst.2.2.1 hb.size, hst.2.2.2⟩

set_option maxHeartbeats 4000000 in
set_option maxRecDepth 100000 in
theorem ftoa_norm101 (B : Nat) (v : Value) (X EX M m : Nat) (w : World) (hst : St w B 0 w v []) (hX : X < 18446744073709551616)
   (hA : bits BinOp.and IntKind.i64 ((X : Int) / 4503599627370496) 2047 = (EX : Int)) (hE0 : 1 ≤ EX) (hE1 : EX < 2047) (hM : bits BinOp.and IntKind.u64 (X : Int) 4503599627370495 = (M : Int)) (hO : bits BinOp.or IntKind.u64 (M : Int) 4503599627370496 = (m : Int)) (hm1 : 4503599627370496 ≤ m) (hm2 : m < 9007199254740992) (hE : Env w) (hvb : ∀ g, v.ownBlock = some g → g < w.heap.size) :
    Calls Tryd.prog 37 #[v, .float .f64 X, .int .u8 101, .int .i64 (-1)] w fun e w' => OutE B w e w' := by
  have hx : ∀ W, (callFunc 53 #[.float .f64 X]).run Tryd.prog W = .ok (.value (.int .u64 (X : Int))) W := fun W => by
    rw [run_callFunc_extern (e := Extern.MathFloatBits.float64bits) Tryd.func53 (by kernel_rfl) (by kernel_rfl) (by kernel_rfl) (by kernel_rfl)]; rfl
  have bE : ((EX : Int) == 2047) = false := beq_eq_false_iff_ne.2 (by omega)
  have bE0 : ((EX : Int) == 0) = false := beq_eq_false_iff_ne.2 (by omega)
  have bm : ((m : Int) == 0) = false := beq_eq_false_iff_ne.2 (by omega)
  have CL := Lib.hid (fun w1 => len_any m w1 (by omega) (by omega))
  have HE := Lib.hid hE
  have HST := Lib.hid hst
  have HVB := Lib.hid hvb
  clear hE hst hvb
  go_enter Tryd.func37, Tryd.ntmps37
  go_wp2
  go_quiet (fail)
  go_wp2_with fail
  refine (CL.out _).mono ?_
  rintro e w1 ⟨⟨L, rfl, hL1, hL2, hL3, hL4⟩, rfl⟩
  obtain ⟨hs0, hs1⟩ := shl_bounds m L hL1 hL2 hL3 hL4
  clear hL3 hL4 CL
  go_wp2_with fail
  obtain ⟨W, hW⟩ : ∃ W, W = (w.drewN nq).alloc (.cells #[.int .u8 0, .int .u8 0, .int .u8 0, .int .u8 0, .int .u8 0, .int .u8 0, .int .u8 0, .int .u8 0, .int .u8 0, .int .u8 0, .int .u8 0, .int .u8 0, .int .u8 0, .int .u8 0, .int .u8 0, .int .u8 0, .int .u8 0, .int .u8 0, .int .u8 0, .int .u8 0, .int .u8 0, .int .u8 0, .int .u8 0, .int .u8 0, .int .u8 0, .int .u8 0, .int .u8 0, .int .u8 0, .int .u8 0, .int .u8 0, .int .u8 0, .int .u8 0] 74) := ⟨_, rfl⟩
  rw [← hW]
  refine (short_any _ _ W hs0 hs1 (by omega) (by omega) (by rw [hW]; exact ((HE.out.drewN nq).alloc _).p10)).mono ?_
  rintro e w2 ⟨⟨d, p, rfl, hd, hp0, hp1⟩, hb2⟩
  have HE2 : Hid (Env w2) := ((by rw [hW]; exact (HE.out.drewN nq).alloc _ : Env W).below hb2 (by rw [hW, World.size_alloc]; have := HE.out.size; show 8 ≤ w.heap.size + 1; omega))
  have HB2 : Hid (Below w.heap.size w w2) := by
    have hbW : Below w.heap.size w W := by rw [hW]; exact (below_drewN (Below.refl _ w) nq).alloc (Nat.le_refl _) _
    exact hbW.trans (hb2.mono hbW.size)
  have HR : Hid (∀ nd : Nat, nd ≤ 32 → Holds encB w2.drew w.heap.size 0 (Array.replicate nd (0 : UInt8)) ∧ ∃ cs fz, w2.drew.heap[w.heap.size]? = some (.cells cs 74 fz)) :=
    (fun nd hn => buf_ready (w := w.drewN nq) (by kernel_rfl) hW (below_drewN hb2 1) hn : ∀ nd : Nat, nd ≤ 32 → Holds encB w2.drew w.heap.size 0 (Array.replicate nd (0 : UInt8)) ∧ ∃ cs fz, w2.drew.heap[w.heap.size]? = some (.cells cs 74 fz))
  clear hW hb2 hs0 hs1
  go_wp2_with fail
  go_region_with (first | (go_at_call 27; refine (nd_any d hd _ (by exact (HE2.out.drewN _).t10)).mono ?_; rintro e w3 ⟨⟨nd, rfl, hn20, hnlt⟩, rfl⟩) | (go_at_call 58; refine (setDigits_any w.heap.size d p nd w2.drew hd hn20 hnlt (by omega) (by omega) (HR.out nd (by omega)).1 (HR.out nd (by omega)).2).mono ?_; rintro e w4 ⟨⟨k, rfl, hk, hdig⟩, hb4, hsz4⟩))
  all_goals
    have hbw4 : Below w.heap.size w w4 := HB2.out.trans ((below_drewN (Below.refl _ w2) 1).trans hb4)
    obtain ⟨D, hDl, hDG, hDD⟩ := hdig.list
    have HF := Lib.hid (fun W4 (hb' : Below w.heap.size w W4) (hD' : DigL W4 w.heap.size D) neg => (fmt_any B w.heap.size v neg 101 ((nd : Int) + p) k D W4 (by decide) (st_new HST.out hb' HVB.out) (by omega) hDl (by omega) (by omega) hD' hDG (max ((k : Int) - 1) 0) rfl).mono fun _ _ h => h.lift (kept_new hb' HST.out.2.2.1))
    have HD' := Lib.hid hDD
    have HBW := Lib.hid hbw4
    clear hdig hDl hDG hDD hbw4 hb4 hsz4 hnlt HR HB2 HE2
    go_wp2_with (go_at_call 56; refine (HF.out _ HBW.out HD'.out _).mono ?_; rintro e w5 ⟨v5, o5, rfl, h5⟩)
    go_ret
    exact ⟨_, _, rfl, h5⟩

set_option maxHeartbeats 4000000 in
set_option maxRecDepth 100000 in
theorem ftoa_norm102 (B : Nat) (v : Value) (X EX M m : Nat) (w : World) (hst : St w B 0 w v []) (hX : X < 18446744073709551616)
   (hA : bits BinOp.and IntKind.i64 ((X : Int) / 4503599627370496) 2047 = (EX : Int)) (hE0 : 1 ≤ EX) (hE1 : EX < 2047) (hM : bits BinOp.and IntKind.u64 (X : Int) 4503599627370495 = (M : Int)) (hO : bits BinOp.or IntKind.u64 (M : Int) 4503599627370496 = (m : Int)) (hm1 : 4503599627370496 ≤ m) (hm2 : m < 9007199254740992) (hE : Env w) (hvb : ∀ g, v.ownBlock = some g → g < w.heap.size) :
    Calls Tryd.prog 37 #[v, .float .f64 X, .int .u8 102, .int .i64 (-1)] w fun e w' => OutE B w e w' := by
  have hx : ∀ W, (callFunc 53 #[.float .f64 X]).run Tryd.prog W = .ok (.value (.int .u64 (X : Int))) W := fun W => by
    rw [run_callFunc_extern (e := Extern.MathFloatBits.float64bits) Tryd.func53 (by kernel_rfl) (by kernel_rfl) (by kernel_rfl) (by kernel_rfl)]; rfl
  have bE : ((EX : Int) == 2047) = false := beq_eq_false_iff_ne.2 (by omega)
  have bE0 : ((EX : Int) == 0) = false := beq_eq_false_iff_ne.2 (by omega)
  have bm : ((m : Int) == 0) = false := beq_eq_false_iff_ne.2 (by omega)
  have CL := Lib.hid (fun w1 => len_any m w1 (by omega) (by omega))
  have HE := Lib.hid hE
  have HST := Lib.hid hst
  have HVB := Lib.hid hvb
  clear hE hst hvb
  go_enter Tryd.func37, Tryd.ntmps37
  go_wp2
  go_quiet (fail)
  go_wp2_with fail
  refine (CL.out _).mono ?_
  rintro e w1 ⟨⟨L, rfl, hL1, hL2, hL3, hL4⟩, rfl⟩
  obtain ⟨hs0, hs1⟩ := shl_bounds m L hL1 hL2 hL3 hL4
  clear hL3 hL4 CL
  go_wp2_with fail
  obtain ⟨W, hW⟩ : ∃ W, W = (w.drewN nq).alloc (.cells #[.int .u8 0, .int .u8 0, .int .u8 0, .int .u8 0, .int .u8 0, .int .u8 0, .int .u8 0, .int .u8 0, .int .u8 0, .int .u8 0, .int .u8 0, .int .u8 0, .int .u8 0, .int .u8 0, .int .u8 0, .int .u8 0, .int .u8 0, .int .u8 0, .int .u8 0, .int .u8 0, .int .u8 0, .int .u8 0, .int .u8 0, .int .u8 0, .int .u8 0, .int .u8 0, .int .u8 0, .int .u8 0, .int .u8 0, .int .u8 0, .int .u8 0, .int .u8 0] 74) := ⟨_, rfl⟩
  rw [← hW]
  refine (short_any _ _ W hs0 hs1 (by omega) (by omega) (by rw [hW]; exact ((HE.out.drewN nq).alloc _).p10)).mono ?_
  rintro e w2 ⟨⟨d, p, rfl, hd, hp0, hp1⟩, hb2⟩
  have HE2 : Hid (Env w2) := ((by rw [hW]; exact (HE.out.drewN nq).alloc _ : Env W).below hb2 (by rw [hW, World.size_alloc]; have := HE.out.size; show 8 ≤ w.heap.size + 1; omega))
  have HB2 : Hid (Below w.heap.size w w2) := by
    have hbW : Below w.heap.size w W := by rw [hW]; exact (below_drewN (Below.refl _ w) nq).alloc (Nat.le_refl _) _
    exact hbW.trans (hb2.mono hbW.size)
  have HR : Hid (∀ nd : Nat, nd ≤ 32 → Holds encB w2.drew w.heap.size 0 (Array.replicate nd (0 : UInt8)) ∧ ∃ cs fz, w2.drew.heap[w.heap.size]? = some (.cells cs 74 fz)) :=
    (fun nd hn => buf_ready (w := w.drewN nq) (by kernel_rfl) hW (below_drewN hb2 1) hn : ∀ nd : Nat, nd ≤ 32 → Holds encB w2.drew w.heap.size 0 (Array.replicate nd (0 : UInt8)) ∧ ∃ cs fz, w2.drew.heap[w.heap.size]? = some (.cells cs 74 fz))
  clear hW hb2 hs0 hs1
  go_wp2_with fail
  go_region_with (first | (go_at_call 27; refine (nd_any d hd _ (by exact (HE2.out.drewN _).t10)).mono ?_; rintro e w3 ⟨⟨nd, rfl, hn20, hnlt⟩, rfl⟩) | (go_at_call 58; refine (setDigits_any w.heap.size d p nd w2.drew hd hn20 hnlt (by omega) (by omega) (HR.out nd (by omega)).1 (HR.out nd (by omega)).2).mono ?_; rintro e w4 ⟨⟨k, rfl, hk, hdig⟩, hb4, hsz4⟩))
  all_goals
    have hbw4 : Below w.heap.size w w4 := HB2.out.trans ((below_drewN (Below.refl _ w2) 1).trans hb4)
    obtain ⟨D, hDl, hDG, hDD⟩ := hdig.list
    have HF := Lib.hid (fun W4 (hb' : Below w.heap.size w W4) (hD' : DigL W4 w.heap.size D) neg => (fmt_any B w.heap.size v neg 102 ((nd : Int) + p) k D W4 (by decide) (st_new HST.out hb' HVB.out) (by omega) hDl (by omega) (by omega) hD' hDG (max ((k : Int) - ((nd : Int) + p)) 0) rfl).mono fun _ _ h => h.lift (kept_new hb' HST.out.2.2.1))
    have HD' := Lib.hid hDD
    have HBW := Lib.hid hbw4
    clear hdig hDl hDG hDD hbw4 hb4 hsz4 hnlt HR HB2 HE2
    go_wp2_with (go_at_call 56; refine (HF.out _ HBW.out HD'.out _).mono ?_; rintro e w5 ⟨v5, o5, rfl, h5⟩)
    go_ret
    exact ⟨_, _, rfl, h5⟩

set_option maxHeartbeats 4000000 in
set_option maxRecDepth 100000 in
theorem ftoa_norm103 (B : Nat) (v : Value) (X EX M m : Nat) (w : World) (hst : St w B 0 w v []) (hX : X < 18446744073709551616)
   (hA : bits BinOp.and IntKind.i64 ((X : Int) / 4503599627370496) 2047 = (EX : Int)) (hE0 : 1 ≤ EX) (hE1 : EX < 2047) (hM : bits BinOp.and IntKind.u64 (X : Int) 4503599627370495 = (M : Int)) (hO : bits BinOp.or IntKind.u64 (M : Int) 4503599627370496 = (m : Int)) (hm1 : 4503599627370496 ≤ m) (hm2 : m < 9007199254740992) (hE : Env w) (hvb : ∀ g, v.ownBlock = some g → g < w.heap.size) :
    Calls Tryd.prog 37 #[v, .float .f64 X, .int .u8 103, .int .i64 (-1)] w fun e w' => OutE B w e w' := by
  have hx : ∀ W, (callFunc 53 #[.float .f64 X]).run Tryd.prog W = .ok (.value (.int .u64 (X : Int))) W := fun W => by
    rw [run_callFunc_extern (e := Extern.MathFloatBits.float64bits) Tryd.func53 (by kernel_rfl) (by kernel_rfl) (by kernel_rfl) (by kernel_rfl)]; rfl
  have bE : ((EX : Int) == 2047) = false := beq_eq_false_iff_ne.2 (by omega)
  have bE0 : ((EX : Int) == 0) = false := beq_eq_false_iff_ne.2 (by omega)
  have bm : ((m : Int) == 0) = false := beq_eq_false_iff_ne.2 (by omega)
  have CL := Lib.hid (fun w1 => len_any m w1 (by omega) (by omega))
  have HE := Lib.hid hE
  have HST := Lib.hid hst
  have HVB := Lib.hid hvb
  clear hE hst hvb
  go_enter Tryd.func37, Tryd.ntmps37
  go_wp2
  go_quiet (fail)
  go_wp2_with fail
  refine (CL.out _).mono ?_
  rintro e w1 ⟨⟨L, rfl, hL1, hL2, hL3, hL4⟩, rfl⟩
  obtain ⟨hs0, hs1⟩ := shl_bounds m L hL1 hL2 hL3 hL4
  clear hL3 hL4 CL
  go_wp2_with fail
  obtain ⟨W, hW⟩ : ∃ W, W = (w.drewN nq).alloc (.cells #[.int .u8 0, .int .u8 0, .int .u8 0, .int .u8 0, .int .u8 0, .int .u8 0, .int .u8 0, .int .u8 0, .int .u8 0, .int .u8 0, .int .u8 0, .int .u8 0, .int .u8 0, .int .u8 0, .int .u8 0, .int .u8 0, .int .u8 0, .int .u8 0, .int .u8 0, .int .u8 0, .int .u8 0, .int .u8 0, .int .u8 0, .int .u8 0, .int .u8 0, .int .u8 0, .int .u8 0, .int .u8 0, .int .u8 0, .int .u8 0, .int .u8 0, .int .u8 0] 74) := ⟨_, rfl⟩
  rw [← hW]
  refine (short_any _ _ W hs0 hs1 (by omega) (by omega) (by rw [hW]; exact ((HE.out.drewN nq).alloc _).p10)).mono ?_
  rintro e w2 ⟨⟨d, p, rfl, hd, hp0, hp1⟩, hb2⟩
  have HE2 : Hid (Env w2) := ((by rw [hW]; exact (HE.out.drewN nq).alloc _ : Env W).below hb2 (by rw [hW, World.size_alloc]; have := HE.out.size; show 8 ≤ w.heap.size + 1; omega))
  have HB2 : Hid (Below w.heap.size w w2) := by
    have hbW : Below w.heap.size w W := by rw [hW]; exact (below_drewN (Below.refl _ w) nq).alloc (Nat.le_refl _) _
    exact hbW.trans (hb2.mono hbW.size)
  have HR : Hid (∀ nd : Nat, nd ≤ 32 → Holds encB w2.drew w.heap.size 0 (Array.replicate nd (0 : UInt8)) ∧ ∃ cs fz, w2.drew.heap[w.heap.size]? = some (.cells cs 74 fz)) :=
    (fun nd hn => buf_ready (w := w.drewN nq) (by kernel_rfl) hW (below_drewN hb2 1) hn : ∀ nd : Nat, nd ≤ 32 → Holds encB w2.drew w.heap.size 0 (Array.replicate nd (0 : UInt8)) ∧ ∃ cs fz, w2.drew.heap[w.heap.size]? = some (.cells cs 74 fz))
  clear hW hb2 hs0 hs1
  go_wp2_with fail
  go_region_with (first | (go_at_call 27; refine (nd_any d hd _ (by exact (HE2.out.drewN _).t10)).mono ?_; rintro e w3 ⟨⟨nd, rfl, hn20, hnlt⟩, rfl⟩) | (go_at_call 58; refine (setDigits_any w.heap.size d p nd w2.drew hd hn20 hnlt (by omega) (by omega) (HR.out nd (by omega)).1 (HR.out nd (by omega)).2).mono ?_; rintro e w4 ⟨⟨k, rfl, hk, hdig⟩, hb4, hsz4⟩))
  all_goals
    have hbw4 : Below w.heap.size w w4 := HB2.out.trans ((below_drewN (Below.refl _ w2) 1).trans hb4)
    obtain ⟨D, hDl, hDG, hDD⟩ := hdig.list
    have HF := Lib.hid (fun W4 (hb' : Below w.heap.size w W4) (hD' : DigL W4 w.heap.size D) neg => (fmt_any B w.heap.size v neg 103 ((nd : Int) + p) k D W4 (by decide) (st_new HST.out hb' HVB.out) (by omega) hDl (by omega) (by omega) hD' hDG ((k : Int)) rfl).mono fun _ _ h => h.lift (kept_new hb' HST.out.2.2.1))
    have HD' := Lib.hid hDD
    have HBW := Lib.hid hbw4
    clear hdig hDl hDG hDD hbw4 hb4 hsz4 hnlt HR HB2 HE2
    go_wp2_with (go_at_call 56; refine (HF.out _ HBW.out HD'.out _).mono ?_; rintro e w5 ⟨v5, o5, rfl, h5⟩)
    go_ret
    exact ⟨_, _, rfl, h5⟩

set_option maxHeartbeats 4000000 in
set_option maxRecDepth 100000 in
theorem ftoa_norm69 (B : Nat) (v : Value) (X EX M m : Nat) (w : World) (hst : St w B 0 w v []) (hX : X < 18446744073709551616)
   (hA : bits BinOp.and IntKind.i64 ((X : Int) / 4503599627370496) 2047 = (EX : Int)) (hE0 : 1 ≤ EX) (hE1 : EX < 2047) (hM : bits BinOp.and IntKind.u64 (X : Int) 4503599627370495 = (M : Int)) (hO : bits BinOp.or IntKind.u64 (M : Int) 4503599627370496 = (m : Int)) (hm1 : 4503599627370496 ≤ m) (hm2 : m < 9007199254740992) (hE : Env w) (hvb : ∀ g, v.ownBlock = some g → g < w.heap.size) :
    Calls Tryd.prog 37 #[v, .float .f64 X, .int .u8 69, .int .i64 (-1)] w fun e w' => OutE B w e w' := by
  have hx : ∀ W, (callFunc 53 #[.float .f64 X]).run Tryd.prog W = .ok (.value (.int .u64 (X : Int))) W := fun W => by
    rw [run_callFunc_extern (e := Extern.MathFloatBits.float64bits) Tryd.func53 (by kernel_rfl) (by kernel_rfl) (by kernel_rfl) (by kernel_rfl)]; rfl
  have bE : ((EX : Int) == 2047) = false := beq_eq_false_iff_ne.2 (by omega)
  have bE0 : ((EX : Int) == 0) = false := beq_eq_false_iff_ne.2 (by omega)
  have bm : ((m : Int) == 0) = false := beq_eq_false_iff_ne.2 (by omega)
  have CL := Lib.hid (fun w1 => len_any m w1 (by omega) (by omega))
  have HE := Lib.hid hE
  have HST := Lib.hid hst
  have HVB := Lib.hid hvb
  clear hE hst hvb
  go_enter Tryd.func37, Tryd.ntmps37
  go_wp2
  go_quiet (fail)
  go_wp2_with fail
  refine (CL.out _).mono ?_
  rintro e w1 ⟨⟨L, rfl, hL1, hL2, hL3, hL4⟩, rfl⟩
  obtain ⟨hs0, hs1⟩ := shl_bounds m L hL1 hL2 hL3 hL4
  clear hL3 hL4 CL
  go_wp2_with fail
  obtain ⟨W, hW⟩ : ∃ W, W = (w.drewN nq).alloc (.cells #[.int .u8 0, .int .u8 0, .int .u8 0, .int .u8 0, .int .u8 0, .int .u8 0, .int .u8 0, .int .u8 0, .int .u8 0, .int .u8 0, .int .u8 0, .int .u8 0, .int .u8 0, .int .u8 0, .int .u8 0, .int .u8 0, .int .u8 0, .int .u8 0, .int .u8 0, .int .u8 0, .int .u8 0, .int .u8 0, .int .u8 0, .int .u8 0, .int .u8 0, .int .u8 0, .int .u8 0, .int .u8 0, .int .u8 0, .int .u8 0, .int .u8 0, .int .u8 0] 74) := ⟨_, rfl⟩
  rw [← hW]
  refine (short_any _ _ W hs0 hs1 (by omega) (by omega) (by rw [hW]; exact ((HE.out.drewN nq).alloc _).p10)).mono ?_
  rintro e w2 ⟨⟨d, p, rfl, hd, hp0, hp1⟩, hb2⟩
  have HE2 : Hid (Env w2) := ((by rw [hW]; exact (HE.out.drewN nq).alloc _ : Env W).below hb2 (by rw [hW, World.size_alloc]; have := HE.out.size; show 8 ≤ w.heap.size + 1; omega))
  have HB2 : Hid (Below w.heap.size w w2) := by
    have hbW : Below w.heap.size w W := by rw [hW]; exact (below_drewN (Below.refl _ w) nq).alloc (Nat.le_refl _) _
    exact hbW.trans (hb2.mono hbW.size)
  have HR : Hid (∀ nd : Nat, nd ≤ 32 → Holds encB w2.drew w.heap.size 0 (Array.replicate nd (0 : UInt8)) ∧ ∃ cs fz, w2.drew.heap[w.heap.size]? = some (.cells cs 74 fz)) :=
    (fun nd hn => buf_ready (w := w.drewN nq) (by kernel_rfl) hW (below_drewN hb2 1) hn : ∀ nd : Nat, nd ≤ 32 → Holds encB w2.drew w.heap.size 0 (Array.replicate nd (0 : UInt8)) ∧ ∃ cs fz, w2.drew.heap[w.heap.size]? = some (.cells cs 74 fz))
  clear hW hb2 hs0 hs1
  go_wp2_with fail
  go_region_with (first | (go_at_call 27; refine (nd_any d hd _ (by exact (HE2.out.drewN _).t10)).mono ?_; rintro e w3 ⟨⟨nd, rfl, hn20, hnlt⟩, rfl⟩) | (go_at_call 58; refine (setDigits_any w.heap.size d p nd w2.drew hd hn20 hnlt (by omega) (by omega) (HR.out nd (by omega)).1 (HR.out nd (by omega)).2).mono ?_; rintro e w4 ⟨⟨k, rfl, hk, hdig⟩, hb4, hsz4⟩))
  all_goals
    have hbw4 : Below w.heap.size w w4 := HB2.out.trans ((below_drewN (Below.refl _ w2) 1).trans hb4)
    obtain ⟨D, hDl, hDG, hDD⟩ := hdig.list
    have HF := Lib.hid (fun W4 (hb' : Below w.heap.size w W4) (hD' : DigL W4 w.heap.size D) neg => (fmt_any B w.heap.size v neg 69 ((nd : Int) + p) k D W4 (by decide) (st_new HST.out hb' HVB.out) (by omega) hDl (by omega) (by omega) hD' hDG (max ((k : Int) - 1) 0) rfl).mono fun _ _ h => h.lift (kept_new hb' HST.out.2.2.1))
    have HD' := Lib.hid hDD
    have HBW := Lib.hid hbw4
    clear hdig hDl hDG hDD hbw4 hb4 hsz4 hnlt HR HB2 HE2
    go_wp2_with (go_at_call 56; refine (HF.out _ HBW.out HD'.out _).mono ?_; rintro e w5 ⟨v5, o5, rfl, h5⟩)
    go_ret
    exact ⟨_, _, rfl, h5⟩

set_option maxHeartbeats 4000000 in
set_option maxRecDepth 100000 in
theorem ftoa_sub101 (B : Nat) (v : Value) (X m : Nat) (w : World) (hst : St w B 0 w v []) (hX : X < 18446744073709551616)
   (hA : bits BinOp.and IntKind.i64 ((X : Int) / 4503599627370496) 2047 = 0) (hM : bits BinOp.and IntKind.u64 (X : Int) 4503599627370495 = (m : Int)) (hm1 : 1 ≤ m) (hm2 : m < 4503599627370496) (hE : Env w) (hvb : ∀ g, v.ownBlock = some g → g < w.heap.size) :
    Calls Tryd.prog 37 #[v, .float .f64 X, .int .u8 101, .int .i64 (-1)] w fun e w' => OutE B w e w' := by
  have hx : ∀ W, (callFunc 53 #[.float .f64 X]).run Tryd.prog W = .ok (.value (.int .u64 (X : Int))) W := fun W => by
    rw [run_callFunc_extern (e := Extern.MathFloatBits.float64bits) Tryd.func53 (by kernel_rfl) (by kernel_rfl) (by kernel_rfl) (by kernel_rfl)]; rfl
  have bm : ((m : Int) == 0) = false := beq_eq_false_iff_ne.2 (by omega)
  have CL := Lib.hid (fun w1 => len_any m w1 (by omega) (by omega))
  have HE := Lib.hid hE
  have HST := Lib.hid hst
  have HVB := Lib.hid hvb
  clear hE hst hvb
  go_enter Tryd.func37, Tryd.ntmps37
  go_wp2
  go_quiet (fail)
  go_wp2_with fail
  refine (CL.out _).mono ?_
  rintro e w1 ⟨⟨L, rfl, hL1, hL2, hL3, hL4⟩, rfl⟩
  obtain ⟨hs0, hs1⟩ := shl_bounds m L hL1 hL2 hL3 hL4
  clear hL3 hL4 CL
  go_wp2_with fail
  obtain ⟨W, hW⟩ : ∃ W, W = (w.drewN nq).alloc (.cells #[.int .u8 0, .int .u8 0, .int .u8 0, .int .u8 0, .int .u8 0, .int .u8 0, .int .u8 0, .int .u8 0, .int .u8 0, .int .u8 0, .int .u8 0, .int .u8 0, .int .u8 0, .int .u8 0, .int .u8 0, .int .u8 0, .int .u8 0, .int .u8 0, .int .u8 0, .int .u8 0, .int .u8 0, .int .u8 0, .int .u8 0, .int .u8 0, .int .u8 0, .int .u8 0, .int .u8 0, .int .u8 0, .int .u8 0, .int .u8 0, .int .u8 0, .int .u8 0] 74) := ⟨_, rfl⟩
  rw [← hW]
  refine (short_any _ _ W hs0 hs1 (by omega) (by omega) (by rw [hW]; exact ((HE.out.drewN nq).alloc _).p10)).mono ?_
  rintro e w2 ⟨⟨d, p, rfl, hd, hp0, hp1⟩, hb2⟩
  have HE2 : Hid (Env w2) := ((by rw [hW]; exact (HE.out.drewN nq).alloc _ : Env W).below hb2 (by rw [hW, World.size_alloc]; have := HE.out.size; show 8 ≤ w.heap.size + 1; omega))
  have HB2 : Hid (Below w.heap.size w w2) := by
    have hbW : Below w.heap.size w W := by rw [hW]; exact (below_drewN (Below.refl _ w) nq).alloc (Nat.le_refl _) _
    exact hbW.trans (hb2.mono hbW.size)
  have HR : Hid (∀ nd : Nat, nd ≤ 32 → Holds encB w2.drew w.heap.size 0 (Array.replicate nd (0 : UInt8)) ∧ ∃ cs fz, w2.drew.heap[w.heap.size]? = some (.cells cs 74 fz)) :=
    (fun nd hn => buf_ready (w := w.drewN nq) (by kernel_rfl) hW (below_drewN hb2 1) hn : ∀ nd : Nat, nd ≤ 32 → Holds encB w2.drew w.heap.size 0 (Array.replicate nd (0 : UInt8)) ∧ ∃ cs fz, w2.drew.heap[w.heap.size]? = some (.cells cs 74 fz))
  clear hW hb2 hs0 hs1
  go_wp2_with fail
  go_region_with (first | (go_at_call 27; refine (nd_any d hd _ (by exact (HE2.out.drewN _).t10)).mono ?_; rintro e w3 ⟨⟨nd, rfl, hn20, hnlt⟩, rfl⟩) | (go_at_call 58; refine (setDigits_any w.heap.size d p nd w2.drew hd hn20 hnlt (by omega) (by omega) (HR.out nd (by omega)).1 (HR.out nd (by omega)).2).mono ?_; rintro e w4 ⟨⟨k, rfl, hk, hdig⟩, hb4, hsz4⟩))
  all_goals
    have hbw4 : Below w.heap.size w w4 := HB2.out.trans ((below_drewN (Below.refl _ w2) 1).trans hb4)
    obtain ⟨D, hDl, hDG, hDD⟩ := hdig.list
    have HF := Lib.hid (fun W4 (hb' : Below w.heap.size w W4) (hD' : DigL W4 w.heap.size D) neg => (fmt_any B w.heap.size v neg 101 ((nd : Int) + p) k D W4 (by decide) (st_new HST.out hb' HVB.out) (by omega) hDl (by omega) (by omega) hD' hDG (max ((k : Int) - 1) 0) rfl).mono fun _ _ h => h.lift (kept_new hb' HST.out.2.2.1))
    have HD' := Lib.hid hDD
    have HBW := Lib.hid hbw4
    clear hdig hDl hDG hDD hbw4 hb4 hsz4 hnlt HR HB2 HE2
    go_wp2_with (go_at_call 56; refine (HF.out _ HBW.out HD'.out _).mono ?_; rintro e w5 ⟨v5, o5, rfl, h5⟩)
    go_ret
    exact ⟨_, _, rfl, h5⟩

set_option maxHeartbeats 4000000 in
set_option maxRecDepth 100000 in
theorem ftoa_sub102 (B : Nat) (v : Value) (X m : Nat) (w : World) (hst : St w B 0 w v []) (hX : X < 18446744073709551616)
   (hA : bits BinOp.and IntKind.i64 ((X : Int) / 4503599627370496) 2047 = 0) (hM : bits BinOp.and IntKind.u64 (X : Int) 4503599627370495 = (m : Int)) (hm1 : 1 ≤ m) (hm2 : m < 4503599627370496) (hE : Env w) (hvb : ∀ g, v.ownBlock = some g → g < w.heap.size) :
    Calls Tryd.prog 37 #[v, .float .f64 X, .int .u8 102, .int .i64 (-1)] w fun e w' => OutE B w e w' := by
  have hx : ∀ W, (callFunc 53 #[.float .f64 X]).run Tryd.prog W = .ok (.value (.int .u64 (X : Int))) W := fun W => by
    rw [run_callFunc_extern (e := Extern.MathFloatBits.float64bits) Tryd.func53 (by kernel_rfl) (by kernel_rfl) (by kernel_rfl) (by kernel_rfl)]; rfl
  have bm : ((m : Int) == 0) = false := beq_eq_false_iff_ne.2 (by omega)
  have CL := Lib.hid (fun w1 => len_any m w1 (by omega) (by omega))
  have HE := Lib.hid hE
  have HST := Lib.hid hst
  have HVB := Lib.hid hvb
  clear hE hst hvb
  go_enter Tryd.func37, Tryd.ntmps37
  go_wp2
  go_quiet (fail)
  go_wp2_with fail
  refine (CL.out _).mono ?_
  rintro e w1 ⟨⟨L, rfl, hL1, hL2, hL3, hL4⟩, rfl⟩
  obtain ⟨hs0, hs1⟩ := shl_bounds m L hL1 hL2 hL3 hL4
  clear hL3 hL4 CL
  go_wp2_with fail
  obtain ⟨W, hW⟩ : ∃ W, W = (w.drewN nq).alloc (.cells #[.int .u8 0, .int .u8 0, .int .u8 0, .int .u8 0, .int .u8 0, .int .u8 0, .int .u8 0, .int .u8 0, .int .u8 0, .int .u8 0, .int .u8 0, .int .u8 0, .int .u8 0, .int .u8 0, .int .u8 0, .int .u8 0, .int .u8 0, .int .u8 0, .int .u8 0, .int .u8 0, .int .u8 0, .int .u8 0, .int .u8 0, .int .u8 0, .int .u8 0, .int .u8 0, .int .u8 0, .int .u8 0, .int .u8 0, .int .u8 0, .int .u8 0, .int .u8 0] 74) := ⟨_, rfl⟩
  rw [← hW]
  refine (short_any _ _ W hs0 hs1 (by omega) (by omega) (by rw [hW]; exact ((HE.out.drewN nq).alloc _).p10)).mono ?_
  rintro e w2 ⟨⟨d, p, rfl, hd, hp0, hp1⟩, hb2⟩
  have HE2 : Hid (Env w2) := ((by rw [hW]; exact (HE.out.drewN nq).alloc _ : Env W).below hb2 (by rw [hW, World.size_alloc]; have := HE.out.size; show 8 ≤ w.heap.size + 1; omega))
  have HB2 : Hid (Below w.heap.size w w2) := by
    have hbW : Below w.heap.size w W := by rw [hW]; exact (below_drewN (Below.refl _ w) nq).alloc (Nat.le_refl _) _
    exact hbW.trans (hb2.mono hbW.size)
  have HR : Hid (∀ nd : Nat, nd ≤ 32 → Holds encB w2.drew w.heap.size 0 (Array.replicate nd (0 : UInt8)) ∧ ∃ cs fz, w2.drew.heap[w.heap.size]? = some (.cells cs 74 fz)) :=
    (fun nd hn => buf_ready (w := w.drewN nq) (by kernel_rfl) hW (below_drewN hb2 1) hn : ∀ nd : Nat, nd ≤ 32 → Holds encB w2.drew w.heap.size 0 (Array.replicate nd (0 : UInt8)) ∧ ∃ cs fz, w2.drew.heap[w.heap.size]? = some (.cells cs 74 fz))
  clear hW hb2 hs0 hs1
  go_wp2_with fail
  go_region_with (first | (go_at_call 27; refine (nd_any d hd _ (by exact (HE2.out.drewN _).t10)).mono ?_; rintro e w3 ⟨⟨nd, rfl, hn20, hnlt⟩, rfl⟩) | (go_at_call 58; refine (setDigits_any w.heap.size d p nd w2.drew hd hn20 hnlt (by omega) (by omega) (HR.out nd (by omega)).1 (HR.out nd (by omega)).2).mono ?_; rintro e w4 ⟨⟨k, rfl, hk, hdig⟩, hb4, hsz4⟩))
  all_goals
    have hbw4 : Below w.heap.size w w4 := HB2.out.trans ((below_drewN (Below.refl _ w2) 1).trans hb4)
    obtain ⟨D, hDl, hDG, hDD⟩ := hdig.list
    have HF := Lib.hid (fun W4 (hb' : Below w.heap.size w W4) (hD' : DigL W4 w.heap.size D) neg => (fmt_any B w.heap.size v neg 102 ((nd : Int) + p) k D W4 (by decide) (st_new HST.out hb' HVB.out) (by omega) hDl (by omega) (by omega) hD' hDG (max ((k : Int) - ((nd : Int) + p)) 0) rfl).mono fun _ _ h => h.lift (kept_new hb' HST.out.2.2.1))
    have HD' := Lib.hid hDD
    have HBW := Lib.hid hbw4
    clear hdig hDl hDG hDD hbw4 hb4 hsz4 hnlt HR HB2 HE2
    go_wp2_with (go_at_call 56; refine (HF.out _ HBW.out HD'.out _).mono ?_; rintro e w5 ⟨v5, o5, rfl, h5⟩)
    go_ret
    exact ⟨_, _, rfl, h5⟩

set_option maxHeartbeats 4000000 in
set_option maxRecDepth 100000 in
theorem ftoa_sub103 (B : Nat) (v : Value) (X m : Nat) (w : World) (hst : St w B 0 w v []) (hX : X < 18446744073709551616)
   (hA : bits BinOp.and IntKind.i64 ((X : Int) / 4503599627370496) 2047 = 0) (hM : bits BinOp.and IntKind.u64 (X : Int) 4503599627370495 = (m : Int)) (hm1 : 1 ≤ m) (hm2 : m < 4503599627370496) (hE : Env w) (hvb : ∀ g, v.ownBlock = some g → g < w.heap.size) :
    Calls Tryd.prog 37 #[v, .float .f64 X, .int .u8 103, .int .i64 (-1)] w fun e w' => OutE B w e w' := by
  have hx : ∀ W, (callFunc 53 #[.float .f64 X]).run Tryd.prog W = .ok (.value (.int .u64 (X : Int))) W := fun W => by
    rw [run_callFunc_extern (e := Extern.MathFloatBits.float64bits) Tryd.func53 (by kernel_rfl) (by kernel_rfl) (by kernel_rfl) (by kernel_rfl)]; rfl
  have bm : ((m : Int) == 0) = false := beq_eq_false_iff_ne.2 (by omega)
  have CL := Lib.hid (fun w1 => len_any m w1 (by omega) (by omega))
  have HE := Lib.hid hE
  have HST := Lib.hid hst
  have HVB := Lib.hid hvb
  clear hE hst hvb
  go_enter Tryd.func37, Tryd.ntmps37
  go_wp2
  go_quiet (fail)
  go_wp2_with fail
  refine (CL.out _).mono ?_
  rintro e w1 ⟨⟨L, rfl, hL1, hL2, hL3, hL4⟩, rfl⟩
  obtain ⟨hs0, hs1⟩ := shl_bounds m L hL1 hL2 hL3 hL4
  clear hL3 hL4 CL
  go_wp2_with fail
  obtain ⟨W, hW⟩ : ∃ W, W = (w.drewN nq).alloc (.cells #[.int .u8 0, .int .u8 0, .int .u8 0, .int .u8 0, .int .u8 0, .int .u8 0, .int .u8 0, .int .u8 0, .int .u8 0, .int .u8 0, .int .u8 0, .int .u8 0, .int .u8 0, .int .u8 0, .int .u8 0, .int .u8 0, .int .u8 0, .int .u8 0, .int .u8 0, .int .u8 0, .int .u8 0, .int .u8 0, .int .u8 0, .int .u8 0, .int .u8 0, .int .u8 0, .int .u8 0, .int .u8 0, .int .u8 0, .int .u8 0, .int .u8 0, .int .u8 0] 74) := ⟨_, rfl⟩
  rw [← hW]
  refine (short_any _ _ W hs0 hs1 (by omega) (by omega) (by rw [hW]; exact ((HE.out.drewN nq).alloc _).p10)).mono ?_
  rintro e w2 ⟨⟨d, p, rfl, hd, hp0, hp1⟩, hb2⟩
  have HE2 : Hid (Env w2) := ((by rw [hW]; exact (HE.out.drewN nq).alloc _ : Env W).below hb2 (by rw [hW, World.size_alloc]; have := HE.out.size; show 8 ≤ w.heap.size + 1; omega))
  have HB2 : Hid (Below w.heap.size w w2) := by
    have hbW : Below w.heap.size w W := by rw [hW]; exact (below_drewN (Below.refl _ w) nq).alloc (Nat.le_refl _) _
    exact hbW.trans (hb2.mono hbW.size)
  have HR : Hid (∀ nd : Nat, nd ≤ 32 → Holds encB w2.drew w.heap.size 0 (Array.replicate nd (0 : UInt8)) ∧ ∃ cs fz, w2.drew.heap[w.heap.size]? = some (.cells cs 74 fz)) :=
    (fun nd hn => buf_ready (w := w.drewN nq) (by kernel_rfl) hW (below_drewN hb2 1) hn : ∀ nd : Nat, nd ≤ 32 → Holds encB w2.drew w.heap.size 0 (Array.replicate nd (0 : UInt8)) ∧ ∃ cs fz, w2.drew.heap[w.heap.size]? = some (.cells cs 74 fz))
  clear hW hb2 hs0 hs1
  go_wp2_with fail
  go_region_with (first | (go_at_call 27; refine (nd_any d hd _ (by exact (HE2.out.drewN _).t10)).mono ?_; rintro e w3 ⟨⟨nd, rfl, hn20, hnlt⟩, rfl⟩) | (go_at_call 58; refine (setDigits_any w.heap.size d p nd w2.drew hd hn20 hnlt (by omega) (by omega) (HR.out nd (by omega)).1 (HR.out nd (by omega)).2).mono ?_; rintro e w4 ⟨⟨k, rfl, hk, hdig⟩, hb4, hsz4⟩))
  all_goals
    have hbw4 : Below w.heap.size w w4 := HB2.out.trans ((below_drewN (Below.refl _ w2) 1).trans hb4)
    obtain ⟨D, hDl, hDG, hDD⟩ := hdig.list
    have HF := Lib.hid (fun W4 (hb' : Below w.heap.size w W4) (hD' : DigL W4 w.heap.size D) neg => (fmt_any B w.heap.size v neg 103 ((nd : Int) + p) k D W4 (by decide) (st_new HST.out hb' HVB.out) (by omega) hDl (by omega) (by omega) hD' hDG ((k : Int)) rfl).mono fun _ _ h => h.lift (kept_new hb' HST.out.2.2.1))
    have HD' := Lib.hid hDD
    have HBW := Lib.hid hbw4
    clear hdig hDl hDG hDD hbw4 hb4 hsz4 hnlt HR HB2 HE2
    go_wp2_with (go_at_call 56; refine (HF.out _ HBW.out HD'.out _).mono ?_; rintro e w5 ⟨v5, o5, rfl, h5⟩)
    go_ret
    exact ⟨_, _, rfl, h5⟩

set_option maxHeartbeats 4000000 in
set_option maxRecDepth 100000 in
theorem ftoa_sub69 (B : Nat) (v : Value) (X m : Nat) (w : World) (hst : St w B 0 w v []) (hX : X < 18446744073709551616)
   (hA : bits BinOp.and IntKind.i64 ((X : Int) / 4503599627370496) 2047 = 0) (hM : bits BinOp.and IntKind.u64 (X : Int) 4503599627370495 = (m : Int)) (hm1 : 1 ≤ m) (hm2 : m < 4503599627370496) (hE : Env w) (hvb : ∀ g, v.ownBlock = some g → g < w.heap.size) :
    Calls Tryd.prog 37 #[v, .float .f64 X, .int .u8 69, .int .i64 (-1)] w fun e w' => OutE B w e w' := by
  have hx : ∀ W, (callFunc 53 #[.float .f64 X]).run Tryd.prog W = .ok (.value (.int .u64 (X : Int))) W := fun W => by
    rw [run_callFunc_extern (e := Extern.MathFloatBits.float64bits) Tryd.func53 (by kernel_rfl) (by kernel_rfl) (by kernel_rfl) (by kernel_rfl)]; rfl
  have bm : ((m : Int) == 0) = false := beq_eq_false_iff_ne.2 (by omega)
  have CL := Lib.hid (fun w1 => len_any m w1 (by omega) (by omega))
  have HE := Lib.hid hE
  have HST := Lib.hid hst
  have HVB := Lib.hid hvb
  clear hE hst hvb
  go_enter Tryd.func37, Tryd.ntmps37
  go_wp2
  go_quiet (fail)
  go_wp2_with fail
  refine (CL.out _).mono ?_
  rintro e w1 ⟨⟨L, rfl, hL1, hL2, hL3, hL4⟩, rfl⟩
  obtain ⟨hs0, hs1⟩ := shl_bounds m L hL1 hL2 hL3 hL4
  clear hL3 hL4 CL
  go_wp2_with fail
  obtain ⟨W, hW⟩ : ∃ W, W = (w.drewN nq).alloc (.cells #[.int .u8 0, .int .u8 0, .int .u8 0, .int .u8 0, .int .u8 0, .int .u8 0, .int .u8 0, .int .u8 0, .int .u8 0, .int .u8 0, .int .u8 0, .int .u8 0, .int .u8 0, .int .u8 0, .int .u8 0, .int .u8 0, .int .u8 0, .int .u8 0, .int .u8 0, .int .u8 0, .int .u8 0, .int .u8 0, .int .u8 0, .int .u8 0, .int .u8 0, .int .u8 0, .int .u8 0, .int .u8 0, .int .u8 0, .int .u8 0, .int .u8 0, .int .u8 0] 74) := ⟨_, rfl⟩
  rw [← hW]
  refine (short_any _ _ W hs0 hs1 (by omega) (by omega) (by rw [hW]; exact ((HE.out.drewN nq).alloc _).p10)).mono ?_
  rintro e w2 ⟨⟨d, p, rfl, hd, hp0, hp1⟩, hb2⟩
  have HE2 : Hid (Env w2) := ((by rw [hW]; exact (HE.out.drewN nq).alloc _ : Env W).below hb2 (by rw [hW, World.size_alloc]; have := HE.out.size; show 8 ≤ w.heap.size + 1; omega))
  have HB2 : Hid (Below w.heap.size w w2) := by
    have hbW : Below w.heap.size w W := by rw [hW]; exact (below_drewN (Below.refl _ w) nq).alloc (Nat.le_refl _) _
    exact hbW.trans (hb2.mono hbW.size)
  have HR : Hid (∀ nd : Nat, nd ≤ 32 → Holds encB w2.drew w.heap.size 0 (Array.replicate nd (0 : UInt8)) ∧ ∃ cs fz, w2.drew.heap[w.heap.size]? = some (.cells cs 74 fz)) :=
    (fun nd hn => buf_ready (w := w.drewN nq) (by kernel_rfl) hW (below_drewN hb2 1) hn : ∀ nd : Nat, nd ≤ 32 → Holds encB w2.drew w.heap.size 0 (Array.replicate nd (0 : UInt8)) ∧ ∃ cs fz, w2.drew.heap[w.heap.size]? = some (.cells cs 74 fz))
  clear hW hb2 hs0 hs1
  go_wp2_with fail
  go_region_with (first | (go_at_call 27; refine (nd_any d hd _ (by exact (HE2.out.drewN _).t10)).mono ?_; rintro e w3 ⟨⟨nd, rfl, hn20, hnlt⟩, rfl⟩) | (go_at_call 58; refine (setDigits_any w.heap.size d p nd w2.drew hd hn20 hnlt (by omega) (by omega) (HR.out nd (by omega)).1 (HR.out nd (by omega)).2).mono ?_; rintro e w4 ⟨⟨k, rfl, hk, hdig⟩, hb4, hsz4⟩))
  all_goals
    have hbw4 : Below w.heap.size w w4 := HB2.out.trans ((below_drewN (Below.refl _ w2) 1).trans hb4)
    obtain ⟨D, hDl, hDG, hDD⟩ := hdig.list
    have HF := Lib.hid (fun W4 (hb' : Below w.heap.size w W4) (hD' : DigL W4 w.heap.size D) neg => (fmt_any B w.heap.size v neg 69 ((nd : Int) + p) k D W4 (by decide) (st_new HST.out hb' HVB.out) (by omega) hDl (by omega) (by omega) hD' hDG (max ((k : Int) - 1) 0) rfl).mono fun _ _ h => h.lift (kept_new hb' HST.out.2.2.1))
    have HD' := Lib.hid hDD
    have HBW := Lib.hid hbw4
    clear hdig hDl hDG hDD hbw4 hb4 hsz4 hnlt HR HB2 HE2
    go_wp2_with (go_at_call 56; refine (HF.out _ HBW.out HD'.out _).mono ?_; rintro e w5 ⟨v5, o5, rfl, h5⟩)
    go_ret
    exact ⟨_, _, rfl, h5⟩
end Go.Proofs.YtegkdlimkgfheaaDoor
