/-
  The document's right: may a node be? (Written by gen_cc.py.)
  The document's Right and Order (with a stack).
  The document's Order: a stack of what is still to be met.
  The document's Normal.
-/
import Derived.Test.YtnlbnnnhmdjciaaDoorCb
import Derived.Test.YtnlbnnnhmdjciaaDoorRe
import Derived.Test.YtnlbnnnhmdjciaaDoorTd
namespace Go.Proofs.YtnlbnnnhmdjciaaDoor
open Go.RowKit Go.Maps
theorem pairs_all (g : List Ar.Nd) : ∀ ks : List Int, Ar.pairs g ks = ((Ar.keys ks).all (fun k => (Ar.at' g k).kind == 0) && decide (ks.length % 2 = 0))
  | [] => rfl
  | [a] => by simp [Ar.pairs, Ar.keys]
  | a :: b :: t => by
    have h : Ar.keys (a :: b :: t) = a :: Ar.keys t := rfl
    have h2 : Ar.pairs g (a :: b :: t) = (((Ar.at' g a).kind == 0) && Ar.pairs g t) := rfl
    have h3 : decide ((a :: b :: t).length % 2 = 0) = decide (t.length % 2 = 0) := by rw [decide_eq_decide]; simp only [List.length_cons]; omega
    rw [h, h2, List.all_cons, pairs_all g t, h3, Bool.and_assoc]

set_option maxHeartbeats 8000000 in
set_option maxRecDepth 100000 in
theorem rightN_yes (v : Value) (g : List Ar.Nd) (k : Int) (t s : List UInt8) (ks : List Int) (ka : Option Addr) (kc : Nat) (w : World) (hg : RdGo w w.heap.size v g) (hk : RdI w w.heap.size (.slice ka ks.length kc) ks) (hgl : g.length ≤ 1000000) (ht : t.length ≤ 50000) (hs : s.length ≤ 50000) (hkl : ks.length ≤ 1000000) (hR : Tg.rightR t = true) (OWN : Bool) (hC : Tg.core t = !OWN) :
    Calls Tryd.prog 31 #[v, .agg #[.int .i64 k, .string (str t), .string (str s), .slice ka ks.length kc]] w fun e w' => e = .returned (.bool (Ar.mayBe g ⟨k, t, s, ks⟩)) ∧ Below w.heap.size w w' := by
  have hO : (Tg.right t && !Tg.core t) = OWN := by rw [Tg.right_eq, hR, hC]; simp
  skip
  obtain ⟨M, hM⟩ : ∃ M, Ar.mayBe g ⟨k, t, s, ks⟩ = M := ⟨_, rfl⟩
  rw [hM]
  unfold Ar.mayBe at hM
  simp only at hM
  have HG := Lib.hid hg
  have HKI := Lib.hid hk
  obtain ⟨ga, gc, rfl, _, _⟩ := hg
  have HB0 := Lib.hid (bnew w (.cells #[.int .i64 k, .string (str t), .string (str s), .slice ka ks.length kc] 42))
  obtain ⟨q0, q1, q2, q3⟩ := quad (alloc_blk w (.cells #[.int .i64 k, .string (str t), .string (str s), .slice ka ks.length kc] 42))
  obtain ⟨A, hA⟩ : ∃ A, ks.all (Ar.isNode g.length) = A := ⟨_, rfl⟩
  have HA := Lib.hid hA
  have HA0 : Hid ((ks.drop 0).all (Ar.isNode g.length) = A) := hA
  rw [hA] at hM
  clear hk hA
  go_enter Tryd.func31, Tryd.ntmps31
  go_wp2
  have hk0 := alloc_blk w (.cells #[.int .i64 k, .string (str t), .string (str s), .slice ka ks.length kc] 42)
  generalize w.alloc (.cells #[.int .i64 k, .string (str t), .string (str s), .slice ka ks.length kc] 42) = W0 at *
  go_loopw [5] (fun i wr => ∃ (j : Nat), j ≤ ks.length ∧ i = .int .i64 j ∧ Hid ((ks.drop j).all (Ar.isNode g.length) = A) ∧ W0 = wr) (fun i _ => ks.length - (intOf i).toNat)
  case atStart => exact ⟨0, by omega, rfl, HA0, rfl⟩
  case round =>
    obtain ⟨j, hj, rfl, HI, rfl⟩ := hrel
    clear HA0
    by_cases hlt : j < ks.length
    · have hI := HI.out
      rw [List.drop_eq_getElem_cons hlt, List.all_cons] at hI
      clear HI
      obtain ⟨_, _, hv, _, hcl⟩ := HKI.out.below HB0.out
      simp only [Value.slice.injEq] at hv
      obtain ⟨rfl, _, rfl⟩ := hv
      obtain ⟨kg, ko, rfl, hkg, hcl⟩ := hcl (by omega)
      have e1 := hcl j hlt
      clear hcl
      generalize ks[j] = K at *
      cases hn : Ar.isNode g.length K
      · rw [hn, Bool.false_and] at hI
        subst hI
        rw [Bool.false_and] at hM
        have HM := Lib.hid hM
        clear hM
        unfold Ar.isNode at hn
        by_cases h0 : 0 ≤ K
        · have b0 : decide (K < 0) = false := decide_eq_false (by omega)
          have b1 : decide ((g.length : Int) ≤ K) = true := by rw [decide_eq_true h0, Bool.true_and, decide_eq_false_iff_not] at hn; exact decide_eq_true (by omega)
          clear hn
          go_wp2
          go_ret
          exact ⟨ret_bool HM.out, HB0.out⟩
        · have b0 : decide (K < 0) = true := decide_eq_true (by omega)
          clear hn
          go_wp2
          go_ret
          exact ⟨ret_bool HM.out, HB0.out⟩
      · rw [hn, Bool.true_and] at hI
        have HI := Lib.hid hI
        obtain ⟨y, rfl, hyl⟩ := at_lt hn
        have b0 : decide ((y : Int) < 0) = false := decide_eq_false (by omega)
        have b1 : decide ((g.length : Int) ≤ (y : Int)) = false := decide_eq_false (by omega)
        clear hn hI
        go_wp2
        go_roundw
        case rel => exact ⟨j + 1, by omega, by go_num, HI, by first | rfl | trivial⟩
        case measure => simp [intOf]; omega
    · have hAt : true = A := by rw [← HI.out, List.drop_eq_nil_of_le (by omega)]; rfl
      subst hAt
      have HALL := Lib.hid (fun x hx => List.all_eq_true.1 HA.out x hx)
      rw [Bool.true_and] at hM
      unfold Ar.may1 at hM
      simp only at hM
      clear HI HA
      go_wp2_with fail
      refine (chars_any (str s) _ (by rw [str_len]; omega)).mono ?_
      rintro e w4 ⟨vC, rfl, _, hb4⟩
      rw [str_dat]
      have hb4' : Below W0.heap.size W0 w4 := hb4
      have hvd : (Sc.charsOf s).isSome = Lib.validD s := by unfold Sc.charsOf; split <;> simp_all
      rw [hvd]
      obtain ⟨q0, q1, q2, q3⟩ := quad (blk_below hk0 hb4')
      have hk4 := blk_below hk0 hb4'
      have HB4 := Lib.hid (bthen HB0.out hb4')
      clear hvd hb4
      go_wp2_with fail
      refine (Tag.rightR_any (str t) w4 (by rw [str_len]; omega)).mono ?_
      rintro e w5 ⟨rfl, hb5⟩
      rw [str_dat] at *
      rw [hR]
      have HB5 := Lib.hid (bthen HB4.out hb5)
      have hk5 := blk_below hk4 hb5
      clear q0 q1 q2 q3
      obtain ⟨q0, q1, q2, q3⟩ := quad hk5
      go_wp2_with fail
      refine (Tag.coreR_any (str t) w5).mono ?_
      rintro e w6 ⟨rfl, hb6⟩
      rw [str_dat] at *
      rw [hC]
      have HB6 := Lib.hid (bthen HB5.out hb6)
      obtain ⟨p0, p1, p2, p3⟩ := quad (blk_below hk5 hb6)
      have hk6 := blk_below hk5 hb6
      clear q0 q1 q2 q3
      have HBZ := Lib.hid HB6.out
      by_cases k0 : k = 0
      · subst k0
        rw [if_pos rfl] at hM
        by_cases hke : ks = []
        · subst hke
          rw [show ([] : List Int).isEmpty = true from rfl, Bool.true_and] at hM
          cases hv : Lib.validD s
          · rw [hv, Bool.false_and] at hM
            have HM := Lib.hid hM
            clear hM
            go_wp2
            go_ret
            exact ⟨ret_bool (by first | exact HM.out | rw [← HM.out] | simp_all), HBZ.out⟩
          · rw [hv, Bool.true_and, Tg.fits_eq] at hM
            have HM := Lib.hid hM
            clear hM
            go_wp2_with fail
            refine (Tag.fitsR_any (str t) (str s) _ (by rw [str_len]; omega) (by rw [str_len]; omega)).mono ?_
            rintro e w7 ⟨rfl, hb7⟩
            rw [str_dat, str_dat]
            go_wp2
            go_ret
            exact ⟨ret_bool HM.out, bthen HBZ.out hb7⟩
        · have hl : ks.length ≠ 0 := fun e => hke (List.eq_nil_of_length_eq_zero e)
          have hl0 : ((ks.length : Int) == 0) = false := beq_eq_false_iff_ne.2 (by omega)
          rw [show ks.isEmpty = false by cases ks <;> simp_all, Bool.false_and] at hM
          have HM := Lib.hid hM
          clear hM
          go_wp2
          go_ret
          exact ⟨ret_bool HM.out, HBZ.out⟩
      · by_cases k1 : k = 1
        · subst k1
          rw [if_neg k0, if_pos rfl] at hM
          clear k0
          unfold Ar.isTagOf at hM
          rw [hO] at hM
          by_cases hse : s = []
          · subst hse
            rw [show ([] : List UInt8).isEmpty = true from rfl, Bool.true_and] at hM
            have z0 := toL []
            cases ht : t == Ar.seqW
            · have ht' : ((str t).toList == [115, 101, 113]) = false := by rw [toL]; exact ht
              rw [ht, Bool.false_or] at hM
              have HM := Lib.hid hM
              clear hM
              go_wp2
              go_ret
              exact ⟨ret_bool HM.out, HBZ.out⟩
            · have ht' : ((str t).toList == [115, 101, 113]) = true := by rw [toL]; exact ht
              rw [ht, Bool.true_or] at hM
              have HM := Lib.hid hM
              clear hM
              go_wp2
              go_ret
              exact ⟨ret_bool HM.out, HBZ.out⟩
          · have hse' : ((str s).toList == []) = false := by rw [toL]; exact beq_eq_false_iff_ne.2 hse
            rw [show s.isEmpty = false by cases s <;> simp_all, Bool.false_and] at hM
            have HM := Lib.hid hM
            clear hM
            go_wp2
            go_ret
            exact ⟨ret_bool HM.out, HBZ.out⟩
        · by_cases k2 : k = 2
          · subst k2
            rw [if_neg k0, if_neg k1, if_pos rfl] at hM
            clear k0 k1
            unfold Ar.isTagOf at hM
            rw [hO, pairs_all] at hM
            obtain ⟨TX, hTX⟩ : ∃ TX, (s.isEmpty && ((t == Ar.mapW || OWN) && (decide (ks.length % 2 = 0)))) = TX := ⟨_, rfl⟩
            have hM2 : ((Ar.keys (ks.drop 0)).all (fun k => (Ar.at' g k).kind == 0) && TX) = M := by
              rw [← hM, ← hTX, List.drop_zero]
              generalize (Ar.keys ks).all (fun k => (Ar.at' g k).kind == 0) = A1
              cases A1 <;> cases s.isEmpty <;> cases (t == Ar.mapW || OWN) <;> simp
            have HM2 := Lib.hid hM2
            clear hM hM2
            have HK6 := Lib.hid hk6
            go_wp2
            go_loopw [9] (fun i wr => ∃ (m : Nat), m ≤ ks.length + 1 ∧ i = .int .i64 m ∧ m % 2 = 0 ∧ Hid (((Ar.keys (ks.drop m)).all (fun k => (Ar.at' g k).kind == 0) && TX) = M) ∧ wr = w6) (fun i _ => ks.length + 1 - (intOf i).toNat)
            case atStart => exact ⟨0, by omega, rfl, rfl, HM2, rfl⟩
            case round =>
              obtain ⟨m, hm, rfl, hm2, HI, rfl⟩ := hrel
              clear HM2
              by_cases hmt : m < ks.length
              · have hI := HI.out
                rw [Ar.keys_step ks m hmt, List.all_cons] at hI
                clear HI
                obtain ⟨_, _, hv, _, hcl⟩ := HKI.out.below HBZ.out
                simp only [Value.slice.injEq] at hv
                obtain ⟨rfl, _, rfl⟩ := hv
                obtain ⟨kg, ko, rfl, hkg, hcl⟩ := hcl (by omega)
                have e1 := hcl m hmt
                obtain ⟨y, hy, hyl⟩ := at_lt (HALL.out _ (List.getElem_mem hmt))
                rw [hy] at e1 hI
                obtain ⟨_, _, hv, _, hcl2⟩ := HG.out.below HBZ.out
                cases hv
                obtain ⟨gg, go, rfl, hgg, hcl2⟩ := hcl2 (by omega)
                have e2 := (hcl2 y hyl).kind
                rw [Ar.at_mem g y hyl] at hI
                clear hcl hcl2 hy
                have y0 : (0 : Int) ≤ (y : Int) := by omega
                have y1 : (y : Int) < (g.length : Int) := by omega
                generalize g[y].kind = kk at *
                cases hkk : kk == 0
                · have hne : (kk != 0) = true := by rw [bne, hkk]; rfl
                  rw [hkk, Bool.false_and, Bool.false_and] at hI
                  have HM := Lib.hid hI
                  clear hI
                  go_wp2
                  go_ret
                  exact ⟨ret_bool HM.out, HBZ.out⟩
                · have hne : (kk != 0) = false := by rw [bne, hkk]; rfl
                  rw [hkk, Bool.true_and] at hI
                  have HI := Lib.hid hI
                  clear hI
                  go_wp2
                  go_roundw
                  case rel => exact ⟨m + 2, by omega, by go_num, by omega, HI, by first | rfl | trivial⟩
                  case measure => simp [intOf]; omega
              · have hI := HI.out
                rw [List.drop_eq_nil_of_le (by omega)] at hI
                have hI : TX = M := hI
                clear HI
                by_cases hse : s = []
                · subst hse
                  rw [show ([] : List UInt8).isEmpty = true from rfl, Bool.true_and] at hTX
                  have z0 := toL []
                  have hz2 : ((ks.length : Int) % 2 == 0) = decide (ks.length % 2 = 0) := by rw [Bool.eq_iff_iff]; simp; omega
                  cases ht : t == Ar.mapW
                  · have ht' : ((str t).toList == [109, 97, 112]) = false := by rw [toL]; exact ht
                    rw [ht, Bool.false_or] at hTX
                    have HM := Lib.hid (hTX.trans hI)
                    clear hTX hI
                    cases hcc : OWN
                    all_goals (simp only [hcc, Bool.false_and, Bool.true_and] at HM)
                    all_goals
                      go_wp2
                      go_ret
                      exact ⟨ret_bool (by first | exact HM.out | (rw [hz2]; exact HM.out) | (have := HM.out; simp_all)), HBZ.out⟩
                  · have ht' : ((str t).toList == [109, 97, 112]) = true := by rw [toL]; exact ht
                    rw [ht, Bool.true_or, Bool.true_and] at hTX
                    have HM := Lib.hid (hTX.trans hI)
                    clear hTX hI
                    go_wp2
                    go_ret
                    exact ⟨ret_bool (by first | exact HM.out | (rw [hz2]; exact HM.out) | (have := HM.out; simp_all)), HBZ.out⟩
                · have hse' : ((str s).toList == []) = false := by rw [toL]; exact beq_eq_false_iff_ne.2 hse
                  rw [show s.isEmpty = false by cases s <;> simp_all, Bool.false_and] at hTX
                  have HM := Lib.hid (hTX.trans hI)
                  clear hTX hI
                  go_wp2
                  go_ret
                  exact ⟨ret_bool HM.out, HBZ.out⟩
          · rw [if_neg k0, if_neg k1, if_neg k2] at hM
            have HM := Lib.hid hM
            clear hM
            have c0 : (k == 0) = false := beq_eq_false_iff_ne.2 k0
            have c1 : (k == 1) = false := beq_eq_false_iff_ne.2 k1
            have c2 : (k == 2) = false := beq_eq_false_iff_ne.2 k2
            clear k0 k1 k2
            go_wp2
            go_ret
            exact ⟨ret_bool HM.out, HBZ.out⟩

set_option maxHeartbeats 8000000 in
set_option maxRecDepth 100000 in
theorem rightN_no (v : Value) (g : List Ar.Nd) (k : Int) (t s : List UInt8) (ks : List Int) (ka : Option Addr) (kc : Nat) (w : World) (hg : RdGo w w.heap.size v g) (hk : RdI w w.heap.size (.slice ka ks.length kc) ks) (hgl : g.length ≤ 1000000) (ht : t.length ≤ 50000) (hs : s.length ≤ 50000) (hkl : ks.length ≤ 1000000) (hR : Tg.rightR t = false) (OWN : Bool) (hOW : OWN = false) :
    Calls Tryd.prog 31 #[v, .agg #[.int .i64 k, .string (str t), .string (str s), .slice ka ks.length kc]] w fun e w' => e = .returned (.bool (Ar.mayBe g ⟨k, t, s, ks⟩)) ∧ Below w.heap.size w w' := by
  have hO : (Tg.right t && !Tg.core t) = false := by rw [Tg.right_eq, hR]; rfl
  subst hOW
  obtain ⟨M, hM⟩ : ∃ M, Ar.mayBe g ⟨k, t, s, ks⟩ = M := ⟨_, rfl⟩
  rw [hM]
  unfold Ar.mayBe at hM
  simp only at hM
  have HG := Lib.hid hg
  have HKI := Lib.hid hk
  obtain ⟨ga, gc, rfl, _, _⟩ := hg
  have HB0 := Lib.hid (bnew w (.cells #[.int .i64 k, .string (str t), .string (str s), .slice ka ks.length kc] 42))
  obtain ⟨q0, q1, q2, q3⟩ := quad (alloc_blk w (.cells #[.int .i64 k, .string (str t), .string (str s), .slice ka ks.length kc] 42))
  obtain ⟨A, hA⟩ : ∃ A, ks.all (Ar.isNode g.length) = A := ⟨_, rfl⟩
  have HA := Lib.hid hA
  have HA0 : Hid ((ks.drop 0).all (Ar.isNode g.length) = A) := hA
  rw [hA] at hM
  clear hk hA
  go_enter Tryd.func31, Tryd.ntmps31
  go_wp2
  have hk0 := alloc_blk w (.cells #[.int .i64 k, .string (str t), .string (str s), .slice ka ks.length kc] 42)
  generalize w.alloc (.cells #[.int .i64 k, .string (str t), .string (str s), .slice ka ks.length kc] 42) = W0 at *
  go_loopw [5] (fun i wr => ∃ (j : Nat), j ≤ ks.length ∧ i = .int .i64 j ∧ Hid ((ks.drop j).all (Ar.isNode g.length) = A) ∧ W0 = wr) (fun i _ => ks.length - (intOf i).toNat)
  case atStart => exact ⟨0, by omega, rfl, HA0, rfl⟩
  case round =>
    obtain ⟨j, hj, rfl, HI, rfl⟩ := hrel
    clear HA0
    by_cases hlt : j < ks.length
    · have hI := HI.out
      rw [List.drop_eq_getElem_cons hlt, List.all_cons] at hI
      clear HI
      obtain ⟨_, _, hv, _, hcl⟩ := HKI.out.below HB0.out
      simp only [Value.slice.injEq] at hv
      obtain ⟨rfl, _, rfl⟩ := hv
      obtain ⟨kg, ko, rfl, hkg, hcl⟩ := hcl (by omega)
      have e1 := hcl j hlt
      clear hcl
      generalize ks[j] = K at *
      cases hn : Ar.isNode g.length K
      · rw [hn, Bool.false_and] at hI
        subst hI
        rw [Bool.false_and] at hM
        have HM := Lib.hid hM
        clear hM
        unfold Ar.isNode at hn
        by_cases h0 : 0 ≤ K
        · have b0 : decide (K < 0) = false := decide_eq_false (by omega)
          have b1 : decide ((g.length : Int) ≤ K) = true := by rw [decide_eq_true h0, Bool.true_and, decide_eq_false_iff_not] at hn; exact decide_eq_true (by omega)
          clear hn
          go_wp2
          go_ret
          exact ⟨ret_bool HM.out, HB0.out⟩
        · have b0 : decide (K < 0) = true := decide_eq_true (by omega)
          clear hn
          go_wp2
          go_ret
          exact ⟨ret_bool HM.out, HB0.out⟩
      · rw [hn, Bool.true_and] at hI
        have HI := Lib.hid hI
        obtain ⟨y, rfl, hyl⟩ := at_lt hn
        have b0 : decide ((y : Int) < 0) = false := decide_eq_false (by omega)
        have b1 : decide ((g.length : Int) ≤ (y : Int)) = false := decide_eq_false (by omega)
        clear hn hI
        go_wp2
        go_roundw
        case rel => exact ⟨j + 1, by omega, by go_num, HI, by first | rfl | trivial⟩
        case measure => simp [intOf]; omega
    · have hAt : true = A := by rw [← HI.out, List.drop_eq_nil_of_le (by omega)]; rfl
      subst hAt
      have HALL := Lib.hid (fun x hx => List.all_eq_true.1 HA.out x hx)
      rw [Bool.true_and] at hM
      unfold Ar.may1 at hM
      simp only at hM
      clear HI HA
      go_wp2_with fail
      refine (chars_any (str s) _ (by rw [str_len]; omega)).mono ?_
      rintro e w4 ⟨vC, rfl, _, hb4⟩
      rw [str_dat]
      have hb4' : Below W0.heap.size W0 w4 := hb4
      have hvd : (Sc.charsOf s).isSome = Lib.validD s := by unfold Sc.charsOf; split <;> simp_all
      rw [hvd]
      obtain ⟨q0, q1, q2, q3⟩ := quad (blk_below hk0 hb4')
      have hk4 := blk_below hk0 hb4'
      have HB4 := Lib.hid (bthen HB0.out hb4')
      clear hvd hb4
      go_wp2_with fail
      refine (Tag.rightR_any (str t) w4 (by rw [str_len]; omega)).mono ?_
      rintro e w5 ⟨rfl, hb5⟩
      rw [str_dat] at *
      rw [hR]
      have HB5 := Lib.hid (bthen HB4.out hb5)
      have hk5 := blk_below hk4 hb5
      clear q0 q1 q2 q3
      obtain ⟨q0, q1, q2, q3⟩ := quad hk5
      have HB6 := Lib.hid HB5.out
      obtain ⟨p0, p1, p2, p3⟩ := quad hk5
      have hk6 := hk5
      clear q0 q1 q2 q3
      have HBZ := Lib.hid HB6.out
      by_cases k0 : k = 0
      · subst k0
        rw [if_pos rfl] at hM
        by_cases hke : ks = []
        · subst hke
          rw [show ([] : List Int).isEmpty = true from rfl, Bool.true_and] at hM
          cases hv : Lib.validD s
          · rw [hv, Bool.false_and] at hM
            have HM := Lib.hid hM
            clear hM
            go_wp2
            go_ret
            exact ⟨ret_bool (by first | exact HM.out | rw [← HM.out] | simp_all), HBZ.out⟩
          · rw [hv, Bool.true_and, Tg.fits_eq] at hM
            have HM := Lib.hid hM
            clear hM
            go_wp2_with fail
            refine (Tag.fitsR_any (str t) (str s) _ (by rw [str_len]; omega) (by rw [str_len]; omega)).mono ?_
            rintro e w7 ⟨rfl, hb7⟩
            rw [str_dat, str_dat]
            go_wp2
            go_ret
            exact ⟨ret_bool HM.out, bthen HBZ.out hb7⟩
        · have hl : ks.length ≠ 0 := fun e => hke (List.eq_nil_of_length_eq_zero e)
          have hl0 : ((ks.length : Int) == 0) = false := beq_eq_false_iff_ne.2 (by omega)
          rw [show ks.isEmpty = false by cases ks <;> simp_all, Bool.false_and] at hM
          have HM := Lib.hid hM
          clear hM
          go_wp2
          go_ret
          exact ⟨ret_bool HM.out, HBZ.out⟩
      · by_cases k1 : k = 1
        · subst k1
          rw [if_neg k0, if_pos rfl] at hM
          clear k0
          unfold Ar.isTagOf at hM
          rw [hO] at hM
          by_cases hse : s = []
          · subst hse
            rw [show ([] : List UInt8).isEmpty = true from rfl, Bool.true_and] at hM
            have z0 := toL []
            cases ht : t == Ar.seqW
            · have ht' : ((str t).toList == [115, 101, 113]) = false := by rw [toL]; exact ht
              rw [ht, Bool.false_or] at hM
              have HM := Lib.hid hM
              clear hM
              go_wp2
              go_ret
              exact ⟨ret_bool HM.out, HBZ.out⟩
            · have ht' : ((str t).toList == [115, 101, 113]) = true := by rw [toL]; exact ht
              rw [ht, Bool.true_or] at hM
              have HM := Lib.hid hM
              clear hM
              go_wp2
              go_ret
              exact ⟨ret_bool HM.out, HBZ.out⟩
          · have hse' : ((str s).toList == []) = false := by rw [toL]; exact beq_eq_false_iff_ne.2 hse
            rw [show s.isEmpty = false by cases s <;> simp_all, Bool.false_and] at hM
            have HM := Lib.hid hM
            clear hM
            go_wp2
            go_ret
            exact ⟨ret_bool HM.out, HBZ.out⟩
        · by_cases k2 : k = 2
          · subst k2
            rw [if_neg k0, if_neg k1, if_pos rfl] at hM
            clear k0 k1
            unfold Ar.isTagOf at hM
            rw [hO, pairs_all] at hM
            obtain ⟨TX, hTX⟩ : ∃ TX, (s.isEmpty && ((t == Ar.mapW || false) && (decide (ks.length % 2 = 0)))) = TX := ⟨_, rfl⟩
            have hM2 : ((Ar.keys (ks.drop 0)).all (fun k => (Ar.at' g k).kind == 0) && TX) = M := by
              rw [← hM, ← hTX, List.drop_zero]
              generalize (Ar.keys ks).all (fun k => (Ar.at' g k).kind == 0) = A1
              cases A1 <;> cases s.isEmpty <;> cases (t == Ar.mapW || false) <;> simp
            have HM2 := Lib.hid hM2
            clear hM hM2
            have HK6 := Lib.hid hk6
            go_wp2
            go_loopw [9] (fun i wr => ∃ (m : Nat), m ≤ ks.length + 1 ∧ i = .int .i64 m ∧ m % 2 = 0 ∧ Hid (((Ar.keys (ks.drop m)).all (fun k => (Ar.at' g k).kind == 0) && TX) = M) ∧ wr = w5) (fun i _ => ks.length + 1 - (intOf i).toNat)
            case atStart => exact ⟨0, by omega, rfl, rfl, HM2, rfl⟩
            case round =>
              obtain ⟨m, hm, rfl, hm2, HI, rfl⟩ := hrel
              clear HM2
              by_cases hmt : m < ks.length
              · have hI := HI.out
                rw [Ar.keys_step ks m hmt, List.all_cons] at hI
                clear HI
                obtain ⟨_, _, hv, _, hcl⟩ := HKI.out.below HBZ.out
                simp only [Value.slice.injEq] at hv
                obtain ⟨rfl, _, rfl⟩ := hv
                obtain ⟨kg, ko, rfl, hkg, hcl⟩ := hcl (by omega)
                have e1 := hcl m hmt
                obtain ⟨y, hy, hyl⟩ := at_lt (HALL.out _ (List.getElem_mem hmt))
                rw [hy] at e1 hI
                obtain ⟨_, _, hv, _, hcl2⟩ := HG.out.below HBZ.out
                cases hv
                obtain ⟨gg, go, rfl, hgg, hcl2⟩ := hcl2 (by omega)
                have e2 := (hcl2 y hyl).kind
                rw [Ar.at_mem g y hyl] at hI
                clear hcl hcl2 hy
                have y0 : (0 : Int) ≤ (y : Int) := by omega
                have y1 : (y : Int) < (g.length : Int) := by omega
                generalize g[y].kind = kk at *
                cases hkk : kk == 0
                · have hne : (kk != 0) = true := by rw [bne, hkk]; rfl
                  rw [hkk, Bool.false_and, Bool.false_and] at hI
                  have HM := Lib.hid hI
                  clear hI
                  go_wp2
                  go_ret
                  exact ⟨ret_bool HM.out, HBZ.out⟩
                · have hne : (kk != 0) = false := by rw [bne, hkk]; rfl
                  rw [hkk, Bool.true_and] at hI
                  have HI := Lib.hid hI
                  clear hI
                  go_wp2
                  go_roundw
                  case rel => exact ⟨m + 2, by omega, by go_num, by omega, HI, by first | rfl | trivial⟩
                  case measure => simp [intOf]; omega
              · have hI := HI.out
                rw [List.drop_eq_nil_of_le (by omega)] at hI
                have hI : TX = M := hI
                clear HI
                by_cases hse : s = []
                · subst hse
                  rw [show ([] : List UInt8).isEmpty = true from rfl, Bool.true_and] at hTX
                  have z0 := toL []
                  have hz2 : ((ks.length : Int) % 2 == 0) = decide (ks.length % 2 = 0) := by rw [Bool.eq_iff_iff]; simp; omega
                  cases ht : t == Ar.mapW
                  · have ht' : ((str t).toList == [109, 97, 112]) = false := by rw [toL]; exact ht
                    rw [ht, Bool.false_or, Bool.false_and] at hTX
                    have HM := Lib.hid (hTX.trans hI)
                    clear hTX hI
                    skip
                    skip
                    all_goals
                      go_wp2
                      go_ret
                      exact ⟨ret_bool (by first | exact HM.out | (rw [hz2]; exact HM.out) | (have := HM.out; simp_all)), HBZ.out⟩
                  · have ht' : ((str t).toList == [109, 97, 112]) = true := by rw [toL]; exact ht
                    rw [ht, Bool.true_or, Bool.true_and] at hTX
                    have HM := Lib.hid (hTX.trans hI)
                    clear hTX hI
                    go_wp2
                    go_ret
                    exact ⟨ret_bool (by first | exact HM.out | (rw [hz2]; exact HM.out) | (have := HM.out; simp_all)), HBZ.out⟩
                · have hse' : ((str s).toList == []) = false := by rw [toL]; exact beq_eq_false_iff_ne.2 hse
                  rw [show s.isEmpty = false by cases s <;> simp_all, Bool.false_and] at hTX
                  have HM := Lib.hid (hTX.trans hI)
                  clear hTX hI
                  go_wp2
                  go_ret
                  exact ⟨ret_bool HM.out, HBZ.out⟩
          · rw [if_neg k0, if_neg k1, if_neg k2] at hM
            have HM := Lib.hid hM
            clear hM
            have c0 : (k == 0) = false := beq_eq_false_iff_ne.2 k0
            have c1 : (k == 1) = false := beq_eq_false_iff_ne.2 k1
            have c2 : (k == 2) = false := beq_eq_false_iff_ne.2 k2
            clear k0 k1 k2
            go_wp2
            go_ret
            exact ⟨ret_bool HM.out, HBZ.out⟩

theorem rightN_any (v : Value) (g : List Ar.Nd) (x : Ar.Nd) (ka : Option Addr) (kc : Nat) (w : World) (hg : RdGo w w.heap.size v g) (hk : RdI w w.heap.size (.slice ka x.kids.length kc) x.kids) (hgl : g.length ≤ 1000000) (ht : x.tag.length ≤ 50000) (hs : x.text.length ≤ 50000) (hkl : x.kids.length ≤ 1000000) :
    Calls Tryd.prog 31 #[v, ndV x ka kc] w fun e w' => e = .returned (.bool (Ar.mayBe g x)) ∧ Below w.heap.size w w' := by
  obtain ⟨k, t, s, ks⟩ := x
  cases hR : Tg.rightR t
  · exact rightN_no v g k t s ks ka kc w hg hk hgl ht hs hkl hR false rfl
  · exact rightN_yes v g k t s ks ka kc w hg hk hgl ht hs hkl hR (!Tg.core t) (by simp)
end Go.Proofs.YtnlbnnnhmdjciaaDoor
namespace Go.Proofs.YtnlbnnnhmdjciaaDoor
open Go.RowKit Go.Maps
set_option maxHeartbeats 4000000 in
set_option maxRecDepth 100000 in
theorem rightR_any (v : Value) (g : List Ar.Nd) (w : World) (hg : RdGo w w.heap.size v g) (hgl : g.length ≤ 1000000) (hkl : ∀ x ∈ g, x.kids.length ≤ 1000000) (hs : ∀ x ∈ g, x.tag.length ≤ 50000 ∧ x.text.length ≤ 50000) :
    Calls Tryd.prog 24 #[v] w fun e w' => e = .returned (.bool (Ar.right g)) ∧ Below w.heap.size w w' := by
  have HG := Lib.hid hg
  have HK := Lib.hid hkl
  have HS := Lib.hid hs
  obtain ⟨ga, gc, rfl, _, _⟩ := hg
  unfold Ar.right
  by_cases h0 : g.length = 0
  · rw [if_pos (Or.inl h0)]
    go_enter Tryd.func24, Tryd.ntmps24
    go_wp2
    go_ret
    exact ⟨rfl, Below.refl _ _⟩
  by_cases h2 : 2000 < g.length
  · rw [if_pos (Or.inr h2)]
    go_enter Tryd.func24, Tryd.ntmps24
    go_wp2
    go_ret
    exact ⟨rfl, Below.refl _ _⟩
  rw [if_neg (by omega)]
  obtain ⟨ANS, hANS⟩ : ∃ ANS, (if g.all (Ar.mayBe g) = true then !Ar.twice g else false) = ANS := ⟨_, rfl⟩
  rw [hANS]
  have HA := Lib.hid hANS
  clear hANS
  have i0 : decide ((g.length : Int) < 1) = false := decide_eq_false (by omega)
  have i2 : decide ((2000 : Int) < g.length) = false := decide_eq_false (by omega)
  go_enter Tryd.func24, Tryd.ntmps24
  go_wp2
  go_loopw [3] (fun i wr => ∃ (j : Nat), j ≤ g.length ∧ i = .int .i64 j ∧ Hid ((if (g.drop j).all (Ar.mayBe g) = true then !Ar.twice g else false) = ANS) ∧ Hid (Below w.heap.size w wr)) (fun i _ => g.length - (intOf i).toNat)
  case atStart => exact ⟨0, by omega, rfl, HA, Lib.hid (Below.refl _ _)⟩
  case round =>
    obtain ⟨j, hj, rfl, HI, HB⟩ := hrel
    clear HA
    by_cases hlt : j < g.length
    · have hI := HI.out
      rw [List.drop_eq_getElem_cons hlt, List.all_cons] at hI
      clear HI
      obtain ⟨_, _, hv, _, hcl⟩ := HG.out.below HB.out
      cases hv
      obtain ⟨gg, go, rfl, hgg, hcl⟩ := hcl (by omega)
      have hk := HK.out _ (List.getElem_mem hlt)
      have hs := HS.out _ (List.getElem_mem hlt)
      obtain ⟨n0, n1, n2, ⟨a, c, n3, n4⟩⟩ := hcl j hlt
      clear hcl
      have j0 : (0 : Int) ≤ (j : Int) := by omega
      have j1 : (j : Int) < (g.length : Int) := by omega
      generalize g[j] = x at *
      have cM := rightN_any (.slice (some ⟨gg, go, none⟩) g.length gc) g x a c wr ((HG.out.below HB.out).mono HB.out.size) (n4.mono HB.out.size) hgl hs.1 hs.2 hk
      unfold ndV at cM
      cases hx : Ar.mayBe g x
      · rw [hx] at cM
        rw [hx, Bool.false_and, if_neg (by decide)] at hI
        subst hI
        have cM := Lib.hid cM
        go_wp2_with (go_at_call 31; refine cM.out.mono ?_; rintro e w2 ⟨rfl, hb2⟩)
        go_ret
        exact ⟨rfl, HB.out.trans (hb2.mono HB.out.size)⟩
      · rw [hx] at cM
        rw [hx, Bool.true_and] at hI
        have HI := Lib.hid hI
        have cM := Lib.hid cM
        clear hI
        go_wp2_with (go_at_call 31; refine cM.out.mono ?_; rintro e w2 ⟨rfl, hb2⟩)
        go_roundw
        case rel => exact ⟨j + 1, by omega, by go_num, HI, Lib.hid (HB.out.trans (hb2.mono HB.out.size))⟩
        case measure => simp [intOf]; omega
    · have hI := HI.out
      rw [List.drop_eq_nil_of_le (by omega), List.all_nil, if_pos rfl] at hI
      clear HI
      have cT := twiceR_any (.slice ga g.length gc) g wr ((HG.out.below HB.out).mono HB.out.size) hgl HK.out
      generalize Ar.twice g = T at *
      subst hI
      have cT := Lib.hid cT
      go_wp2_with (go_at_call 32; refine cT.out.mono ?_; rintro e w2 ⟨rfl, hb2⟩)
      go_ret
      exact ⟨rfl, HB.out.trans (hb2.mono HB.out.size)⟩
end Go.Proofs.YtnlbnnnhmdjciaaDoor
namespace Go.Proofs.YtnlbnnnhmdjciaaDoor
open Go.RowKit Go.Maps
theorem row_shrink {w : World} {B g n c : Nat} {xs : List Value} (h : w.ownsRow B 3 1 (.slice (some ⟨g, 0, none⟩) n c) n xs) (m : Nat) (hm : m ≤ n) : w.ownsRow B 3 1 (.slice (some ⟨g, 0, none⟩) m c) m (xs.take m) := by
  obtain ⟨h1, h2⟩ := h
  refine ⟨by rw [List.length_take]; omega, ?_⟩
  rcases h2 with ⟨h', _⟩ | ⟨g', cap', cur, h', hb, hg, hnc, hcm, hcs, htake⟩
  · simp at h'
  · simp only [Value.slice.injEq, Option.some.injEq, Addr.mk.injEq, and_true, true_and] at h'
    obtain ⟨rfl, rfl⟩ := h'
    refine .inr ⟨g, c, cur, rfl, hb, hg, by omega, hcm, hcs, ?_⟩
    rw [← htake, List.take_take]
    congr 1
    omega
theorem nats_snoc (l : List Nat) (a : Nat) : nats (l ++ [a]) = nats l ++ [(a : Int)] := by unfold nats; simp
theorem natsV_len (l : List Nat) : (natsV l).length = l.length := by unfold natsV; simp
/-- a row of nodes' numbers that the call owns -/
def OwnN (w : World) (B : Nat) (v : Value) (l : List Nat) : Prop := w.ownsRow B 3 1 v l.length (natsV l)
theorem OwnN.rd {w : World} {B : Nat} {v : Value} {l : List Nat} (h : OwnN w B v l) : RdI w w.heap.size v (nats l) := by
  have h' : w.ownsRow B 3 1 v (nats l).length ((nats l).map (Value.int .i64)) := by rw [nats_len]; exact h
  exact row_rdI h'
theorem OwnN.below {w w' : World} {B : Nat} {v : Value} {l : List Nat} (h : OwnN w B v l) (hb : Below w.heap.size w w') : OwnN w' B v l := row_below h hb
theorem ownN_ne4 {w : World} {B k : Nat} {v : Value} {l : List Nat} {C : Array Value} {fr : Nat × Nat} (h : OwnN w B v l) (hk : w.heap[k]? = some (.cells C 4 fr)) : v.ownBlock ≠ some k := by
  intro e
  rcases h.2 with ⟨rfl, _⟩ | ⟨g, cap, cur, rfl, _, hg, _⟩
  · cases e
  · simp only [Value.ownBlock, Option.some.injEq] at e
    subst e
    rw [hg] at hk
    simp at hk
/-- one number put behind the others -/
theorem wpList_pushN {ops : Array Oper} {rest : List Oper} {o : Oper} {a : Act} {Q : Exit → Act → World → Prop} (hgd : o.guard = none) (s x : Operand)
    (ho : o.op = .call { callee := .builtin .append, args := #[s, x], argTypes := #[34, 34] }) (B : Nat) (v : Value) (l : List Nat) (y : Nat) (w0 : World) (c : Nat)
    (hs : a.eval s = v) (ga : Nat) (hx : a.eval x = .slice (some ⟨ga, 0, none⟩) 1 c) (hga : ga = w0.heap.size) (hown : OwnN w0 B v l) (hl : l.length ≤ 10000000000) (hB : B ≤ w0.heap.size)
    (h : ∀ g cap w', OwnN w' B (.slice (some ⟨g, 0, none⟩) (l.length + 1) cap) (l ++ [y]) → Below B w0 w' → (∀ k, k < w0.heap.size → v.ownBlock ≠ some k → w'.heap[k]? = w0.heap[k]?) → (v.ownBlock = some g ∨ w0.heap.size ≤ g) → g < w'.heap.size → w0.heap.size ≤ w'.heap.size → wpList Tryd.prog ops Q rest (a.put o.dst (.slice (some ⟨g, 0, none⟩) (l.length + 1) cap)) w') :
    wpList Tryd.prog ops Q (o :: rest) a (w0.alloc (.cells #[.int .i64 (y : Int)] 3)) := by
  subst hga
  obtain ⟨i0, hi, hz0, hz1, hz2⟩ := info_parts info3
  refine wpList_append_lies _ hgd s x 34 ho B 3 i0 (.int .i64 0) 1 8 Tryd.underlying34 hi hz0 hz1 hz2 rfl (by decide) v l.length (natsV l) hs (World.ownsRow.alloc hown _) ⟨w0.heap.size, 0, none⟩ 1 c [.int .i64 (y : Int)] hx rfl (World.news_of_block (heap_alloc_new w0 _)) (ints_oneCell .i64 [(y : Int)]) (by decide) (by simp only [maxLen]; omega) (by omega) (by rw [World.size_alloc]; omega) _ rfl ?_
  intro g cap w' ho' hg hat hlt
  have hk : Below B w0 w' := ((Below.refl B w0).alloc hB _).grown hg (by rw [World.size_alloc]; omega) (fun k hk => (World.ownsRow.lt hown k hk).1)
  have hkeep : ∀ k, k < w0.heap.size → v.ownBlock ≠ some k → w'.heap[k]? = w0.heap[k]? := fun k hk hne => by
    rw [hg.block k (by rw [World.size_alloc]; omega) hne.symm]
    show (w0.heap.push _)[k]? = _
    rw [Array.getElem?_push, if_neg (by omega)]
  refine h g cap w' ?_ hk hkeep (hat.imp id (fun e => by rw [e, World.size_alloc]; omega)) hlt hk.size
  show w'.ownsRow B 3 1 _ (l ++ [y]).length (natsV (l ++ [y]))
  rw [natsV_snoc, List.length_append, List.length_singleton]
  exact ho'

set_option maxHeartbeats 16000000 in
set_option maxRecDepth 100000 in
theorem orderR_any (v : Value) (g : List Ar.Nd) (w : World) (hg : RdGo w w.heap.size v g) (hgl : g.length ≤ 1000000) (hkl : ∀ x ∈ g, x.kids.length ≤ 1000000) (hs : ∀ x ∈ g, x.tag.length ≤ 50000 ∧ x.text.length ≤ 50000) :
    Calls Tryd.prog 33 #[v] w fun e w' => (∃ u, e = .returned u ∧ RdI w' w'.heap.size u (nats (Ar.order g))) ∧ Below w.heap.size w w' := by
  have cR := rightR_any v g w hg hgl hkl hs
  have HG := Lib.hid hg
  have HK := Lib.hid hkl
  clear hs
  obtain ⟨ga, gc, rfl, _, _⟩ := hg
  cases hr : Ar.right g
  · unfold Ar.order
    rw [hr] at cR ⊢
    have cR := Lib.hid cR
    rw [if_neg (by decide)]
    go_enter Tryd.func33, Tryd.ntmps33
    go_wp2_with (go_at_call 24; refine cR.out.mono ?_; rintro e w1 ⟨rfl, hb1⟩)
    go_ret
    exact ⟨⟨_, rfl, none, 0, rfl, Nat.le_refl _, fun h => absurd h (by simp [nats])⟩, hb1⟩
  · rw [hr] at cR
    have cR := Lib.hid cR
    rw [Ar.todo_order g hr]
    obtain ⟨hl0, hl2⟩ := right_len hr
    have hki : Ar.Kids g := right_kids hr
    obtain ⟨ANS, hANS⟩ : ∃ ANS, Ar.todoGo g [0] [] = ANS := ⟨_, rfl⟩
    rw [hANS]
    have HA : Hid (Ar.todoGo g ([0] : List Nat).reverse [] = ANS) := hANS
    have HKI := Lib.hid hki
    clear hANS hr hki
    have hm4 := made4 g.length (by omega)
    go_enter Tryd.func33, Tryd.ntmps33
    go_wp2_with (go_at_call 24; refine cR.out.mono ?_; rintro e w1 ⟨rfl, hb1⟩)
    have hs1 := hb1.size
    have q1 := alloc_blk w1 (.cells (cellsB g.length []) 4)
    have q2 := blk_below q1 (bnew (w1.alloc (.cells (cellsB g.length []) 4)) (.cells #[.int .i64 0] 3))
    have q3 : OwnN ((w1.alloc (.cells (cellsB g.length []) 4)).alloc (.cells #[.int .i64 0] 3)) w1.heap.size (.slice (some ⟨w1.heap.size + 1, 0, none⟩) 1 1) [0] := by
      have := World.ownsRow_lit (base := w1.heap.size) (e := 3) (size := 1) (w1.alloc (.cells (cellsB g.length []) 4)) #[.int .i64 0] 1 (by rw [World.size_alloc]; omega) (by decide) rfl
      rw [World.size_alloc] at this
      exact this
    have q4 := bthen (bnew w1 (.cells (cellsB g.length []) 4)) (bnew (w1.alloc (.cells (cellsB g.length []) 4)) (.cells #[.int .i64 0] 3))
    have HQ2 := Lib.hid q2
    have HQ3 := Lib.hid q3
    have HQ4 := Lib.hid q4
    have hsz4 : ((w1.alloc (.cells (cellsB g.length []) 4)).alloc (.cells #[.int .i64 0] 3)).heap.size = w1.heap.size + 1 + 1 := by rw [World.size_alloc, World.size_alloc]
    clear q1 q2 q3 q4
    go_loopg [3, 5] (g.length * 1000001 + 1) (fun q ov tv wr => ∃ (met st : List Nat) (tb tc : Nat), q = (g.length - met.length) * 1000001 + st.length ∧ tv = .slice (some ⟨tb, 0, none⟩) st.length tc ∧ Hid (OwnN wr w1.heap.size ov met) ∧ Hid (OwnN wr w1.heap.size tv st) ∧ ov.ownBlock ≠ some tb ∧ Hid (wr.heap[w1.heap.size]? = some (.cells (cellsB g.length met) 4)) ∧ Hid (Ar.NB g.length met) ∧ Hid (∀ x ∈ st, x < g.length) ∧ st.length ≤ met.length * 1000000 + 1 ∧ Hid (Ar.todoGo g st.reverse met = ANS) ∧ Hid (Below w1.heap.size w1 wr) ∧ w1.heap.size < wr.heap.size)
    case atStart => exact ⟨[], [0], w1.heap.size + 1, 1, by simp, rfl, Lib.hid (World.ownsRow_nil _ _ _ _), HQ3, by simp [Value.ownBlock], HQ2, Lib.hid ⟨List.nodup_nil, fun x hx => absurd hx List.not_mem_nil⟩, Lib.hid (fun x hx => by rw [List.mem_singleton.1 hx]; exact hl0), by simp, HA, HQ4, by rw [hsz4]; omega⟩
    case round =>
      obtain ⟨met, st, tb, tc, rfl, rfl, HO, HT, hne, HM, HNB, HST, hstl, HI, HB, hsb⟩ := hrel
      clear HA HQ2 HQ3 HQ4
      obtain ⟨oa, oc, rfl⟩ := own_form HO.out
      by_cases h0 : st.length = 0
      · have hst : st = [] := List.eq_nil_of_length_eq_zero h0
        subst hst
        have hI := HI.out
        have hI : met = ANS := hI
        subst hI
        have hrd := HO.out.rd
        have HRD := Lib.hid hrd
        clear hrd
        go_wp2
        go_ret
        exact ⟨⟨_, rfl, HRD.out⟩, hb1.trans (HB.out.mono hs1)⟩
      · obtain ⟨s', a, rfl⟩ : ∃ s' a, st = s' ++ [a] := ⟨st.dropLast, st.getLast (fun e => h0 (by rw [e]; rfl)), (List.dropLast_concat_getLast _).symm⟩
        have hal := HST.out a (List.mem_append_right _ (List.mem_singleton.2 rfl))
        have hsl : (s' ++ [a]).length = s'.length + 1 := by simp
        have hI := HI.out
        rw [List.reverse_append, List.reverse_singleton, List.singleton_append] at hI
        have HT1 := HT.out
        unfold OwnN at HT1
        have ctop := World.ownsRow.cellAt HT1 s'.length (by rw [hsl]; omega)
        have hshr := row_shrink HT1 s'.length (by rw [hsl]; omega)
        rw [hsl] at HT1 hstl h0 ⊢
        have etop : (natsV (s' ++ [a]))[s'.length]? = some (.int .i64 (a : Int)) := by unfold natsV; simp
        have etk : (natsV (s' ++ [a])).take s'.length = natsV s' := by unfold natsV; simp
        rw [etop] at ctop
        rw [etk] at hshr
        have HSH : Hid (OwnN wr w1.heap.size (.slice (some ⟨tb, 0, none⟩) s'.length tc) s') := hshr
        have HST' := Lib.hid (fun x hx => HST.out x (List.mem_append_left _ hx))
        have hcap : s'.length + 1 ≤ tc := by
          rcases HT1.2 with ⟨h', _⟩ | ⟨g', cap', cur, h', _, _, hnc, _⟩
          · simp at h'
          · simp only [Value.slice.injEq] at h'
            omega
        have c2 := cell_blk HM.out a _ (cellsB_at g.length met a hal)
        have f2 := frozen_blk HM.out a
        clear HT1 hshr etop etk HI HT
        have hml := HNB.out.len
        have hsb9 : s'.length ≤ 3000000000 := by omega
        have x1 : (s'.length : Int) ≤ (tc : Int) := by omega
        have x2 : (a : Int) < (g.length : Int) := by omega
        have x3 : (0 : Int) ≤ (a : Int) := by omega
        have HSTL := Lib.hid hstl
        clear hstl hml hsl
        have x0 : (0 : Int) ≤ (s'.length : Int) := by omega
        cases hc : met.contains a
        · rw [hc] at c2
          have hI2 := (Ar.todo_new g HKI.out a s'.reverse met hal HNB.out hc).symm.trans hI
          have hnb2 := HNB.out.snoc hal hc
          have hml2 := hnb2.len
          rw [List.length_append, List.length_singleton] at hml2
          have hM2 := blk_set HM.out a (.bool true)
          rw [cellsB_set g.length met a hal] at hM2
          obtain ⟨Wa, hWa⟩ : ∃ Wa, wr.setCell ⟨w1.heap.size, a, none⟩ (.bool true) = Wa := ⟨_, rfl⟩
          have hoth : ∀ k, k ≠ w1.heap.size → Wa.heap[k]? = wr.heap[k]? := fun k hk => by rw [← hWa]; exact Below.heap_setCell wr ⟨w1.heap.size, a, none⟩ _ k hk
          have hsza : Wa.heap.size = wr.heap.size := by rw [← hWa]; exact World.size_setCell _ _ _
          have hOa : OwnN Wa w1.heap.size (.slice oa met.length oc) met := own_same HO.out (fun k hk => hoth k (fun e => ownN_ne4 HO.out HM.out (by rw [← e]; exact hk)))
          have hTa : OwnN Wa w1.heap.size (.slice (some ⟨tb, 0, none⟩) s'.length tc) s' := own_same HSH.out (fun k hk => hoth k (fun e => ownN_ne4 HSH.out HM.out (by rw [← e]; exact hk)))
          have hMa : Wa.heap[w1.heap.size]? = some (.cells (cellsB g.length (met ++ [a])) 4) := by rw [← hWa]; exact hM2
          have hBa : Below w1.heap.size w1 Wa := by rw [← hWa]; exact HB.out.setCell (p := ⟨w1.heap.size, a, none⟩) (Nat.le_refl _) _
          have hbt : w1.heap.size ≤ tb := (World.ownsRow.lt HSH.out tb rfl).1
          have htb : tb < Wa.heap.size := by rw [hsza]; exact (World.ownsRow.lt HSH.out tb rfl).2
          have hml3 : met.length ≤ 10000000000 := by omega
          have hBsz : w1.heap.size ≤ Wa.heap.size := by omega
          have HI2 := Lib.hid hI2
          have HNB2 := Lib.hid hnb2
          have HTa := Lib.hid hTa
          have HMa := Lib.hid hMa
          have HBa := Lib.hid hBa
          have HOa := Lib.hid hOa
          clear hI hI2 hnb2 hM2 hoth hOa hTa hMa hBa HO HSH HM HB
          go_upto_region 12 with (at_builtin; refine wpList_pushN (by rfl) _ _ (by rfl) w1.heap.size (.slice oa met.length oc) met a Wa 1 (by rfl) wr.heap.size (by rfl) hsza.symm HOa.out hml3 hBsz ?_; intro g3 cap3 w3 hO3 hB3 hk3 hat3 hg3 hs3)
          have HB3 := Lib.hid (HBa.out.trans hB3)
          have hM3 := (hk3 w1.heap.size (by omega) (ownN_ne4 HOa.out HMa.out)).trans HMa.out
          have hT3 : OwnN w3 w1.heap.size (.slice (some ⟨tb, 0, none⟩) s'.length tc) s' := own_same HTa.out (fun k hk => by
            have hk' : k = tb := by simpa [Value.ownBlock] using hk.symm
            subst hk'
            exact hk3 k htb hne)
          have hne3 : g3 ≠ tb := fun e => by
            rcases hat3 with h | h
            · exact hne (by rw [← e]; exact h)
            · omega
          have htb3 : tb < w3.heap.size := by omega
          have HO3 := Lib.hid hO3
          have HM3 := Lib.hid hM3
          have HT3 := Lib.hid hT3
          obtain ⟨_, _, hv, _, hcl⟩ := HG.out
          cases hv
          obtain ⟨gg, go, rfl, hgg, hcl⟩ := hcl (by omega)
          have hkids := HKI.out.at' hal
          have hkl3 := HK.out _ (List.getElem_mem hal)
          have HND := Lib.hid (fun W (hb : Below w1.heap.size w1 W) => (hcl a hal).below (hb1.trans (hb.mono hs1)) hgg)
          obtain ⟨n0, n1, n2, ⟨ka, kc, n3, n4⟩⟩ := HND.out w3 HB3.out
          have hI2 := HI2.out
          rw [Ar.at_mem g a hal] at hkids hI2
          clear HI2 hcl hO3 hM3 hT3 hk3 hat3 hB3 HOa HMa HTa HBa n0 n1 n2
          generalize g[a] = X at *
          obtain ⟨xk, xt, xs, ks⟩ := X
          simp only at n3 n4 hkids hkl3 hI2
          have HI2 := Lib.hid hI2
          have HKS := Lib.hid hkids
          clear hI2 hkids n4
          go_wp2
          obtain ⟨wo, hwo⟩ : ∃ wo, wo = wr := ⟨_, rfl⟩
          subst hwo
          have HI3 : Hid (Ar.todoGo g (s' ++ ((ks.drop ks.length).map Int.toNat).reverse).reverse (met ++ [a]) = Ar.todoGo g s'.reverse (met ++ [a])) := by show _ = _; rw [List.drop_length]; simp
          clear n3 x0 x1 x2 x3 c2 f2 hsza hWa
          go_loopg [5, 7] ks.length (fun q tv kv wi => ∃ (m : Nat) (st2 : List Nat) (tb2 tc2 : Nat), m ≤ ks.length ∧ q = m ∧ kv = .int .i64 ((m : Int) - 1) ∧ tv = .slice (some ⟨tb2, 0, none⟩) st2.length tc2 ∧ Hid (st2 = s' ++ ((ks.drop m).map Int.toNat).reverse) ∧ st2.length + m = s'.length + ks.length ∧ Hid (OwnN wi w1.heap.size tv st2) ∧ Hid (OwnN wi w1.heap.size (.slice (some ⟨g3, 0, none⟩) (met.length + 1) cap3) (met ++ [a])) ∧ g3 ≠ tb2 ∧ Hid (wi.heap[w1.heap.size]? = some (.cells (cellsB g.length (met ++ [a])) 4)) ∧ Hid (Below w3.heap.size w3 wi ∨ True) ∧ Hid (Below w1.heap.size w1 wi) ∧ w1.heap.size < wi.heap.size)
          case atStart => exact ⟨ks.length, s', tb, tc, Nat.le_refl _, rfl, by go_num, rfl, Lib.hid (by rw [List.drop_length]; simp), by omega, HT3, HO3, hne3, HM3, Lib.hid (.inr trivial), HB3, by omega⟩
          case round =>
            obtain ⟨m, st2, tb2, tc2, hm, hq, rfl, rfl, HS2, hs2l, HT5, HO5, hne5, HM5, _, HB5, hsb5⟩ := hrel
            have hqm := hq.symm
            subst hqm
            clear hq
            obtain ⟨n0, n1, n2, ⟨ka5, kc5, n3, n4⟩⟩ := HND.out wr HB5.out
            simp only at n3 n4
            clear n0 n1 n2 HT3 HO3 HM3 HB3
            by_cases hm0 : m = 0
            · subst hm0
              have hS := HS2.out
              rw [List.drop_zero] at hS
              have hxs : ∀ x ∈ st2, x < g.length := fun x hx => by
                rw [hS] at hx
                rcases List.mem_append.1 hx with hx | hx
                · exact HST'.out x hx
                · rw [List.mem_reverse] at hx
                  obtain ⟨k, hk, rfl⟩ := List.mem_map.1 hx
                  exact (HKS.out k hk).2
              have HX := Lib.hid hxs
              have HT : Hid (Ar.todoGo g st2.reverse (met ++ [a]) = ANS) := by
                show _ = _
                rw [hS, List.reverse_append, List.reverse_reverse]
                exact HI2.out
              have hst9 := HSTL.out
              clear hxs hS HS2 n4
              go_wp2
              go_roundg ((g.length - (met.length + 1)) * 1000001 + st2.length)
              case measure => simp only [List.length_append, List.length_singleton]; omega
              case rel => exact ⟨met ++ [a], st2, tb2, tc2, by simp only [List.length_append, List.length_singleton], rfl, HO5, HT5, by simp only [Value.ownBlock, ne_eq, Option.some.injEq]; exact hne5, HM5, HNB2, HX, by simp only [List.length_append, List.length_singleton]; omega, HT, HB5, hsb5⟩
            · obtain ⟨p, rfl⟩ : ∃ p, m = p + 1 := ⟨m - 1, by omega⟩
              have hp : p < ks.length := by omega
              obtain ⟨_, _, hv, _, hcl⟩ := n4
              simp only [Value.slice.injEq] at hv
              obtain ⟨rfl, _, rfl⟩ := hv
              obtain ⟨kg, ko, rfl, hkg, hcl⟩ := hcl (by omega)
              have e1 := hcl p hp
              have hky := HKS.out _ (List.getElem_mem hp)
              have hdr := List.drop_eq_getElem_cons hp
              have hS := HS2.out
              have hS6 : st2 ++ [ks[p].toNat] = s' ++ ((ks.drop p).map Int.toNat).reverse := by rw [hS, hdr, List.map_cons, List.reverse_cons, List.append_assoc]
              have HS6 := Lib.hid hS6
              clear hcl hdr hS hS6 HS2
              generalize ks[p] = kk at *
              obtain ⟨y, rfl⟩ : ∃ y : Nat, kk = (y : Int) := ⟨kk.toNat, by omega⟩
              rw [Int.toNat_natCast] at HS6
              have p0 : (0 : Int) ≤ (p : Int) := by omega
              have p1 : (p : Int) < (ks.length : Int) := by omega
              have hl6 : st2.length ≤ 10000000000 := by omega
              have hb6 : w1.heap.size ≤ wr.heap.size := by omega
              have hg35 : g3 < wr.heap.size := (World.ownsRow.lt HO5.out g3 rfl).2
              go_wp2_with (at_builtin; refine wpList_pushN (by rfl) _ _ (by rfl) w1.heap.size (.slice (some ⟨tb2, 0, none⟩) st2.length tc2) st2 y wr 1 (by rfl) wr.heap.size (by rfl) rfl HT5.out hl6 hb6 ?_; intro g6 cap6 w6 hO6 hB6 hk6 hat6 hg6 hs6)
              have HO7 : Hid (OwnN w6 w1.heap.size (.slice (some ⟨g3, 0, none⟩) (met.length + 1) cap3) (met ++ [a])) := own_same HO5.out (fun k hk => by
                have hk' : k = g3 := by simpa [Value.ownBlock] using hk.symm
                subst hk'
                exact hk6 k hg35 (by simp only [Value.ownBlock, ne_eq, Option.some.injEq]; exact fun e => hne5 e.symm))
              have HM7 := Lib.hid ((hk6 w1.heap.size (by omega) (ownN_ne4 HT5.out HM5.out)).trans HM5.out)
              have hne7 : g3 ≠ g6 := fun e => by
                rcases hat6 with h | h
                · exact hne5 (by have : tb2 = g6 := by simpa [Value.ownBlock] using h
                                 omega)
                · omega
              have HO6 := Lib.hid hO6
              have HB7 := Lib.hid (HB5.out.trans hB6)
              clear hO6 hB6 hk6 hat6
              go_roundg p
              case measure => omega
              case rel => exact ⟨p, st2 ++ [y], g6, cap6, by omega, rfl, by go_num, by rw [List.length_append, List.length_singleton], HS6, by rw [List.length_append, List.length_singleton]; omega, HO6, HO7, hne7, HM7, Lib.hid (.inr trivial), HB7, by omega⟩
        · rw [hc] at c2
          have hI2 := (Ar.todo_met g a s'.reverse met hc).symm.trans hI
          have HI2 := Lib.hid hI2
          clear hI hI2
          go_wp2
          go_roundg ((g.length - met.length) * 1000001 + s'.length)
          case measure => simp only [List.length_append, List.length_singleton]; omega
          case rel => exact ⟨met, s', tb, tc, rfl, rfl, HO, HSH, hne, HM, HNB, HST', by have := HSTL.out; omega, HI2, HB, hsb⟩
end Go.Proofs.YtnlbnnnhmdjciaaDoor
namespace Go.Proofs.YtnlbnnnhmdjciaaDoor
open Go.RowKit Go.Maps
theorem OwnR.base {w : World} {B B' : Nat} {v : Value} {ns : List Ar.Nd} (h : OwnR w B v ns) (hB : B' ≤ B) : OwnR w B' v ns := by
  obtain ⟨ps, h1, h2, h3⟩ := h
  exact ⟨ps, h1, row_base h2 hB, fun p hp => row_base (h3 p hp) hB⟩
/-- 'append' of one node that was just laid, onto nodes that the call owns -/
theorem wpList_pushR {ops : Array Oper} {rest : List Oper} {o : Oper} {a : Act} {Q : Exit → Act → World → Prop} (hgd : o.guard = none) (s x : Operand) (ty : TypeId) (hty : Tryd.prog.underlying ty = some (.slice 42))
    (ho : o.op = .call { callee := .builtin .append, args := #[s, x], argTypes := #[ty, ty] }) (B : Nat) (v : Value) (ns : List Ar.Nd) (y : Ar.Nd) (u : Value) (w0 : World) (C : Array Value) (c : Nat)
    (hs : a.eval s = v) (ga : Nat) (hx : a.eval x = .slice (some ⟨ga, 0, none⟩) 1 c) (hga : ga = w0.heap.size) (hC : C = #[.int .i64 y.kind, .string (str y.tag), .string (str y.text), u]) (hown : OwnR w0 B v ns) (hu : OwnI w0 B u y.kids) (hl : ns.length ≤ 1000000) (hB : B ≤ w0.heap.size)
    (h : ∀ v' w', OwnR w' B v' (ns ++ [y]) → Below B w0 w' → B ≤ w'.heap.size → (∀ k, k < w0.heap.size → v.ownBlock ≠ some k → w'.heap[k]? = w0.heap[k]?) → wpList Tryd.prog ops Q rest (a.put o.dst v') w') :
    wpList Tryd.prog ops Q (o :: rest) a (w0.alloc (.cells C 42)) := by
  subst hC hga
  obtain ⟨ps, hp1, hp2, hp3⟩ := hown
  obtain ⟨ua, uc, rfl⟩ := own_form hu
  obtain ⟨i0, hi, hz0, hz1, hz2⟩ := info_parts infoR
  refine wpList_append_own _ hgd s x ty ho B 42 i0 _ 4 64 hty hi hz0 hz1 hz2 rfl (by decide) v ns.length (ndCells ps) hs (World.ownsRow.alloc hp2 _) ⟨w0.heap.size, 0, none⟩ 1 c [.int .i64 y.kind, .string (str y.tag), .string (str y.text), .slice ua y.kids.length uc] hx rfl
    (fun j u hu => cells_of_new w0 42 [.int .i64 y.kind, .string (str y.tag), .string (str y.text), .slice ua y.kids.length uc] j u hu) (fun u hu => by simp only [List.mem_cons, List.not_mem_nil, or_false] at hu; rcases hu with rfl | rfl | rfl | rfl <;> rfl) (by simp only [maxLen]; omega) (by omega) (by rw [World.size_alloc]; omega) ?_
  intro v' w' ho' hg _
  have hk : Below B w0 w' := ((Below.refl B w0).alloc hB _).grown hg (by rw [World.size_alloc]; omega) (fun k hk => (World.ownsRow.lt hp2 k hk).1)
  have hkeep : ∀ k, k < w0.heap.size → v.ownBlock ≠ some k → w'.heap[k]? = w0.heap[k]? := fun k hk hne => by
    rw [hg.block k (by rw [World.size_alloc]; omega) hne.symm]
    show (w0.heap.push _)[k]? = _
    rw [Array.getElem?_push, if_neg (by omega)]
  have hkw : ∀ q ks, OwnI w0 B q ks → OwnI w' B q ks := fun q ks hq => own_same hq fun k hk => hkeep k (World.ownsRow.lt hq k hk).2 (own_ne hp2 hq (by decide) hk)
  refine h v' w' ⟨ps ++ [(y, .slice ua y.kids.length uc)], by rw [List.map_append, hp1]; rfl, ?_, ?_⟩ hk (Nat.le_trans hB hk.size) hkeep
  · rw [List.length_append, ndCells_snoc]
    exact ho'
  · intro p hp
    rcases List.mem_append.1 hp with hp | hp
    · exact hkw _ _ (hp3 p hp)
    · simp only [List.mem_cons, List.not_mem_nil, or_false] at hp
      subst hp
      exact hkw _ _ hu
/-- one number put behind others -/
theorem wpList_pushZ {ops : Array Oper} {rest : List Oper} {o : Oper} {a : Act} {Q : Exit → Act → World → Prop} (hgd : o.guard = none) (s x : Operand)
    (ho : o.op = .call { callee := .builtin .append, args := #[s, x], argTypes := #[34, 34] }) (B : Nat) (v : Value) (l : List Int) (y : Int) (w0 : World) (c : Nat)
    (hs : a.eval s = v) (ga : Nat) (hx : a.eval x = .slice (some ⟨ga, 0, none⟩) 1 c) (hga : ga = w0.heap.size) (hown : OwnI w0 B v l) (hl : l.length ≤ 10000000000) (hB : B ≤ w0.heap.size)
    (h : ∀ v' w', OwnI w' B v' (l ++ [y]) → Below B w0 w' → w0.heap.size ≤ w'.heap.size → wpList Tryd.prog ops Q rest (a.put o.dst v') w') :
    wpList Tryd.prog ops Q (o :: rest) a (w0.alloc (.cells #[.int .i64 y] 3)) := by
  subst hga
  obtain ⟨i0, hi, hz0, hz1, hz2⟩ := info_parts info3
  refine wpList_append_lies _ hgd s x 34 ho B 3 i0 (.int .i64 0) 1 8 Tryd.underlying34 hi hz0 hz1 hz2 rfl (by decide) v l.length (l.map (Value.int .i64)) hs (World.ownsRow.alloc hown _) ⟨w0.heap.size, 0, none⟩ 1 c [.int .i64 y] hx rfl (World.news_of_block (heap_alloc_new w0 _)) (ints_oneCell .i64 [y]) (by decide) (by simp only [maxLen]; omega) (by omega) (by rw [World.size_alloc]; omega) _ rfl ?_
  intro g cap w' ho' hg hat hlt
  have hk : Below B w0 w' := ((Below.refl B w0).alloc hB _).grown hg (by rw [World.size_alloc]; omega) (fun k hk => (World.ownsRow.lt hown k hk).1)
  refine h _ w' ?_ hk hk.size
  show w'.ownsRow B 3 1 _ (l ++ [y]).length ((l ++ [y]).map (Value.int .i64))
  rw [List.length_append, List.length_singleton, List.map_append]
  exact ho'

set_option maxHeartbeats 8000000 in
set_option maxRecDepth 100000 in
theorem normalR_any (v : Value) (g : List Ar.Nd) (w : World) (hg : RdGo w w.heap.size v g) (hgl : g.length ≤ 1000000) (hkl : ∀ x ∈ g, x.kids.length ≤ 1000000) (hs : ∀ x ∈ g, x.tag.length ≤ 50000 ∧ x.text.length ≤ 50000) :
    Calls Tryd.prog 25 #[v] w fun e w' => (∃ u, e = .returned u ∧ OwnR w' w.heap.size u (Ar.normal g)) ∧ Below w.heap.size w w' := by
  have cO := Lib.hid (orderR_any v g w hg hgl hkl hs)
  have hnb := Ar.order_nb g
  have hri := @Ar.order_right g
  have HG := Lib.hid hg
  have HKL := Lib.hid hkl
  clear hs hkl
  obtain ⟨ga, gc, rfl, hgc, _⟩ := hg
  unfold Ar.normal
  generalize Ar.order g = met at *
  have hml := hnb.len
  have hm3 := made3 g.length (by omega)
  obtain ⟨NS, hNS⟩ : ∃ NS, Ar.nums g met = NS := ⟨_, rfl⟩
  have hNSl : NS.length = g.length := by rw [← hNS]; unfold Ar.nums; rw [Ar.numGo_len, List.length_replicate]
  rw [hNS]
  have HNS : Hid (Ar.numGo (List.replicate g.length 0) 0 met = NS) := hNS
  clear hNS
  have HNB := Lib.hid hnb
  have HRI := Lib.hid hri
  clear hnb hri
  have HNL := Lib.hid (nats_len met)
  go_enter Tryd.func25, Tryd.ntmps25
  go_wp2_with (go_at_call 33; refine cO.out.mono ?_; rintro e w1 ⟨⟨u, rfl, hu⟩, hb1⟩; have HU := Lib.hid hu; obtain ⟨oa, oc, rfl, _, _⟩ := hu; rw [HNL.out] at *)
  have hs1 := hb1.size
  go_loopg [5] met.length (fun q i wr => ∃ (j : Nat) (ns : List Int), j ≤ met.length ∧ q = met.length - j ∧ i = .int .i64 j ∧ ns.length = g.length ∧ Hid (Ar.numGo ns j (met.drop j) = NS) ∧ Hid (wr.heap[w1.heap.size]? = some (.cells (cellsI ns) 3)) ∧ Hid (Below w1.heap.size w1 wr))
  case atStart => exact ⟨0, _, by omega, by omega, rfl, List.length_replicate, HNS, Lib.hid (alloc_blk _ _), Lib.hid (bnew _ _)⟩
  case round =>
    obtain ⟨j, ns, hj, rfl, rfl, hns, HI, HC, HB⟩ := hrel
    by_cases hlt : j < met.length
    · have hI := HI.out
      rw [List.drop_eq_getElem_cons hlt] at hI
      unfold Ar.numGo at hI
      obtain ⟨_, _, hv, _, hcl0⟩ := HU.out.below HB.out
      simp only [Value.slice.injEq] at hv
      obtain ⟨rfl, hqq, rfl⟩ := hv
      clear hqq
      obtain ⟨mg, mo, rfl, _, hcl⟩ := hcl0 (by rw [nats_len]; omega)
      have hcj := hcl j (by rw [nats_len]; omega)
      rw [nats_at met j hlt] at hcj
      have hay := HNB.out.2 _ (List.getElem_mem hlt)
      clear hcl hcl0 HI
      generalize met[j] = y at *
      have hfy := frozen_blk HC.out y
      have hcy := cell_blk HC.out y _ (cellsI_at ns y (by omega))
      have hC3 := blk_set HC.out y (.int .i64 (j : Int))
      rw [cellsI_set] at hC3
      have HC3 := Lib.hid hC3
      have HB3 := Lib.hid (Below.setCell (p := ⟨w1.heap.size, y, none⟩) HB.out (Nat.le_refl _) (.int .i64 (j : Int)))
      have hl3 : (ns.set y (j : Int)).length = g.length := by rw [List.length_set]; exact hns
      have HI := Lib.hid hI
      clear hC3 hI
      generalize ns.set y (j : Int) = ns' at *
      go_wp2
      go_roundg (met.length - (j + 1))
      case measure => omega
      case rel => exact ⟨j + 1, ns', by omega, rfl, by go_num, hl3, HI, HC3, HB3⟩
    · have hje : j = met.length := by omega
      subst hje
      have hI := HI.out
      rw [List.drop_eq_nil_of_le (by omega)] at hI
      have hI : ns = NS := hI
      subst hI
      clear HI HNS
      have hwr := HB.out.size
      have hnlt : w1.heap.size < wr.heap.size := (Array.getElem?_eq_some_iff.1 HC.out).1
      go_wp2
      go_loopg [6, 7] met.length (fun q o i wr2 => ∃ (j : Nat), j ≤ met.length ∧ q = met.length - j ∧ i = .int .i64 j ∧ Hid (OwnR wr2 (w1.heap.size + 1) o ((met.take j).map (Ar.renum g ns))) ∧ Hid (wr2.heap[w1.heap.size]? = some (.cells (cellsI ns) 3)) ∧ Hid (Below w1.heap.size w1 wr2) ∧ w1.heap.size + 1 ≤ wr2.heap.size)
      case atStart => exact ⟨0, by omega, by omega, rfl, Lib.hid (ownR_nil _ _), HC, HB, hnlt⟩
      case round =>
        obtain ⟨j2, hj2, rfl, rfl, HO, HC2, HB2, hT⟩ := hrel
        by_cases hlt2 : j2 < met.length
        · have hr := HRI.out (fun e => by rw [e] at hlt2; simp at hlt2)
          have HKI := Lib.hid (right_kids hr : Ar.Kids g)
          clear hr
          have hwr2 := HB2.out.size
          have HT := Lib.hid (List.take_succ_eq_append_getElem hlt2)
          obtain ⟨_, _, hv, _, hcl0⟩ := HU.out.below HB2.out
          simp only [Value.slice.injEq] at hv
          obtain ⟨rfl, hqq, rfl⟩ := hv
          clear hqq
          obtain ⟨mg, mo, rfl, _, hcl⟩ := hcl0 (by rw [nats_len]; omega)
          have hcj := hcl j2 (by rw [nats_len]; omega)
          rw [nats_at met j2 hlt2] at hcj
          have hay := HNB.out.2 _ (List.getElem_mem hlt2)
          clear hcl hcl0
          generalize met[j2] = y at *
          have hBw : Below w.heap.size w wr := hb1.trans (HB2.out.mono hs1)
          obtain ⟨_, _, hv, _, hcl0⟩ := HG.out.below hBw
          cases hv
          obtain ⟨gg, go, rfl, hgg, hcl⟩ := hcl0 (by omega)
          obtain ⟨n0, n1, n2, ⟨ka, kc, n3, n4⟩⟩ := hcl y hay
          have hfk := HKL.out _ (List.getElem_mem hay)
          have hkn := HKI.out _ (List.getElem_mem hay)
          have hat : Ar.at' g (y : Int) = g[y] := Ar.at_get g y (by omega) hay
          have hRen : Ar.renum g ns y = ⟨g[y].kind, g[y].tag, g[y].text, g[y].kids.map fun k => ns.getD k.toNat 0⟩ := by unfold Ar.renum; rw [hat]
          clear hcl hcl0 hat
          have y0 : (0 : Int) ≤ (y : Int) := by omega
          have y1 : (y : Int) < (g.length : Int) := by omega
          generalize g[y] = x at *
          obtain ⟨k, t, s, ks⟩ := x
          simp only at n0 n1 n2 n3 n4 hfk hkn hRen
          have HRen := Lib.hid hRen
          have N4 := Lib.hid n4
          have HKN := Lib.hid hkn
          obtain ⟨oa', oc', hu7⟩ := HO.out.form
          have hlj : ((met.take j2).map (Ar.renum g ns)).length = j2 := by rw [List.length_map, List.length_take]; omega
          rw [hlj] at hu7
          subst hu7
          have HLJ := Lib.hid hlj
          clear hlj
          have hb9 := bnew wr (.cells #[.int .i64 k, .string (str t), .string (str s), .slice ka ks.length kc] 42)
          have HB9 := Lib.hid hb9
          clear hRen n4 hkn hb9
          go_wp2
          have hk0 := alloc_blk wr (.cells #[.int .i64 k, .string (str t), .string (str s), .slice ka ks.length kc] 42)
          have hsz : (wr.alloc (.cells #[.int .i64 k, .string (str t), .string (str s), .slice ka ks.length kc] 42)).heap.size = wr.heap.size + 1 := by rw [World.size_alloc]
          have HNN : Hid (∀ wi, Below wr.heap.size wr wi → RdI wi w.heap.size (.slice ka ks.length kc) ks) := fun wi hb => N4.out.below (hb.mono hBw.size)
          have HCC : Hid (∀ wi, Below wr.heap.size wr wi → wi.heap[w1.heap.size]? = some (.cells (cellsI ns) 3)) := fun wi hb => blk_below HC2.out hb
          have HOO : Hid (∀ wi, Below wr.heap.size wr wi → OwnR wi (w1.heap.size + 1) (.slice oa' j2 oc') ((met.take j2).map (Ar.renum g ns))) := fun wi hb => HO.out.below hb
          have HBB : Hid (∀ wi, Below wr.heap.size wr wi → Below w1.heap.size w1 wi) := fun wi hb => HB2.out.trans (hb.mono hwr2)
          clear n0 n1 n2 n3 hcj N4
          generalize wr.alloc (.cells #[.int .i64 k, .string (str t), .string (str s), .slice ka ks.length kc] 42) = W0 at *
          have hD0 := Lib.hid (Nat.le_refl wr.heap.size)
          generalize wr.heap.size = D at *
          obtain ⟨wo, hwo⟩ : ∃ wo, wo = wr := ⟨_, rfl⟩
          subst hwo
          go_loopg [9, 10] ks.length (fun q kv i wi => ∃ (m : Nat), m ≤ ks.length ∧ q = ks.length - m ∧ i = .int .i64 m ∧ Hid (wi.heap[D]? = some (.cells #[.int .i64 k, .string (str t), .string (str s), .slice ka ks.length kc] 42)) ∧ Hid (OwnI wi (D + 1) kv ((ks.take m).map (fun k => ns.getD k.toNat 0))) ∧ Hid (Below D wo wi) ∧ D + 1 ≤ wi.heap.size)
          case atStart => exact ⟨0, by omega, by omega, rfl, Lib.hid hk0, Lib.hid (World.ownsRow_nil _ _ _ _), HB9, by omega⟩
          case round =>
            obtain ⟨m, hm, rfl, rfl, HK, HU2, HB5, hTD⟩ := hrel
            obtain ⟨q0, q1, q2, q3⟩ := quad HK.out
            by_cases hmt : m < ks.length
            · obtain ⟨_, _, hv, _, hcl0⟩ := HNN.out _ HB5.out
              cases hv
              obtain ⟨kg, ko, rfl, _, hcl⟩ := hcl0 (by omega)
              have hkm := hcl m hmt
              have hkk := HKN.out _ (List.getElem_mem hmt)
              have HT2 := Lib.hid (List.take_succ_eq_append_getElem hmt)
              clear hcl hcl0
              generalize ks[m] = kk at *
              unfold Ar.isNode at hkk
              simp only [Bool.and_eq_true, decide_eq_true_eq] at hkk
              obtain ⟨hkk0, hkk1⟩ := hkk
              obtain ⟨y2, rfl⟩ : ∃ y2 : Nat, kk = (y2 : Int) := ⟨kk.toNat, by omega⟩
              have hy2 : y2 < ns.length := by omega
              have hy3 : y2 < g.length := by omega
              have hcn := cell_blk (HCC.out _ HB5.out) y2 _ (cellsI_at ns y2 hy2)
              have hzz : ns.getD ((y2 : Nat) : Int).toNat 0 = ns[y2] := by rw [Int.toNat_natCast, List.getD_eq_getElem?_getD, List.getElem?_eq_getElem hy2]; rfl
              have HZ := Lib.hid hzz
              clear hzz
              generalize ns[y2] = z at *
              have m0 : (0 : Int) ≤ (m : Int) := by omega
              have m1 : (m : Int) < (ks.length : Int) := by omega
              have htl2 : ((ks.take m).map (fun k => ns.getD k.toNat 0)).length ≤ 10000000000 := by rw [List.length_map, List.length_take]; omega
              have hk5 := HK.out
              have hDw : D < wr.heap.size := by omega
              go_wp2_with (at_builtin; refine wpList_pushZ (by rfl) _ _ (by rfl) (D + 1) _ _ z wr 1 (by rfl) wr.heap.size (by rfl) rfl HU2.out htl2 hTD ?_; intro v9 w9 hO9 hB9 hs9)
              have HU9 : Hid (OwnI w9 (D + 1) v9 ((ks.take (m + 1)).map (fun k => ns.getD k.toNat 0))) := by
                show OwnI _ _ _ _
                rw [HT2.out, List.map_append]
                show OwnI _ _ _ (_ ++ [ns.getD ((y2 : Nat) : Int).toNat 0])
                rw [HZ.out]
                exact hO9
              have HK9 := Lib.hid ((hB9.block D (by omega)).trans hk5)
              have HB6 := Lib.hid (HB5.out.trans (hB9.mono (by omega)))
              clear hO9 hB9
              go_roundg (ks.length - (m + 1))
              case measure => omega
              case rel => exact ⟨m + 1, by omega, rfl, by go_num, HK9, HU9, HB6, by omega⟩
            · have hme : m = ks.length := by omega
              have hU := HU2.out
              rw [hme, List.take_of_length_le (Nat.le_refl _)] at hU
              obtain ⟨ua, uc, hfo⟩ := own_form hU
              rw [List.length_map] at hfo
              subst hfo
              have HOw := HOO.out _ HB5.out
              have hub : OwnI wr (w1.heap.size + 1) (.slice ua ks.length uc) (ks.map (fun (k : Int) => ns.getD k.toNat 0)) := row_base hU (show w1.heap.size + 1 ≤ D + 1 by omega)
              have hwT : w1.heap.size + 1 ≤ wr.heap.size := by omega
              have hlj := HLJ.out
              have hml9 : ((met.take j2).map (Ar.renum g ns)).length ≤ 1000000 := by omega
              have HCw := Lib.hid (HCC.out _ HB5.out)
              have HBw := Lib.hid (HBB.out _ HB5.out)
              clear hU HK HU2 hlj
              go_wp2_with (at_builtin; refine wpList_pushR (by rfl) _ _ 22 Tryd.underlying22 (by rfl) (w1.heap.size + 1) (.slice oa' j2 oc') _ ⟨k, t, s, ks.map (fun (k : Int) => ns.getD k.toNat 0)⟩ (.slice ua ks.length uc) wr #[.int .i64 k, .string (str t), .string (str s), .slice ua ks.length uc] 1 (by rfl) wr.heap.size (by rfl) (by rfl) (by rfl) HOw (by (show OwnI wr (w1.heap.size + 1) (.slice ua ks.length uc) (ks.map (fun (k : Int) => ns.getD k.toNat 0))); exact hub) hml9 hwT ?_; intro v9 w9 hO9 hB9 hs9 hk9)
              have hO9 : OwnR w9 (w1.heap.size + 1) v9 ((met.take (j2 + 1)).map (Ar.renum g ns)) := by
                rw [HT.out, List.map_append]
                show OwnR _ _ _ (_ ++ [Ar.renum g ns y])
                rw [HRen.out]
                exact hO9
              have HO9 := Lib.hid hO9
              have HC9 := Lib.hid ((hB9.block w1.heap.size (by omega)).trans HCw.out)
              have HB10 := Lib.hid (HBw.out.trans (hB9.mono (by omega)))
              clear hO9 hB9 hk9
              go_roundg (met.length - (j2 + 1))
              case measure => omega
              case rel => exact ⟨j2 + 1, by omega, rfl, by go_num, HO9, HC9, HB10, hs9⟩
        · have hje2 : j2 = met.length := by omega
          have hO := HO.out
          rw [hje2, List.take_of_length_le (Nat.le_refl _)] at hO
          have HO := Lib.hid (OwnR.base hO (show w.heap.size ≤ w1.heap.size + 1 by omega))
          clear hO
          go_wp2
          go_ret
          exact ⟨⟨_, rfl, HO.out⟩, hb1.trans (HB2.out.mono hs1)⟩
end Go.Proofs.YtnlbnnnhmdjciaaDoor
