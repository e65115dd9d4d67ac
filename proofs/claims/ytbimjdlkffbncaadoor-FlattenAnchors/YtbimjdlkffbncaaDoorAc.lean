/-
  The walk of arena.mayBe.
-/
import Derived.Test.YtbimjdlkffbncaaDoorAb
namespace Go.Proofs.YtbimjdlkffbncaaDoor
open Go.RowKit
theorem toL (l : List UInt8) : (str l).toList = l := str_toList l
theorem str_dat (l : List UInt8) : (str l).data.toList = l := rfl

set_option maxHeartbeats 2000000 in
theorem mayBe_any (v : Value) (g : List Ar.Nd) (x : Ar.Nd) (ka : Option Addr) (kc : Nat) (w : World) (hg : RdG w w.heap.size v g) (hk : RdI w w.heap.size (.slice ka x.kids.length kc) x.kids) (hf : Fine x) (hE : Env w) :
    Calls Tryd.prog 51 #[v, .agg #[.int .i64 x.kind, .string (str x.tag), .string (str x.text), .slice ka x.kids.length kc]] w fun e w' => e = .returned (.bool (Ar.mayBe g x)) ∧ Below w.heap.size w w' := by
  obtain ⟨ft, fx, fk⟩ := hf
  unfold Ar.mayBe
  obtain ⟨A, hA⟩ : ∃ A, x.kids.all (Ar.isNode g.length) = A := ⟨_, rfl⟩
  rw [hA]
  obtain ⟨M, hM⟩ : ∃ M, Ar.may1 g x = M := ⟨_, rfl⟩
  rw [hM]
  have HA := Lib.hid hA
  have HM := Lib.hid hM
  have HG := Lib.hid hg
  have HK := Lib.hid hk
  have HE := Lib.hid hE
  clear hA hM hE hk
  obtain ⟨ga, gc, rfl, hgc, _⟩ := hg
  obtain ⟨k, t, s, ks⟩ := x
  simp only at *
  go_enter Tryd.func51, Tryd.ntmps51
  go_wp2
  go_loop [10] (fun i => ∃ j : Nat, j ≤ ks.length ∧ i = .int .i64 j ∧ Hid ((ks.drop j).all (Ar.isNode g.length) = A)) (fun i => ks.length - (intOf i).toNat)
  case atStart => exact ⟨0, by omega, rfl, HA⟩
  case round =>
    obtain ⟨j, hj, rfl, HI⟩ := hrel
    by_cases hlt : j < ks.length
    · obtain ⟨_, _, hv, hkc, hcl⟩ := (HK.out.below (bnew w (.cells #[.int .i64 k, .string (str t), .string (str s), .slice ka ks.length kc] 64)))
      cases hv
      obtain ⟨kg, ko, rfl, _, hcl⟩ := hcl (by omega)
      have hkj := hcl j hlt
      clear hcl
      have hI := HI.out
      rw [List.drop_eq_getElem_cons hlt, List.all_cons] at hI
      generalize ks[j] = kk at *
      have cN := fun w => isNode_any ga g.length gc kk w
      clear HI HA
      cases hx : Ar.isNode g.length kk
      · rw [hx] at hI cN
        rw [Bool.false_and] at hI
        subst hI
        have cN := Lib.hid cN
        go_wp2_with (go_at_call 85; refine (cN.out _).mono ?_; rintro e w1 ⟨rfl, rfl⟩)
        go_ret
        exact ⟨rfl, bnew _ _⟩
      · rw [hx] at hI cN
        rw [Bool.true_and] at hI
        have HN := Lib.hid hI
        have cN := Lib.hid cN
        clear hI
        go_wp2_with (go_at_call 85; refine (cN.out _).mono ?_; rintro e w1 ⟨rfl, rfl⟩)
        go_round
        case rel => exact ⟨j + 1, by omega, by go_num, HN⟩
        case measure => simp [intOf]; omega
    · have hAt : A = true := by rw [← HI.out, List.drop_eq_nil_of_le (by omega)]; rfl
      have hall := HA.out
      subst hAt
      clear HI HA
      have hM := HM.out
      unfold Ar.may1 at hM
      simp only at hM
      have hb0 := bnew w (.cells #[.int .i64 k, .string (str t), .string (str s), .slice ka ks.length kc] 64)
      by_cases h0 : k = 0
      · subst h0
        rw [if_pos rfl] at hM
        by_cases hke : ks = []
        · subst hke
          rw [show ([] : List Int).isEmpty = true from rfl, Bool.true_and] at hM
          have cV := fun w hE => valid_any (str s) w (by rw [str_size]; exact fx) hE
          rw [str_dat] at cV
          cases hv : Lib.validD s
          · rw [hv] at hM cV
            subst hM
            have cV := Lib.hid cV
            go_wp2_with (go_at_call 86; refine (cV.out _ (HE.out.below hb0)).mono ?_; rintro e w1 ⟨rfl, hb⟩)
            go_ret
            exact ⟨rfl, bthen hb0 hb⟩
          · rw [hv, Bool.true_and] at hM
            rw [hv] at cV
            subst hM
            have cV := Lib.hid cV
            have cF := Lib.hid fun w => Tag.fits_any (str t) (str s) w (by rw [str_size]; exact ft) (by rw [str_size]; exact fx)
            go_wp2_with (go_at_call 86; refine (cV.out _ (HE.out.below hb0)).mono ?_; rintro e w1 ⟨rfl, hb⟩; obtain ⟨q0, q1, q2, q3⟩ := quad (blk_below (alloc_blk w _) hb))
            go_wp2_with (go_at_call 78; refine (cF.out _).mono ?_; rintro e w2 ⟨rfl, hb2⟩)
            go_ret
            exact ⟨rfl, bthen (bthen hb0 hb) hb2⟩
        · have hl : ks.length ≠ 0 := fun e => hke (List.eq_nil_of_length_eq_zero e)
          rw [show ks.isEmpty = false by cases ks <;> simp_all, Bool.false_and] at hM
          subst hM
          go_wp2
          go_ret
          exact ⟨rfl, hb0⟩
      · by_cases h1 : k = 1
        · subst h1
          rw [if_neg h0, if_pos rfl] at hM
          clear h0
          by_cases hse : s = []
          · subst hse
            rw [show ([] : List UInt8).isEmpty = true from rfl, Bool.true_and] at hM
            have cT := fun w => isTagOf_any ⟨#[115, 101, 113]⟩ (str t) w (by rw [str_size]; exact ft)
            rw [str_dat] at cT
            have cT : Hid (∀ w, Calls Tryd.prog 87 #[.string ⟨#[115, 101, 113]⟩, .string (str t)] w fun e w' => e = .returned (.bool M) ∧ Below w.heap.size w w') := by
              rw [← hM]; exact cT
            have z0 := toL []
            go_wp2_with (go_at_call 87; refine (cT.out _).mono ?_; rintro e w1 ⟨rfl, hb⟩)
            go_ret
            exact ⟨rfl, bthen hb0 hb⟩
          · have hse' : ((str s).toList == []) = false := by rw [toL]; exact beq_eq_false_iff_ne.2 hse
            rw [show s.isEmpty = false by cases s <;> simp_all, Bool.false_and] at hM
            subst hM
            go_wp2
            go_ret
            exact ⟨rfl, hb0⟩
        · by_cases h2 : k = 2
          · subst h2
            rw [if_neg h0, if_neg h1, if_pos rfl] at hM
            clear h0 h1
            by_cases hse : s = []
            · subst hse
              rw [show ([] : List UInt8).isEmpty = true from rfl, Bool.true_and] at hM
              have cT := fun w => isTagOf_any ⟨#[109, 97, 112]⟩ (str t) w (by rw [str_size]; exact ft)
              rw [str_dat] at cT
              have z0 := toL []
              cases ht : Ar.isTagOf Ar.mapW t
              · rw [ht] at hM
                have cT : Hid (∀ w, Calls Tryd.prog 87 #[.string ⟨#[109, 97, 112]⟩, .string (str t)] w fun e w' => e = .returned (.bool false) ∧ Below w.heap.size w w') := by
                  rw [← ht]; exact cT
                subst hM
                go_wp2_with (go_at_call 87; refine (cT.out _).mono ?_; rintro e w1 ⟨rfl, hb⟩)
                go_ret
                exact ⟨rfl, bthen hb0 hb⟩
              · rw [ht, Bool.true_and] at hM
                have cT : Hid (∀ w, Calls Tryd.prog 87 #[.string ⟨#[109, 97, 112]⟩, .string (str t)] w fun e w' => e = .returned (.bool true) ∧ Below w.heap.size w w') := by
                  rw [← ht]; exact cT
                have cP : Hid (∀ w1, Below w.heap.size w w1 → Calls Tryd.prog 88 #[.slice ga g.length gc, .slice ka ks.length kc] w1 fun e w' => e = .returned (.bool M) ∧ w1 = w') := by
                  rw [← hM]; exact fun w1 hb => inPairs_any _ _ g ks w.heap.size w1 (HG.out.below hb) (HK.out.below hb) fk hall
                go_wp2_with (go_at_call 87; refine (cT.out _).mono ?_; rintro e w1 ⟨rfl, hb⟩; obtain ⟨q0, q1, q2, q3⟩ := quad (blk_below (alloc_blk w _) hb))
                go_wp2_with (go_at_call 88; refine (cP.out _ (bthen hb0 hb)).mono ?_; rintro e w2 ⟨rfl, rfl⟩)
                go_ret
                exact ⟨rfl, bthen hb0 hb⟩
            · have hse' : ((str s).toList == []) = false := by rw [toL]; exact beq_eq_false_iff_ne.2 hse
              rw [show s.isEmpty = false by cases s <;> simp_all, Bool.false_and] at hM
              subst hM
              go_wp2
              go_ret
              exact ⟨rfl, hb0⟩
          · rw [if_neg h0, if_neg h1, if_neg h2] at hM
            subst hM
            go_wp2
            go_ret
            exact ⟨rfl, bnew _ _⟩
end Go.Proofs.YtbimjdlkffbncaaDoor
