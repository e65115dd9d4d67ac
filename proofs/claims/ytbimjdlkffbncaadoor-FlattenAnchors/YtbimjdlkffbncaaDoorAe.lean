/-
  The walks of keyTwice and Twice.
-/
import Derived.Test.YtbimjdlkffbncaaDoorAd
namespace Go.Proofs.YtbimjdlkffbncaaDoor
open Go.RowKit Go.Maps

set_option maxHeartbeats 4000000 in
set_option maxRecDepth 100000 in
theorem keyTwice_any (v u : Value) (g : List Ar.Nd) (ks : List Int) (w : World) (hg : RdG w w.heap.size v g) (hk : RdI w w.heap.size u ks) (hn : ks.length ≤ 1000000) (hgl : g.length ≤ 1000000) (hfi : ∀ x ∈ g, Fine x) :
    Calls Tryd.prog 68 #[v, u] w fun e w' => e = .returned (.bool (Ar.keyTwice g ks)) ∧ Below w.heap.size w w' := by
  obtain ⟨ANS, hANS⟩ : ∃ ANS, Ar.keyTwice g ks = ANS := ⟨_, rfl⟩
  rw [hANS]
  have HA : Hid (Ar.twiceGo g [] (Ar.keys ks) = ANS) := hANS
  have HG := Lib.hid hg
  have HK := Lib.hid hk
  have HF := Lib.hid hfi
  clear hANS hfi
  obtain ⟨ga, gc, rfl, hgc, _⟩ := hg
  obtain ⟨ka, kc, rfl, hkc, _⟩ := hk
  have hmm := @run_makeMap Tryd.prog
  go_enter Tryd.func68, Tryd.ntmps68
  go_wp2
  go_loopw [6] (fun i wr => ∃ (j : Nat) (D : DataW Unit) (seen : List Ar.Face), j ≤ ks.length + 1 ∧ i = .int .i64 j ∧ Hid (Ar.twiceGo g seen (Ar.keys (ks.drop j)) = ANS) ∧ Hid (wr.ownsMap Tryd.prog 120 unitElem w.heap.size j D) ∧ Hid (Seen D seen) ∧ Hid (Below w.heap.size w wr) ∧ w.heap.size + 1 ≤ wr.heap.size) (fun i _ => ks.length + 1 - (intOf i).toNat)
  case atStart => exact ⟨0, _, [], by omega, rfl, HA, Lib.hid (World.ownsMap_made _ _ _ _), Lib.hid Seen.none, Lib.hid (bnew w _), by rw [World.size_alloc]; omega⟩
  case round =>
    obtain ⟨j, D, seen, hj, rfl, HI, HM, HS, HB, hsz⟩ := hrel
    clear HA
    have hBr := HB.out.size
    by_cases hlt : j < ks.length
    · obtain ⟨_, _, hv, _, hcl⟩ := HK.out.below HB.out
      cases hv
      obtain ⟨kg, ko, rfl, _, hcl⟩ := hcl (by omega)
      have hkj := hcl j hlt
      clear hcl
      have hI := HI.out
      rw [Ar.keys_step ks j hlt] at hI
      unfold Ar.twiceGo at hI
      clear HI
      generalize ks[j] = kk at *
      have cN := fun w => isNode_any ga g.length gc kk w
      cases hx : Ar.isNode g.length kk
      · rw [hx, if_neg (by decide)] at hI
        rw [hx] at cN
        have HI := Lib.hid hI
        have cN := Lib.hid cN
        clear hI
        go_wp2_with (go_at_call 85; refine (cN.out _).mono ?_; rintro e w1 ⟨rfl, rfl⟩)
        go_roundw
        case rel => exact ⟨j + 2, D, seen, by omega, by go_num, HI, Lib.hid (HM.out.mono (by omega)), HS, HB, hsz⟩
        case measure => simp [intOf]; omega
      · rw [hx, if_pos rfl] at hI
        rw [hx] at cN
        have hok := at_ok g HF.out kk hx hgl
        obtain ⟨l, hl⟩ := key_ok _ hok
        unfold Ar.isNode at hx
        simp only [Bool.and_eq_true, decide_eq_true_eq] at hx
        obtain ⟨m, rfl⟩ : ∃ m : Nat, kk = (m : Int) := ⟨kk.toNat, by omega⟩
        have hhas := HS.out.2 _ l hok hl
        have cF := fun w1 (hb : Below w.heap.size w w1) => faceOf_any (.slice ga g.length gc) g m (by omega) w1 ((HG.out.below hb).mono hb.size)
        have hput := fun d => HS.out.put _ l hl d
        generalize Ar.face g m = f at *
        have hl' := hl
        have hcl' : ∀ c, faceV f = c → keyOf Tryd.prog 120 c = some l := fun c e => e ▸ hl
        obtain ⟨f0, f1, f2, f3⟩ := f
        have hl := hcl' (.agg #[.bool f0, .string (str f1), .string (str f2), .int .i64 f3]) rfl
        have cF : ∀ w1, Below w.heap.size w w1 → Calls Tryd.prog 99 #[.slice ga g.length gc, .int .i64 m] w1 fun e w' => e = .returned (.agg #[.bool f0, .string (str f1), .string (str f2), .int .i64 f3]) ∧ Below w1.heap.size w1 w' := cF
        clear hcl'
        cases hc : seen.contains (f0, f1, f2, f3)
        · rw [hc, if_neg (by decide)] at hI
          rw [hc] at hhas
          have HI := Lib.hid hI
          have cN := Lib.hid cN
          have cF := Lib.hid cF
          have hput := Lib.hid hput
          clear hI
          go_wp2_with (first
            | (go_at_call 85; refine (cN.out _).mono ?_; rintro e w1 ⟨rfl, rfl⟩)
            | (go_at_call 99; refine (cF.out _ HB.out).mono ?_; rintro e w2 ⟨rfl, hb2⟩; have hown2 := ownM_below HM.out hb2)
            | (at_lookup; refine wpList_lookup_own_unit _ rfl _ _ 118 rfl 120 122 law Tryd.underlying118 (zeroU _) w.heap.size j D rfl (hown2.alloc _) _ _ rfl hl ?_; rw [hhas])
            | (at_mapUpdate; refine wpList_mapUpdate_own _ rfl _ _ _ 118 rfl 120 122 law Tryd.underlying118 (unitElem (H := Unit)) w.heap.size j D rfl ((hown2.alloc _).alloc _) (by unfold maxLen; omega) _ _ _ rfl rfl hl _ [] unitElem_mk ?_; intro w3 hown3 hgrow3))
          have hB2 := HB.out.trans (hb2.mono hBr)
          have hB3 := hB2.alloc hB2.size (.cells #[.bool f0, .string (str f1), .string (str f2), .int .i64 f3] 120)
          have hB4 := hB3.alloc hB3.size (.cells #[] 122)
          have hB5 := hB4.grown hgrow3 hB4.size (fun j hj => by cases hj; exact Nat.le_refl _)
          have hs5 := hgrow3.size
          have hs2 := hb2.size
          rw [World.size_alloc, World.size_alloc] at hs5
          go_roundw
          case rel => exact ⟨j + 2, _, _, by omega, by go_num, HI, Lib.hid (hown3.mono (by omega)), Lib.hid (hput.out _), Lib.hid hB5, by omega⟩
          case measure => simp [intOf]; omega
        · rw [hc, if_pos rfl] at hI
          rw [hc] at hhas
          subst hI
          have cN := Lib.hid cN
          have cF := Lib.hid cF
          clear hput
          go_wp2_with (first
            | (go_at_call 85; refine (cN.out _).mono ?_; rintro e w1 ⟨rfl, rfl⟩)
            | (go_at_call 99; refine (cF.out _ HB.out).mono ?_; rintro e w2 ⟨rfl, hb2⟩; have hown2 := ownM_below HM.out hb2)
            | (at_lookup; refine wpList_lookup_own_unit _ rfl _ _ 118 rfl 120 122 law Tryd.underlying118 (zeroU _) w.heap.size j D rfl (hown2.alloc _) _ _ rfl hl ?_; rw [hhas]))
          have hB2 := HB.out.trans (hb2.mono hBr)
          have hB3 := hB2.alloc hB2.size (.cells #[.bool f0, .string (str f1), .string (str f2), .int .i64 f3] 120)
          go_ret
          exact ⟨rfl, hB3.alloc hB3.size _⟩
    · have hF : ANS = false := by rw [← HI.out, List.drop_eq_nil_of_le (by omega)]; rfl
      subst hF
      clear HI
      go_wp2
      go_ret
      exact ⟨rfl, HB.out⟩
theorem bnew' {w wr : World} (h : Below w.heap.size w wr) (o : Obj) : Below w.heap.size wr (wr.alloc o) := Below.mono (bnew wr o) h.size

set_option maxHeartbeats 2000000 in
theorem twice_any (v : Value) (g : List Ar.Nd) (w : World) (hg : RdG w w.heap.size v g) (hgl : g.length ≤ 1000000) (hfi : ∀ x ∈ g, Fine x) :
    Calls Tryd.prog 39 #[v] w fun e w' => e = .returned (.bool (Ar.twice g)) ∧ Below w.heap.size w w' := by
  obtain ⟨ANS, hANS⟩ : ∃ ANS, Ar.twice g = ANS := ⟨_, rfl⟩
  rw [hANS]
  have HA : Hid ((g.any fun x => (x.kind == 2) && Ar.keyTwice g x.kids) = ANS) := hANS
  have HG := Lib.hid hg
  have HF := Lib.hid hfi
  clear hANS hfi
  obtain ⟨ga, gc, rfl, hgc, _⟩ := hg
  go_enter Tryd.func39, Tryd.ntmps39
  go_wp2
  go_loopw [7] (fun i wr => ∃ (j : Nat), j ≤ g.length ∧ i = .int .i64 j ∧ Hid (((g.drop j).any fun x => (x.kind == 2) && Ar.keyTwice g x.kids) = ANS) ∧ Hid (Below w.heap.size w wr)) (fun i _ => g.length - (intOf i).toNat)
  case atStart => exact ⟨0, by omega, rfl, HA, Lib.hid (Below.refl _ _)⟩
  case round =>
    obtain ⟨j, hj, rfl, HI, HB⟩ := hrel
    clear HA
    by_cases hlt : j < g.length
    · have hI := HI.out
      rw [List.drop_eq_getElem_cons hlt, List.any_cons] at hI
      clear HI
      obtain ⟨_, _, hv, _, hcl⟩ := HG.out.below HB.out
      cases hv
      obtain ⟨gg, rfl, hgg, hcl⟩ := hcl (by omega)
      have hf := HF.out _ (List.getElem_mem hlt)
      obtain ⟨n0, n1, n2, ⟨a, c, n3, n4⟩⟩ := hcl j hlt
      clear hcl
      generalize g[j] = x at *
      obtain ⟨k, t, s, ks⟩ := x
      have hfk := hf.kids
      simp only at hI n0 n1 n2 n3 n4 hfk
      have hB2 := HB.out.alloc HB.out.size (.cells #[.int .i64 k, .string (str t), .string (str s), .slice a ks.length c] 64)
      by_cases h2 : k = 2
      · subst h2
        rw [show ((2 : Int) == 2) = true from rfl, Bool.true_and] at hI
        have cK := keyTwice_any (.slice (some ⟨gg, 0, none⟩) g.length gc) (.slice a ks.length c) g ks (wr.alloc (.cells #[.int .i64 2, .string (str t), .string (str s), .slice a ks.length c] 64)) ((HG.out.below hB2).mono hB2.size) ((n4.below (bnew' HB.out _)).mono hB2.size) hfk hgl HF.out
        cases hx : Ar.keyTwice g ks
        · rw [hx] at cK
          rw [hx, Bool.false_or] at hI
          have HI := Lib.hid hI
          have cK := Lib.hid cK
          clear hI
          go_wp2_with (go_at_call 68; refine cK.out.mono ?_; rintro e w2 ⟨rfl, hb2⟩)
          go_roundw
          case rel => exact ⟨j + 1, by omega, by go_num, HI, Lib.hid (hB2.trans (hb2.mono hB2.size))⟩
          case measure => simp [intOf]; omega
        · rw [hx] at cK
          rw [hx, Bool.true_or] at hI
          subst hI
          have cK := Lib.hid cK
          go_wp2_with (go_at_call 68; refine cK.out.mono ?_; rintro e w2 ⟨rfl, hb2⟩)
          go_ret
          exact ⟨rfl, hB2.trans (hb2.mono hB2.size)⟩
      · rw [show (k == 2) = false from beq_eq_false_iff_ne.2 h2, Bool.false_and, Bool.false_or] at hI
        have HI := Lib.hid hI
        clear hI
        go_wp2
        go_roundw
        case rel => exact ⟨j + 1, by omega, by go_num, HI, Lib.hid hB2⟩
        case measure => simp [intOf]; omega
    · have hF : ANS = false := by rw [← HI.out, List.drop_eq_nil_of_le (by omega)]; rfl
      subst hF
      clear HI
      go_wp2
      go_ret
      exact ⟨rfl, HB.out⟩
end Go.Proofs.YtbimjdlkffbncaaDoor
