/-
  The walk of the document's Right.
-/
import Derived.Test.YthkedlcmpibkjaaGreatDoorGd
namespace Go.Proofs.YthkedlcmpibkjaaGreatDoor
namespace Ev
theorem right_doc (es : List E) : (es.all fieldR && (nested (kinds es) && decide (dmax (kinds es) ≤ 40))) = right es := by
  unfold right
  cases hn : nested (kinds es) with
  | false => simp
  | true =>
    have hk := run_kinds _ _ _ ((nested_iff _).1 hn)
    have e : es.all fieldR = es.all filled := by
      rw [Bool.eq_iff_iff, List.all_eq_true, List.all_eq_true]
      have each : ∀ x ∈ es, fieldR x = filled x := fun x hx => by
        have := hk x.kind (by unfold kinds; exact List.mem_map.2 ⟨x, hx, rfl⟩)
        unfold fieldR
        rw [decide_eq_true this.1, decide_eq_true this.2, Bool.true_and, Bool.true_and]
      constructor
      · intro h x hx; rw [← each x hx]; exact h x hx
      · intro h x hx; rw [each x hx]; exact h x hx
    rw [e]
    cases es.all filled <;> cases decide (dmax (kinds es) ≤ 40) <;> rfl
theorem field_drop (es : List E) (j : Nat) (h : j < es.length) : (es.drop j).all fieldR = (fieldR es[j] && (es.drop (j + 1)).all fieldR) := by
  rw [List.drop_eq_getElem_cons h, List.all_cons]
/-- the kinds of a row, aliases as scalars -/
def plains (es : List E) : List Int := (kinds es).map plainK
theorem plains_take (es : List E) (j : Nat) (h : j < es.length) : plains (es.take (j + 1)) = plains (es.take j) ++ [plainK es[j].kind] := by
  have e : es.take (j + 1) = es.take j ++ [es[j]] := List.take_succ_eq_append_getElem h
  unfold plains kinds
  rw [e, List.map_append, List.map_append]
  rfl
theorem plains_len (es : List E) : (plains es).length = es.length := by unfold plains; rw [List.length_map, kinds_len]
theorem chk_drop (l : List Int) (j : Nat) (h : j < l.length) : chk j (l.drop j) = (decide (l[j] = want j) && chk (j + 1) (l.drop (j + 1))) := by
  rw [List.drop_eq_getElem_cons h]; rfl
/-- where the reductions stand -/
def Along (K : Bool) (l : List Int) (n : Nat) : Prop := nested l = K ∧ (7 : Int) ∉ l ∧ (l.length < n ∨ NoRed l)
theorem Along.next {K : Bool} {l : List Int} {n : Nat} (h : Along K l n) : Along K (red [] l) l.length := by
  obtain ⟨h1, h2, _⟩ := h
  refine ⟨by rw [red_nested]; exact h1, fun hm => ?_, ?_⟩
  · rcases red_mem l [] 7 hm with e | e
    · exact absurd e (by decide)
    · exact h2 (by simpa using e)
  · have hl := red_len l []
    simp only [List.length_nil, Nat.zero_add] at hl
    rcases Nat.lt_or_ge (red [] l).length l.length with h | h
    · exact .inl h
    · obtain ⟨e, hr⟩ := red_fix l [] (by simp only [List.length_nil, Nat.zero_add]; omega)
      rw [e]; exact .inr hr
theorem Along.done {K : Bool} {l : List Int} {n : Nat} (h : Along K l n) (hn : ¬ l.length < n) : K = (chk 0 l && decide (l.length % 3 = 0)) := by
  obtain ⟨h1, h2, h3⟩ := h
  rw [← h1]
  exact nested_chk l (h3.resolve_left hn) h2
theorem want0 (i : Nat) (h : i % 3 = 0) : want i = 0 := if_pos h
theorem want1 (i : Nat) (h : i % 3 = 1) : want i = 6 := by unfold want; rw [if_neg (by omega), if_pos h]
theorem want2 (i : Nat) (h : i % 3 = 2) : want i = 1 := by unfold want; rw [if_neg (by omega), if_neg (by omega)]
end Ev
open Go.RowKit
theorem mod3 (j r : Nat) (h : j % 3 = r) : (j : Int) % 3 = (r : Int) ∧ (j : Int).tmod 3 = (r : Int) := by
  have e : (j : Int) % 3 = (r : Int) := by omega
  exact ⟨e, by rw [Int.tmod_eq_emod_of_nonneg (by omega)]; exact e⟩
theorem below_eq {B : Nat} {w w1 w2 : World} (h : Below B w w1) (h1 : w2.heap = w1.heap) (h2 : w2.os = w1.os) (h3 : w2.tape = w1.tape) (h4 : w2.output = w1.output) : Below B w w2 :=
  ⟨h2.trans h.os, h3.trans h.tape, h4.trans h.output, by rw [h1]; exact h.size, fun k hk => by rw [h1]; exact h.block k hk⟩
theorem ownZ_push {w : World} {B : Nat} {v : Value} {l : List Int} (h : OwnZ w B v l) : ∃ a c, v = .slice a l.length c := own_slice h

/-- the third loop, and the end -/
def RightEnd (es : List Ev.E) (K : Bool) : Bool := K && decide (Ev.dmax (Ev.kinds es) ≤ 40)

set_option maxHeartbeats 8000000 in
set_option maxRecDepth 100000 in
theorem rightD_any (v : Value) (es : List Ev.E) (w : World) (h : RdE w w.heap.size v es) (hl : es.length ≤ 4000) (hs : ∀ x ∈ es, Ev.Small x) :
    Calls Tryz.prog 28 #[v] w fun e w' => e = .returned (.bool (Ev.right es)) ∧ Below w.heap.size w w' := by
  have HR := Lib.hid h
  obtain ⟨a, c, rfl, hc, hcl⟩ := h
  have HC := Lib.hid hcl
  have HS := Lib.hid hs
  clear hcl hs
  rw [← Ev.right_doc]
  obtain ⟨D, hD⟩ : ∃ D, Ev.dmax (Ev.kinds es) = D := ⟨_, rfl⟩
  obtain ⟨NK, hNK⟩ : ∃ NK, Ev.nested (Ev.kinds es) = NK := ⟨_, rfl⟩
  have cD := Lib.hid (fun v W (h : RdE W W.heap.size v es) => depthR_any v es W h (by omega))
  rw [hD] at cD ⊢
  rw [hNK]
  obtain ⟨ANS, hANS⟩ : ∃ ANS, (es.all Ev.fieldR && (NK && decide (D ≤ 40))) = ANS := ⟨_, rfl⟩
  rw [hANS]
  have HA : Hid (((es.drop 0).all Ev.fieldR && (NK && decide (D ≤ 40))) = ANS) := hANS
  have HAL : Hid (Ev.Along NK (Ev.plains es) (es.length + 1)) := ⟨by unfold Ev.plains; rw [Ev.nested_plain]; exact hNK, Ev.plain_no _, .inl (by rw [Ev.plains_len]; omega)⟩
  clear hANS hD hNK
  go_enter Tryz.func28, Tryz.ntmps28
  go_wp2
  go_loopw [3, 4] (fun kv i wr => ∃ (j : Nat), j ≤ es.length ∧ i = .int .i64 j ∧ OwnZ wr w.heap.size kv (Ev.plains (es.take j)) ∧ Hid (((es.drop j).all Ev.fieldR && (NK && decide (D ≤ 40))) = ANS) ∧ Below w.heap.size w wr) (fun _ i _ => es.length - (intOf i).toNat)
  case atStart => exact ⟨0, by omega, rfl, World.ownsRow_nil _ _ _ _, HA, Below.refl _ _⟩
  case round =>
    obtain ⟨j, hj, rfl, hown, HK, hbw⟩ := hrel
    clear HA
    have hBr := hbw.size
    obtain ⟨ka, kc, rfl⟩ := own_slice hown
    by_cases hlt : j < es.length
    · obtain ⟨g, o, rfl, hg, hcl⟩ := HC.out (by omega)
      have hEA := (hcl j hlt).below hbw hg
      have HEA := Lib.hid hEA
      obtain ⟨c0, c1, c2, c3, c4⟩ := hEA
      have hK := HK.out
      rw [Ev.field_drop es j hlt] at hK
      have cF := fun w => field_any es[j] w (HS.out _ (List.getElem_mem hlt))
      have HPT := Lib.hid (Ev.plains_take es j hlt)
      have hpl : (Ev.plains (es.take j)).length = j := by rw [Ev.plains_len, List.length_take]; omega
      have HO : Hid (OwnZ wr w.heap.size (.slice ka j kc) (Ev.plains (es.take j))) := by have h := hown; rw [hpl] at h; exact h
      rw [hpl]
      clear hcl HK hown
      cases hf : Ev.fieldR es[j]
      · rw [hf] at hK cF
        obtain rfl : ANS = false := by rw [← hK]; rfl
        have CF := Lib.hid cF
        clear hK hf cF
        generalize es[j] = x at *
        go_wp2_with (go_at_call 48; refine (CF.out _).mono ?_; rintro e w2 ⟨rfl, hb2⟩)
        go_ret
        exact ⟨rfl, bthen hbw hb2⟩
      · rw [hf] at hK cF
        rw [Bool.true_and] at hK
        have HK : Hid (((es.drop (j + 1)).all Ev.fieldR && (NK && decide (D ≤ 40))) = ANS) := hK
        have CF := Lib.hid cF
        have hgr : g < wr.heap.size := Nat.lt_of_lt_of_le hg hBr
        clear hK hf cF
        generalize es[j] = x at *
        by_cases k7 : x.kind = 7
        · have e6 : Ev.plainK x.kind = 6 := if_pos k7
          rw [e6] at HPT
          clear e6
          rw [k7] at c0
          have CF7 := CF
          rw [k7] at CF7
          go_wp2_with (first
            | (go_at_call 48; refine (CF7.out _).mono ?_; rintro e w2 ⟨rfl, hb2⟩; clear c0 c1 c2 c3 c4; obtain ⟨c0, c1, c2, c3, c4⟩ := HEA.out.below hb2 hgr; rw [k7] at c0; have HO2 := Lib.hid (OwnZ.below HO.out hb2); have HB2 := Lib.hid (bthen hbw hb2); have hz2 := HB2.out.size)
            | (at_builtin; refine wpList_appZ rfl (.tmp 27) (.tmp 29) rfl w.heap.size _ (Ev.plains (es.take j)) [6] _ _ _ rfl rfl ?o1 ?m1 ?n1 ?l1 ?b1 ?_; (case o1 => exact OwnZ.below HO2.out (bnew w2 _)); (case m1 => rfl); (case n1 => exact newsZ_blk (alloc_blk w2 _) rfl); (case l1 => rw [hpl]; simp only [List.length_cons, List.length_nil]; omega); (case b1 => rw [World.size_alloc]; omega); intro v4 w4 ho4 hb4))
          go_roundw
          case rel => exact ⟨j + 1, by omega, by go_num, by rw [HPT.out]; exact ho4, HK, (HB2.out.alloc hz2 _).trans hb4⟩
          case measure => simp [intOf]; omega
        · have e6 : Ev.plainK x.kind = x.kind := if_neg k7
          rw [e6] at HPT
          have b7 : (x.kind == 7) = false := beq_eq_false_iff_ne.2 k7
          clear e6 k7
          go_wp2_with (first
            | (go_at_call 48; refine (CF.out _).mono ?_; rintro e w2 ⟨rfl, hb2⟩; clear c0 c1 c2 c3 c4; obtain ⟨c0, c1, c2, c3, c4⟩ := HEA.out.below hb2 hgr; have HO2 := Lib.hid (OwnZ.below HO.out hb2); have HB2 := Lib.hid (bthen hbw hb2); have hz2 := HB2.out.size)
            | (at_builtin; refine wpList_appZ rfl (.tmp 27) (.tmp 29) rfl w.heap.size _ (Ev.plains (es.take j)) [x.kind] _ _ _ rfl rfl ?o1 ?m1 ?n1 ?l1 ?b1 ?_; (case o1 => exact OwnZ.below HO2.out (bnew w2 _)); (case m1 => rfl); (case n1 => exact newsZ_blk (alloc_blk w2 _) rfl); (case l1 => rw [hpl]; simp only [List.length_cons, List.length_nil]; omega); (case b1 => rw [World.size_alloc]; omega); intro v4 w4 ho4 hb4))
          go_roundw
          case rel => exact ⟨j + 1, by omega, by go_num, by rw [HPT.out]; exact ho4, HK, (HB2.out.alloc hz2 _).trans hb4⟩
          case measure => simp [intOf]; omega
    · obtain rfl : j = es.length := by omega
      have HK2 : Hid ((NK && decide (D ≤ 40)) = ANS) := by
        have h := HK.out
        rw [List.drop_of_length_le (Nat.le_refl _)] at h
        exact h
      rw [List.take_of_length_le (Nat.le_refl _)] at hown
      have hpl := Ev.plains_len es
      have HO : Hid (OwnZ wr w.heap.size (.slice ka es.length kc) (Ev.plains es)) := by have h := hown; rw [hpl] at h; exact h
      have hw1 : IntKind.i64.wrap ((es.length : Int) + 1) = ((es.length + 1 : Nat) : Int) := by rw [IntWalk.i64_in _ (by omega)]; omega
      rw [show (Ev.plains (List.take es.length es)).length = es.length by rw [List.take_of_length_le (Nat.le_refl _), hpl]]
      clear HK hown hpl HC HS
      go_wp2
      go_loopw [3, 6] (fun kv nv wr2 => ∃ (l : List Int) (n : Nat), OwnZ wr2 w.heap.size kv l ∧ nv = .int .i64 n ∧ Hid (Ev.Along NK l n) ∧ l.length ≤ 4000 ∧ n ≤ 4001 ∧ Below w.heap.size w wr2) (fun _ nv _ => (intOf nv).toNat)
      case atStart => exact ⟨Ev.plains es, es.length + 1, HO.out, by go_num, HAL, by rw [Ev.plains_len]; exact hl, by omega, hbw⟩
      case round =>
        obtain ⟨l, n, hown2, rfl, HAl, hll, hnn, hbw2⟩ := hrel
        clear HAL HO hw1
        have HF : Hid (0 < l.length → ∃ g c, _ = Value.slice (some ⟨g, 0, none⟩) l.length c ∧ l.length ≤ c ∧ g < wr.heap.size ∧ NewsZ wr ⟨g, 0, none⟩ l) := fun h => ownZ_form hown2 h
        obtain ⟨la, lc, rfl⟩ := own_slice hown2
        by_cases hln : l.length < n
        · have cR := Lib.hid (reduce_any _ l w.heap.size wr hown2 hbw2.size (by omega))
          have HN := Lib.hid HAl.out.next
          have hrl := Ev.red_len l []
          rw [List.length_nil, Nat.zero_add] at hrl
          clear HF hown2 HAl
          go_wp2_with (go_at_call 49; refine cR.out.mono ?_; rintro e w3 ⟨⟨u, rfl, ho3⟩, hb3⟩)
          go_roundw
          case rel => exact ⟨Ev.red [] l, l.length, ho3, by go_num, HN, by omega, by omega, bthen hbw2 hb3⟩
          case measure => simp [intOf]; omega
        · have hKd := HAl.out.done hln
          have HK3 : Hid (((Ev.chk 0 (l.drop 0) && decide (l.length % 3 = 0)) && decide (D ≤ 40)) = ANS) := by show _ = _; rw [List.drop_zero, ← hKd]; exact HK2.out
          clear hKd HAl hown2 HK2
          go_wp2
          go_loopw [7] (fun i wr3 => ∃ j : Nat, j ≤ l.length ∧ i = .int .i64 j ∧ Hid (((Ev.chk j (l.drop j) && decide (l.length % 3 = 0)) && decide (D ≤ 40)) = ANS) ∧ Below wr.heap.size wr wr3) (fun i _ => l.length - (intOf i).toNat)
          case atStart => exact ⟨0, by omega, rfl, HK3, Below.refl _ _⟩
          case round =>
            obtain ⟨j, hj2, rfl, HKj, hbw3⟩ := hrel
            clear HK3
            have hz3 := hbw3.size
            by_cases hjl : j < l.length
            · obtain ⟨lg, lc', hvv, hlc, hlg, hN⟩ := HF.out (by omega)
              simp only [Value.slice.injEq] at hvv
              obtain ⟨rfl, _, rfl⟩ := hvv
              have cj := newsZ_at (hN.below hbw3 hlg) j hjl
              have hK := HKj.out
              rw [Ev.chk_drop l j hjl] at hK
              have hj0 : (0 : Int) ≤ (j : Int) := by omega
              have hj1 : (j : Int) < (l.length : Int) := by omega
              have cj2 := ((bnew wr (.cells #[.int .i64 0, .int .i64 6, .int .i64 1] 3)).cell (p := ⟨lg, j, none⟩) (Nat.lt_of_lt_of_le hlg hz3)).trans cj
              have HBA := Lib.hid (hbw3.alloc hz3 (.cells #[.int .i64 0, .int .i64 6, .int .i64 1] 3))
              clear hN HKj
              generalize l[j] = x at *
              have h3 : j % 3 = 0 ∨ j % 3 = 1 ∨ j % 3 = 2 := by omega
              rcases h3 with hj3 | hj3 | hj3
              · obtain ⟨hm1, hm2⟩ := mod3 j 0 hj3
                rw [Ev.want0 j hj3] at hK
                by_cases hx : x = 0
                · subst hx
                  have HK4 : Hid (((Ev.chk (j + 1) (l.drop (j + 1)) && decide (l.length % 3 = 0)) && decide (D ≤ 40)) = ANS) := by rw [decide_eq_true rfl, Bool.true_and] at hK; exact hK
                  clear hK hj3
                  go_wp2
                  go_region
                  go_wp2
                  go_roundw
                  case rel => exact ⟨j + 1, by omega, by go_num, HK4, below_eq HBA.out rfl rfl rfl rfl⟩
                  case measure => simp [intOf]; omega
                · have bx : (x == 0) = false := beq_eq_false_iff_ne.2 hx
                  obtain rfl : ANS = false := by rw [decide_eq_false hx] at hK; exact hK.symm
                  clear hK hj3 hx
                  go_wp2
                  go_region
                  go_wp2
                  go_ret
                  exact ⟨rfl, bthen hbw2 (below_eq HBA.out rfl rfl rfl rfl)⟩
              · obtain ⟨hm1, hm2⟩ := mod3 j 1 hj3
                rw [Ev.want1 j hj3] at hK
                by_cases hx : x = 6
                · subst hx
                  have HK4 : Hid (((Ev.chk (j + 1) (l.drop (j + 1)) && decide (l.length % 3 = 0)) && decide (D ≤ 40)) = ANS) := by rw [decide_eq_true rfl, Bool.true_and] at hK; exact hK
                  clear hK hj3
                  go_wp2
                  go_region
                  go_wp2
                  go_roundw
                  case rel => exact ⟨j + 1, by omega, by go_num, HK4, below_eq HBA.out rfl rfl rfl rfl⟩
                  case measure => simp [intOf]; omega
                · have bx : (x == 6) = false := beq_eq_false_iff_ne.2 hx
                  obtain rfl : ANS = false := by rw [decide_eq_false hx] at hK; exact hK.symm
                  clear hK hj3 hx
                  go_wp2
                  go_region
                  go_wp2
                  go_ret
                  exact ⟨rfl, bthen hbw2 (below_eq HBA.out rfl rfl rfl rfl)⟩
              · obtain ⟨hm1, hm2⟩ := mod3 j 2 hj3
                rw [Ev.want2 j hj3] at hK
                by_cases hx : x = 1
                · subst hx
                  have HK4 : Hid (((Ev.chk (j + 1) (l.drop (j + 1)) && decide (l.length % 3 = 0)) && decide (D ≤ 40)) = ANS) := by rw [decide_eq_true rfl, Bool.true_and] at hK; exact hK
                  clear hK hj3
                  go_wp2
                  go_region
                  go_wp2
                  go_roundw
                  case rel => exact ⟨j + 1, by omega, by go_num, HK4, below_eq HBA.out rfl rfl rfl rfl⟩
                  case measure => simp [intOf]; omega
                · have bx : (x == 1) = false := beq_eq_false_iff_ne.2 hx
                  obtain rfl : ANS = false := by rw [decide_eq_false hx] at hK; exact hK.symm
                  clear hK hj3 hx
                  go_wp2
                  go_region
                  go_wp2
                  go_ret
                  exact ⟨rfl, bthen hbw2 (below_eq HBA.out rfl rfl rfl rfl)⟩
            · obtain rfl : j = l.length := by omega
              have hK := HKj.out
              rw [List.drop_of_length_le (Nat.le_refl _)] at hK
              have hK : (decide (l.length % 3 = 0) && decide (D ≤ 40)) = ANS := hK
              have cDD := Lib.hid (cD.out _ _ ((HR.out.below (bthen hbw2 hbw3)).mono (bthen hbw2 hbw3).size))
              clear HKj
              have hm3 : l.length % 3 < 3 := Nat.mod_lt _ (by decide)
              generalize hr3 : l.length % 3 = r3 at hK hm3
              obtain ⟨hm1, hm2⟩ := mod3 l.length r3 hr3
              have HR3 := Lib.hid hr3
              clear hr3
              by_cases hr0 : r3 = 0
              · subst hr0
                have HK5 : Hid (decide (D ≤ 40) = ANS) := by rw [decide_eq_true rfl, Bool.true_and] at hK; exact hK
                clear hK
                go_wp2_with (go_at_call 50; refine cDD.out.mono ?_; rintro e w' ⟨rfl, rfl⟩)
                go_ret
                exact ⟨ret_bool HK5.out, bthen hbw2 hbw3⟩
              · obtain rfl : ANS = false := by rw [decide_eq_false hr0] at hK; exact hK.symm
                have b0 : ((r3 : Int) == 0) = false := beq_eq_false_iff_ne.2 (by omega)
                clear hK
                go_wp2
                go_ret
                exact ⟨rfl, bthen hbw2 hbw3⟩
end Go.Proofs.YthkedlcmpibkjaaGreatDoor
