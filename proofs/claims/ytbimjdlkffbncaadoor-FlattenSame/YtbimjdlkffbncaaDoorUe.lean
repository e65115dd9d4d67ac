/-
  The walk of isNested.
-/
import Derived.Test.YtbimjdlkffbncaaDoorUd
namespace Go.Proofs.YtbimjdlkffbncaaDoor
namespace Ev
theorem step_base (k : Int) (hk : k ≠ 0) : step [] k = none := by simp only [step, if_neg hk]
theorem step_zero (g : Int) (n : Nat) (r : St) : step ((g, n) :: r) 0 = none := by simp only [step, if_true]
theorem step_node (g : Int) (n : Nat) (r : St) (k : Int) (hk : k ≠ 0) (h : isNode k = true) : step ((g, n) :: r) k = some (push k ((g, n + 1) :: r)) := by simp only [step, if_neg hk, h, if_true]
theorem step_close (g : Int) (n : Nat) (r : St) (k : Int) (hk : k ≠ 0) (h : isNode k = false) (hc : closes g n k = true) : step ((g, n) :: r) k = some r := by simp only [step, if_neg hk, h, hc, if_true, Bool.false_eq_true, if_false]
theorem step_bad (g : Int) (n : Nat) (r : St) (k : Int) (hk : k ≠ 0) (h : isNode k = false) (hc : closes g n k = false) : step ((g, n) :: r) k = none := by simp only [step, if_neg hk, h, hc, Bool.false_eq_true, if_false]
theorem opens_node (k : Int) (hk : k ≠ 0) (h : isNode k = false) : opens k = false := by
  unfold isNode at h; unfold opens
  simp only [Bool.or_eq_false_iff, decide_eq_false_iff_not] at h ⊢
  omega
theorem opens_cases (k : Int) (h : opens k = true) : k = 0 ∨ k = 2 ∨ k = 4 := by
  unfold opens at h
  simp only [Bool.or_eq_true, decide_eq_true_eq] at h
  omega
end Ev
open Go.Proofs.YtbimjdlkffbncaaDoor.Ev
namespace Evn
open Go.RowKit

theorem quiet_same {P : Program} {f : FuncId} {args : Array Value} {w : World} {n : Nat} {v : Value}
    (h : Calls P f args (w.drewN n) fun e w' => e = .returned v ∧ w.drewN n = w') :
    Calls P f args (w.drewN n) fun e w'' => e = .returned v ∧ ∃ m, w'' = w.drewN m :=
  h.mono fun _ _ ⟨he, hm⟩ => ⟨he, n, hm.symm⟩
theorem below_drawn {B : Nat} {a w : World} (h : Below B a w) (n : Nat) : Below B a (w.drewN n) := ⟨h.os, h.tape, h.output, h.size, h.block⟩
theorem opn_drawn {w : World} {B : Nat} {v : Value} {gs : List Grp} (h : Opn w B v gs) (n : Nat) : Opn (w.drewN n) B v gs := h.below ⟨rfl, rfl, rfl, Nat.le_refl _, fun _ _ => rfl⟩

theorem Opn.room {w : World} {B b : Nat} {v : Value} {gs : List Grp} (h : Opn w B v gs) (hb : w.heap.size = b) : (∀ x ∈ gs, x.b + 1 < b) ∧ (∀ k, v.ownBlock = some k → k < b) :=
  ⟨fun x hx => by have := (h.at_ x hx).2.1.lt; omega, fun k hk => by have := (World.ownsRow.lt h.row k hk).2; omega⟩
theorem Opn.same {w : World} {B : Nat} {v u : Value} {gs gs' : List Grp} (h : Opn w B v gs) (hv : v = u) (hg : gs = gs') : Opn w B u gs' := by subst hv hg; exact h

theorem slice_eq {a a' : Option Addr} {n n' c c' : Nat} (h1 : a = a') (h2 : n = n') (h3 : c = c') : Value.slice a n c = Value.slice a' n' c' := by subst h1 h2 h3; rfl
theorem closes0 (n : Nat) (k : Int) : (decide (k = 1) && decide (n = 1)) = Ev.closes 0 n k := by simp [Ev.closes]
theorem closes2 (n : Nat) (k : Int) : decide (k = 3) = Ev.closes 2 n k := by simp [Ev.closes]
theorem closes4 (n : Nat) (k : Int) : (decide (k = 5) && decide (n % 2 = 0)) = Ev.closes 4 n k := by simp [Ev.closes]

set_option maxHeartbeats 8000000 in
set_option maxRecDepth 100000 in
theorem isNested_any (v : Value) (es : List Ev.E) (w : World) (h : RdE w w.heap.size v es) (hl : es.length ≤ 1000000) :
    Calls Tryd.prog 56 #[v] w fun e w' => e = .returned (.bool (Ev.nested (Ev.kinds es))) ∧ Below w.heap.size w w' := by
  obtain ⟨a, c, rfl, hc, hcl⟩ := h
  obtain ⟨ANS, hANS⟩ : ∃ ANS, Ev.nested (Ev.kinds es) = ANS := ⟨_, rfl⟩
  rw [hANS]
  have HA : Hid (Ev.closed (Ev.run (stOf []) ((Ev.kinds es).drop 0)) = ANS) := by show _ = _; rw [List.drop_zero, ← hANS, Ev.nested_closed]; rfl
  have HC := Lib.hid hcl
  clear hANS hcl
  go_enter Tryd.func56, Tryd.ntmps56
  go_wp2
  go_loopw [3, 10] (fun ov i wr => ∃ (j : Nat) (gs : List Grp), j ≤ es.length ∧ i = .int .i64 j ∧ Opn wr w.heap.size ov gs ∧ (∀ g ∈ gs, g.n ≤ j) ∧ gs.length ≤ j ∧ Hid (Ev.closed (Ev.run (stOf gs) ((Ev.kinds es).drop j)) = ANS) ∧ Below w.heap.size w wr) (fun _ i _ => es.length - (intOf i).toNat)
  case atStart => exact ⟨0, [], by omega, rfl, Opn.nil _ _, (fun g hg => by cases hg), by simp, HA, Below.refl _ _⟩
  case round =>
    obtain ⟨j, gs, hj, rfl, hop, hgn, hgl, HK, hbw⟩ := hrel
    clear HA
    have hBr := hbw.size
    obtain ⟨N, hN⟩ : ∃ N, gs.length = N := ⟨_, rfl⟩
    have hrow := hop.row
    rw [hN] at hrow
    obtain ⟨va, vc, rfl⟩ := own_slice hrow
    clear hrow
    have HOP := Lib.hid hop
    have HGN := Lib.hid hgn
    clear hgn
    by_cases hlt : j < es.length
    · obtain ⟨g, o, rfl, hg, hcl⟩ := HC.out (by omega)
      obtain ⟨c0, c1, c2, c3, c4⟩ := (hcl j hlt).below hbw hg
      have hK := HK.out
      rw [Ev.kinds_drop es j hlt] at hK
      unfold Ev.run at hK
      clear hcl HK
      generalize es[j].kind = k at *
      generalize es[j] = x at *
      have cN := Lib.hid (fun w => isNode_any k w)
      rcases List.eq_nil_or_concat gs with rfl | ⟨gi, p, rfl⟩
      · have hN0 : N = 0 := hN.symm
        subst hN0
        by_cases k0 : k = 0
        · subst k0
          rw [show Ev.isNode 0 = false from rfl] at cN
          have HK : Hid (Ev.closed (Ev.run (stOf [⟨0, 0, 0⟩]) ((Ev.kinds es).drop (j + 1))) = ANS) := hK
          clear hK hop
          go_wp2_with (first
            | (go_at_call 54; refine (cN.out _).mono ?_; rintro e w' ⟨rfl, rfl⟩)
            | (go_at_call 93; refine (opened_grp 0 _ (.inl rfl)).mono ?_; rintro e w2 ⟨b, rfl, hb, hb2, hs2, h58, h59⟩; have HP2 := Lib.hid (((HOP.out.below (bnew wr _)).below hb2)); have HR := Lib.hid ((HOP.out.below (bnew wr _)).room hb); have HB2 := Lib.hid (bthen (bnew wr _) hb2); have HG := Lib.hid (And.intro h58 h59); have hgB : w.heap.size ≤ b := (by rw [← hb, World.size_alloc]; omega); clear h58 h59 hb2)
            | (at_builtin; refine wpList_pushG rfl (.tmp 61) (.tmp 63) rfl w.heap.size (.slice va 0 vc) [] ⟨0, 0, b⟩ w2 _ _ rfl _ rfl ?ga ?hC ?hown ?hG ?gB ?h1 ?h2 ?h3 ?h4 ?_; (case ga => rfl); (case hC => rfl); (case hown => exact HP2.out); (case hG => exact HG.out); (case gB => exact hgB); (case h1 => exact HR.out.1); (case h2 => exact HR.out.2); (case h3 => exact .inl rfl); (case h4 => simp); intro v' w3 ho3 hb3 hB3))
          go_roundw
          case rel => exact ⟨j + 1, [] ++ [⟨0, 0, b⟩], by omega, by go_num, ho3, (fun g hg => by simp at hg; subst hg; simp), by simp, HK, hbw.trans ((HB2.out.mono hBr).trans hb3)⟩
          case measure => simp [intOf]; omega
        · have b0 : (k == 0) = false := beq_eq_false_iff_ne.2 k0
          rw [show stOf [] = [] from rfl, Ev.step_base k k0] at hK
          obtain rfl : ANS = false := by rw [← hK]; rfl
          clear hK hop
          go_wp2_with (go_at_call 54; refine (cN.out _).mono ?_; rintro e w' ⟨rfl, rfl⟩)
          go_ret
          exact ⟨rfl, hbw.alloc hBr _⟩
      · rw [List.concat_eq_append] at *
        obtain ⟨gb, c', hvf, hcc, hgb, hcell⟩ := hop.form
        obtain ⟨rfl, hNM, rfl⟩ : va = some ⟨gb, 0, none⟩ ∧ N = gi.length + 1 ∧ vc = c' := by injection hvf with e1 e2 e3; exact ⟨e1, e2, e3⟩
        have hM : gi.length = N - 1 := by omega
        rw [hM] at hcell
        obtain ⟨pB, pA, pn1, pn2, pk5⟩ := hop.at_ p (by simp)
        have hpn := HGN.out p (by simp)
        obtain ⟨pk, pn, pb⟩ := p
        simp only at pB pA pn1 pn2 pk5 hpn
        have hcell' : wr.cell? ⟨gb, N - 1, none⟩ = some (.pointer (some ⟨pb, 0, none⟩)) := hcell
        have hpl := pA.lt
        simp only at hpl
        have hpb : pb < wr.heap.size := by omega
        have d0 : wr.cell? ⟨pb, 0, none⟩ = some (.int .i64 pn) := cell_blk pA.1 0 _ rfl
        have f0 : wr.frozen? ⟨pb, 0, none⟩ = false := frozen_blk pA.1 0
        have d1 : wr.cell? ⟨pb, 1, none⟩ = some (closer pk pb) := cell_blk pA.1 1 _ rfl
        have HGA : Hid (∀ o n, GrpAt ((wr.alloc o).drewN n) ⟨pk, pn, pb⟩) := fun o n => pA.kept ((bnew wr o).block _ (by simp only; omega)) ((bnew wr o).block _ (by simp only; omega))
        have i1 : (1 : Int) ≤ (N : Int) := by omega
        have i2 : (0 : Int) ≤ (N : Int) - 1 := by omega
        have i3 : ((N : Int) - 1).toNat = N - 1 := by omega
        have i4 : (N : Int) - 1 < (N : Int) := by omega
        have i5 : decide ((N : Int) - 1 < 0) = false := decide_eq_false (by omega)
        have hNb : N ≤ 1000001 := by omega
        have hNj : N ≤ j := by rw [← hN]; exact hgl
        have i6 : ¬ ((vc : Int) < (N : Int) - 1) := by omega
        have HN : Hid (gi.length = N - 1 ∧ gi.length + 1 ≤ vc ∧ (∀ g ∈ gi, g.n ≤ j)) := ⟨hM, hcc, fun g hg => HGN.out g (by simp [hg])⟩
        clear hcell pA hop hvf pn1 pn2 hgl hM hNM hN hpl hcc HGN
        by_cases k0 : k = 0
        · subst k0
          rw [stOf_snoc, Ev.step_zero] at hK
          obtain rfl : ANS = false := by rw [← hK]; rfl
          clear hK cN
          go_wp2
          go_ret
          exact ⟨rfl, hbw.alloc hBr _⟩
        · have b0 : (k == 0) = false := beq_eq_false_iff_ne.2 k0
          cases hnd : Ev.isNode k
          · rw [hnd] at cN
            have hopk := Ev.opens_node k k0 hnd
            have cO := Lib.hid (fun w => opened_none k w hopk)
            rw [stOf_snoc] at hK
            clear hopk
            cases hcs : Ev.closes pk pn k
            · rw [Ev.step_bad _ _ _ _ k0 hnd hcs] at hK
              obtain rfl : ANS = false := by rw [← hK]; rfl
              clear hK hnd
              rcases pk5 with rfl | rfl | rfl
              · have CC := Lib.hid (fun W (h : GrpAt W ⟨0, pn, pb⟩) => closes_doc k pn pb _ W h.1 h.2)
                rw [closes0, hcs] at CC
                have d1' : wr.cell? ⟨pb, 1, none⟩ = some (.func (.func 113) #[] #[.pointer (some ⟨pb + 1, 0, none⟩)]) := d1
                clear hcs d1
                go_wp2_with (go_at_call 54; refine (cN.out _).mono ?_; rintro e w' ⟨rfl, rfl⟩)
                go_quiet ((go_at_call 113; exact quiet_same (CC.out _ (HGA.out _ _))))
                go_wp2
                go_ret
                exact ⟨rfl, below_drawn (hbw.alloc hBr _) _⟩
              · have CC := Lib.hid (fun W (_h : GrpAt W ⟨2, pn, pb⟩) => closes_seq k W)
                rw [closes2 pn, hcs] at CC
                have d1' : wr.cell? ⟨pb, 1, none⟩ = some (.func (.func 114) #[] #[]) := d1
                clear hcs d1
                go_wp2_with (go_at_call 54; refine (cN.out _).mono ?_; rintro e w' ⟨rfl, rfl⟩)
                go_quiet ((go_at_call 114; exact quiet_same (CC.out _ (HGA.out _ _))))
                go_wp2
                go_ret
                exact ⟨rfl, below_drawn (hbw.alloc hBr _) _⟩
              · have CC := Lib.hid (fun W (h : GrpAt W ⟨4, pn, pb⟩) => closes_map k pn pb _ W h.1 h.2)
                rw [closes4, hcs] at CC
                have d1' : wr.cell? ⟨pb, 1, none⟩ = some (.func (.func 115) #[] #[.pointer (some ⟨pb + 1, 0, none⟩)]) := d1
                clear hcs d1
                go_wp2_with (go_at_call 54; refine (cN.out _).mono ?_; rintro e w' ⟨rfl, rfl⟩)
                go_quiet ((go_at_call 115; exact quiet_same (CC.out _ (HGA.out _ _))))
                go_wp2
                go_ret
                exact ⟨rfl, below_drawn (hbw.alloc hBr _) _⟩
            · rw [Ev.step_close _ _ _ _ k0 hnd hcs] at hK
              have HK : Hid (Ev.closed (Ev.run (stOf gi) ((Ev.kinds es).drop (j + 1))) = ANS) := hK
              clear hK hnd
              rcases pk5 with rfl | rfl | rfl
              · have CC := Lib.hid (fun W (h : GrpAt W ⟨0, pn, pb⟩) => closes_doc k pn pb _ W h.1 h.2)
                rw [closes0, hcs] at CC
                have d1' : wr.cell? ⟨pb, 1, none⟩ = some (.func (.func 113) #[] #[.pointer (some ⟨pb + 1, 0, none⟩)]) := d1
                clear hcs d1
                go_wp2_with (go_at_call 54; refine (cN.out _).mono ?_; rintro e w' ⟨rfl, rfl⟩)
                go_quiet ((go_at_call 113; exact quiet_same (CC.out _ (HGA.out _ _))))
                go_wp2_with (go_at_call 93; refine (cO.out _).mono ?_; rintro e w2 ⟨rfl, hb2⟩; have HP2 := Lib.hid ((Opn.below (opn_drawn (HOP.out.pop.below (bnew wr _)) _) hb2)); have HB2 := Lib.hid (bthen (below_drawn (hbw.alloc hBr _) _) hb2); clear hb2)
                go_roundw
                case rel => exact ⟨j + 1, gi, by omega, by go_num, HP2.out.same (slice_eq rfl (by have := HN.out.1; omega) rfl) rfl, (fun g hg => by have := HN.out.2.2 g hg; omega), by have := HN.out.1; omega, HK, HB2.out⟩
                case measure => simp [intOf]; omega
              · have CC := Lib.hid (fun W (_h : GrpAt W ⟨2, pn, pb⟩) => closes_seq k W)
                rw [closes2 pn, hcs] at CC
                have d1' : wr.cell? ⟨pb, 1, none⟩ = some (.func (.func 114) #[] #[]) := d1
                clear hcs d1
                go_wp2_with (go_at_call 54; refine (cN.out _).mono ?_; rintro e w' ⟨rfl, rfl⟩)
                go_quiet ((go_at_call 114; exact quiet_same (CC.out _ (HGA.out _ _))))
                go_wp2_with (go_at_call 93; refine (cO.out _).mono ?_; rintro e w2 ⟨rfl, hb2⟩; have HP2 := Lib.hid ((Opn.below (opn_drawn (HOP.out.pop.below (bnew wr _)) _) hb2)); have HB2 := Lib.hid (bthen (below_drawn (hbw.alloc hBr _) _) hb2); clear hb2)
                go_roundw
                case rel => exact ⟨j + 1, gi, by omega, by go_num, HP2.out.same (slice_eq rfl (by have := HN.out.1; omega) rfl) rfl, (fun g hg => by have := HN.out.2.2 g hg; omega), by have := HN.out.1; omega, HK, HB2.out⟩
                case measure => simp [intOf]; omega
              · have CC := Lib.hid (fun W (h : GrpAt W ⟨4, pn, pb⟩) => closes_map k pn pb _ W h.1 h.2)
                rw [closes4, hcs] at CC
                have d1' : wr.cell? ⟨pb, 1, none⟩ = some (.func (.func 115) #[] #[.pointer (some ⟨pb + 1, 0, none⟩)]) := d1
                clear hcs d1
                go_wp2_with (go_at_call 54; refine (cN.out _).mono ?_; rintro e w' ⟨rfl, rfl⟩)
                go_quiet ((go_at_call 115; exact quiet_same (CC.out _ (HGA.out _ _))))
                go_wp2_with (go_at_call 93; refine (cO.out _).mono ?_; rintro e w2 ⟨rfl, hb2⟩; have HP2 := Lib.hid ((Opn.below (opn_drawn (HOP.out.pop.below (bnew wr _)) _) hb2)); have HB2 := Lib.hid (bthen (below_drawn (hbw.alloc hBr _) _) hb2); clear hb2)
                go_roundw
                case rel => exact ⟨j + 1, gi, by omega, by go_num, HP2.out.same (slice_eq rfl (by have := HN.out.1; omega) rfl) rfl, (fun g hg => by have := HN.out.2.2 g hg; omega), by have := HN.out.1; omega, HK, HB2.out⟩
                case measure => simp [intOf]; omega
          · rw [hnd] at cN
            rw [stOf_snoc, Ev.step_node _ _ _ _ k0 hnd, Option.bind_some] at hK
            have hu : Value.int .i64 ((pn : Int) + 1) = .int .i64 ((pn + 1 : Nat) : Int) := by simp
            have hpn2 : pn ≤ 1000000 := by omega
            have HBS := Lib.hid (hbw.setCell (p := ⟨pb, 0, none⟩) pB (.int .i64 ((pn : Int) + 1)))
            have HBP : Hid (Opn (wr.setCell ⟨pb, 0, none⟩ (.int .i64 ((pn : Int) + 1))) w.heap.size (.slice (some ⟨gb, 0, none⟩) N vc) (gi ++ [⟨pk, pn + 1, pb⟩])) := Opn.bump HOP.out _ hu
            clear hnd d1
            cases hop : Ev.opens k
            · have HK : Hid (Ev.closed (Ev.run (stOf (gi ++ [⟨pk, pn + 1, pb⟩])) ((Ev.kinds es).drop (j + 1))) = ANS) := by
                show _ = _
                rw [stOf_snoc]
                unfold Ev.push at hK
                rw [hop, if_neg (by decide)] at hK
                exact hK
              have cO := Lib.hid (fun w => opened_none k w hop)
              clear hK hop
              go_wp2_with (first
                | (go_at_call 54; refine (cN.out _).mono ?_; rintro e w' ⟨rfl, rfl⟩)
                | (go_at_call 93; refine (cO.out _).mono ?_; rintro e w2 ⟨rfl, hb2⟩; have HP2 := Lib.hid ((HBP.out.below (bnew _ _)).below hb2); have HB2 := Lib.hid (bthen (bthen HBS.out (bnew _ _)) hb2); clear hb2))
              go_roundw
              case rel => exact ⟨j + 1, gi ++ [⟨pk, pn + 1, pb⟩], by omega, by go_num, HP2.out, (fun g hg => by rcases List.mem_append.1 hg with hg | hg; (have := HN.out.2.2 g hg; omega); (simp only [List.mem_cons, List.not_mem_nil, or_false] at hg; subst hg; simp only; omega)), by have := HN.out.1; rw [List.length_append, List.length_singleton]; omega, HK, HB2.out⟩
              case measure => simp [intOf]; omega
            · have HK : Hid (∀ b, Ev.closed (Ev.run (stOf ((gi ++ [⟨pk, pn + 1, pb⟩]) ++ [⟨k, 0, b⟩])) ((Ev.kinds es).drop (j + 1))) = ANS) := by
                intro b
                rw [stOf_snoc, stOf_snoc]
                unfold Ev.push at hK
                rw [hop, if_pos rfl] at hK
                exact hK
              have cO := Lib.hid (fun w => opened_grp k w (Ev.opens_cases k hop))
              have hkk := Lib.hid (Ev.opens_cases k hop)
              clear hK hop
              go_wp2_with (first
                | (go_at_call 54; refine (cN.out _).mono ?_; rintro e w' ⟨rfl, rfl⟩)
                | (go_at_call 93; refine (cO.out _).mono ?_; rintro e w2 ⟨b, rfl, hb, hb2, hs2, h58, h59⟩; have HP2 := Lib.hid ((HBP.out.below (bnew _ _)).below hb2); have HR := Lib.hid ((HBP.out.below (bnew _ _)).room hb); have HB2 := Lib.hid (bthen (bthen HBS.out (bnew _ _)) hb2); have HG := Lib.hid (And.intro h58 h59); have hgB : w.heap.size ≤ b := (by rw [← hb]; exact (bthen HBS.out (bnew _ _)).size); clear h58 h59 hb2)
                | (at_builtin; refine wpList_pushG rfl (.tmp 61) (.tmp 63) rfl w.heap.size (.slice (some ⟨gb, 0, none⟩) N vc) (gi ++ [⟨pk, pn + 1, pb⟩]) ⟨k, 0, b⟩ w2 _ _ rfl _ rfl ?ga ?hC ?hown ?hG ?gB ?h1 ?h2 ?h3 ?h4 ?_; (case ga => rfl); (case hC => rfl); (case hown => exact HP2.out); (case hG => exact HG.out); (case gB => exact hgB); (case h1 => exact HR.out.1); (case h2 => exact HR.out.2); (case h3 => exact hkk.out); (case h4 => have := HN.out.1; rw [List.length_append, List.length_singleton]; omega); intro v' w3 ho3 hb3 hB3))
              go_roundw
              case rel => exact ⟨j + 1, (gi ++ [⟨pk, pn + 1, pb⟩]) ++ [⟨k, 0, b⟩], by omega, by go_num, ho3, (fun g hg => by rcases List.mem_append.1 hg with hg | hg; (rcases List.mem_append.1 hg with hg | hg; (have := HN.out.2.2 g hg; omega); (simp only [List.mem_cons, List.not_mem_nil, or_false] at hg; subst hg; simp only; omega)); (simp only [List.mem_cons, List.not_mem_nil, or_false] at hg; subst hg; simp only; omega)), by have := HN.out.1; rw [List.length_append, List.length_append, List.length_singleton, List.length_singleton]; omega, Lib.hid (HK.out b), HB2.out.trans hb3⟩
              case measure => simp [intOf]; omega
    · have hje : j = es.length := by omega
      subst hje
      have hK := HK.out
      rw [List.drop_of_length_le (by rw [Ev.kinds_len]; exact Nat.le_refl _)] at hK
      have hD : decide (N = 0) = ANS := by
        rw [← hK, ← hN]
        rcases List.eq_nil_or_concat gs with rfl | ⟨gi, p, rfl⟩
        · rfl
        · simp [Ev.run, stOf, Ev.closed]
      have HD := Lib.hid hD
      clear hK HK hop hD
      by_cases hN0 : N = 0
      · subst hN0
        go_wp2
        go_ret
        exact ⟨ret_bool HD.out, hbw⟩
      · have bN : ((N : Int) == 0) = false := beq_eq_false_iff_ne.2 (by omega)
        have HF : Hid (false = ANS) := by show _ = _; rw [← HD.out]; simp [hN0]
        go_wp2
        go_ret
        exact ⟨ret_bool HF.out, hbw⟩
end Evn
end Go.Proofs.YtbimjdlkffbncaaDoor
