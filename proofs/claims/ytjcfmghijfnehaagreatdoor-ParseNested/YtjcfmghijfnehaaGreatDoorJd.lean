/-
  Walks of parse's small functions: begins, some, propertiesOf, on, emptyNode, onlyOne, leafOf.
  Walks of parse: onlyOne, leafOf, cutProperties.
  The walk of parse.cutProperties.
  Walks of reader: last, depth; what its cells hold behind a store.
  What reads words lies in memory; walks of flow: skips, takeProperties, put.
-/
import Derived.Test.YtjcfmghijfnehaaGreatDoorXf
import Derived.Laws.StructEq
import Derived.BigQuiet
import Derived.Deep.QuietTactic
import Derived.Deep.RegionLaw
namespace Go.Proofs.YtjcfmghijfnehaaGreatDoor
open Go.RowKit

/-- the panic of a fault -/
def fault (n : Nat) : Ending := .panicked [{ v := .iface 113 (.int .i64 n), recovered := false }]
def prV (p : Px.Pr) : Value := .agg #[.string (str p.anchor), .string (str p.tag)]
def evV (x : Ev.E) : Value := .agg #[.int .i64 x.kind, .string (str x.anchor), .string (str x.tag), .string (str x.text), .bool x.plain]

set_option maxHeartbeats 1000000 in
theorem begins_any (v : Value) (ws : List Lx.Wd) (k B : Nat) (w : World) (h : RdW w B v ws) :
    Calls Tryz.prog 178 #[v, .int .i64 k] w fun e w' => e = .returned (.bool (Px.bk ws k)) ∧ w = w' := by
  cases ws with
  | nil =>
    obtain ⟨a, c, rfl⟩ := h.nil_form
    clear h
    go_enter Tryz.func178, Tryz.ntmps178
    go_wp2
    go_ret
    exact ⟨rfl, rfl⟩
  | cons x t =>
    obtain ⟨g, o, c, rfl, hc, _, ⟨c0, _, _⟩⟩ := h.cons
    clear h
    have e : Px.bk (x :: t) k = ((x.kind : Int) == (k : Int)) := by
      unfold Px.bk
      rw [Bool.eq_iff_iff]; simp; omega
    rw [e]
    have h0 : (0 : Int) < ((t.length + 1 : Nat) : Int) := by omega
    generalize t.length + 1 = n at *
    go_enter Tryz.func178, Tryz.ntmps178
    go_wp2
    go_ret
    exact ⟨rfl, rfl⟩

set_option maxHeartbeats 1000000 in
theorem some_any (p : Px.Pr) (w : World) :
    Calls Tryz.prog 225 #[prV p] w fun e w' => e = .returned (.bool p.some) ∧ Below w.heap.size w w' := by
  obtain ⟨an, tg⟩ := p
  unfold prV Px.Pr.some
  simp only
  have e1 : ((str an).toList == ([] : List UInt8)) = an.isEmpty := by rw [str_toL]; cases an <;> rfl
  have e2 : ((str tg).toList == ([] : List UInt8)) = tg.isEmpty := by rw [str_toL]; cases tg <;> rfl
  generalize str an = sa at *
  generalize str tg = st at *
  go_enter Tryz.func225, Tryz.ntmps225
  go_wp2
  all_goals go_ret
  all_goals exact ⟨ret_bool (by simp_all), bnew w _⟩

set_option maxHeartbeats 1000000 in
theorem propertiesOf_any (x : Ev.E) (w : World) :
    Calls Tryz.prog 226 #[evV x] w fun e w' => e = .returned (prV (Px.prOf x)) ∧ Below w.heap.size w w' := by
  obtain ⟨k, an, tg, tx, pl⟩ := x
  unfold evV prV Px.prOf
  simp only
  go_enter Tryz.func226, Tryz.ntmps226
  go_wp2
  refine bodyPost_ret (v := .agg #[.string (str an), .string (str tg)]) (by simp [results, go_sem]) rfl ?_
  exact ⟨rfl, bthen (bnew w _) (bnew _ _)⟩

set_option maxHeartbeats 1000000 in
theorem emptyNode_any (w : World) :
    Calls Tryz.prog 177 #[] w fun e w' => e = .returned (evV Px.hole) ∧ Below w.heap.size w w' := by
  go_enter Tryz.func177, Tryz.ntmps177
  go_wp2
  refine bodyPost_ret (v := .agg #[.int .i64 6, .string ⟨#[]⟩, .string ⟨#[]⟩, .string ⟨#[]⟩, .bool true]) (by simp [results, go_sem]) rfl ?_
  exact ⟨rfl, bnew w _⟩

set_option maxHeartbeats 2000000 in
theorem on_any (p : Px.Pr) (x : Ev.E) (w : World) :
    Calls Tryz.prog 203 #[prV p, evV x] w fun e w' => e = .returned (evV (p.on x)) ∧ Below w.heap.size w w' := by
  obtain ⟨pa, pt⟩ := p
  obtain ⟨k, an, tg, tx, pl⟩ := x
  unfold evV prV Px.Pr.on
  simp only
  go_enter Tryz.func203, Tryz.ntmps203
  go_wp2
  go_region
  all_goals go_wp2
  all_goals refine bodyPost_ret (v := .agg #[.int .i64 k, .string (str pa), .string (str pt), .string (str tx), .bool pl]) (by simp [results, go_sem]) rfl ?_
  all_goals exact ⟨rfl, bdrew (bthen (bthen (bnew w _) (bnew _ _)) (bnew _ _))⟩

end Go.Proofs.YtjcfmghijfnehaaGreatDoor
namespace Go.Proofs.YtjcfmghijfnehaaGreatDoor
open Go.RowKit

set_option maxHeartbeats 1000000 in
theorem onlyOne_any (a b : List UInt8) (w : World) :
    Calls Tryz.prog 238 #[.string (str a), .string (str b)] w fun e w' => e = (if a.isEmpty then .returned (.string (str b)) else fault 5) ∧ w = w' := by
  have e1 : ((str a).toList == ([] : List UInt8)) = a.isEmpty := by rw [str_toL]; cases a <;> rfl
  cases hb : a.isEmpty
  · rw [hb] at e1
    generalize str a = s at *
    clear hb
    go_enter Tryz.func238, Tryz.ntmps238
    go_wp2
    exact ⟨rfl, rfl, rfl⟩
  · rw [hb] at e1
    generalize str a = s at *
    clear hb
    go_enter Tryz.func238, Tryz.ntmps238
    go_wp2
    go_ret
    exact ⟨rfl, rfl⟩

/-- what leafOf answers -/
def leafR (o : Except Nat Ev.E) (e : Ending) : Prop := match o with
  | .ok x => e = .returned (evV x)
  | .error n => e = fault n

set_option maxHeartbeats 4000000 in
theorem leafOf_any (x : Lx.Wd) (p : Px.Pr) (w : World) :
    Calls Tryz.prog 204 #[.agg #[.int .i64 x.kind, .string (str x.text), .int .i64 x.at_], prV p] w fun e w' => leafR (Px.leaf x p) e ∧ Below w.heap.size w w' := by
  obtain ⟨kd, tx, pos⟩ := x
  simp only
  have cO := Lib.hid (fun (k : Int) pl w => on_any p ⟨k, [], [], tx, pl⟩ w)
  have cS := Lib.hid (fun w => some_any p w)
  unfold prV at cO cS ⊢
  unfold evV Px.Pr.on at cO
  simp only [str_nil] at cO
  unfold Px.leaf
  simp only
  by_cases h2 : kd ≤ 2
  · rw [if_pos h2]
    have : kd = 0 ∨ kd = 1 ∨ kd = 2 := by omega
    clear cS
    rcases this with rfl | rfl | rfl
    all_goals go_enter Tryz.func204, Tryz.ntmps204
    all_goals go_wp2_with (go_at_call 203; refine (cO.out _ _ _).mono ?_; rintro e w1 ⟨rfl, hb1⟩; have hR := blk_below (new_at _ (.cells #[.int .i64 0, .string ⟨#[]⟩, .string ⟨#[]⟩, .string ⟨#[]⟩, .bool false] 47) (w.heap.size + 2) (by simp)) hb1; obtain ⟨⟨r0, r1, r2, r3, r4⟩, q0, q1, q2, q3, q4⟩ := five hR)
    · refine bodyPost_ret (v := .agg #[.int .i64 6, .string (str p.anchor), .string (str p.tag), .string (str tx), .bool true]) (by simp [results, go_sem, r0, r1, r2, r3, r4]) rfl ?_
      exact ⟨rfl, bset5 (bthen (bthen (bthen (bnew w _) (bnew _ _)) (bnew _ _)) hb1) (by omega)⟩
    all_goals refine bodyPost_ret (v := .agg #[.int .i64 6, .string (str p.anchor), .string (str p.tag), .string (str tx), .bool false]) (by simp [results, go_sem, r0, r1, r2, r3, r4]) rfl ?_
    all_goals exact ⟨rfl, bset5 (bthen (bthen (bthen (bnew w _) (bnew _ _)) (bnew _ _)) hb1) (by omega)⟩
  · rw [if_neg h2]
    by_cases h4 : kd = 4
    · rw [if_pos h4]
      subst h4
      clear cO
      cases hs : p.some
      · rw [hs] at cS
        go_enter Tryz.func204, Tryz.ntmps204
        go_wp2_with (go_at_call 225; refine (cS.out _).mono ?_; rintro e w1 ⟨rfl, hb1⟩; have hX := blk_below (new_blk _ _ _ _ (new_blk _ _ (.cells #[.string (str p.anchor), .string (str p.tag)] 117) _ (new_at w (.cells #[.int .i64 4, .string (str tx), .int .i64 pos] 56) _ rfl))) hb1; obtain ⟨⟨x0, x1, x2⟩, _⟩ := three hX; have hR := blk_below (new_at _ (.cells #[.int .i64 0, .string ⟨#[]⟩, .string ⟨#[]⟩, .string ⟨#[]⟩, .bool false] 47) (w.heap.size + 2) (by simp)) hb1; obtain ⟨⟨r0, r1, r2, r3, r4⟩, q0, q1, q2, q3, q4⟩ := five hR)
        refine bodyPost_ret (v := .agg #[.int .i64 7, .string (str tx), .string ⟨#[]⟩, .string ⟨#[]⟩, .bool false]) (by simp [results, go_sem, r0, r1, r2, r3, r4]) rfl ?_
        exact ⟨rfl, bset5 (bthen (bthen (bthen (bnew w _) (bnew _ _)) (bnew _ _)) hb1) (by omega)⟩
      · rw [hs] at cS
        go_enter Tryz.func204, Tryz.ntmps204
        go_wp2_with (go_at_call 225; refine (cS.out _).mono ?_; rintro e w1 ⟨rfl, hb1⟩)
        exact ⟨rfl, rfl, bthen (bthen (bthen (bnew w _) (bnew _ _)) (bnew _ _)) hb1⟩
    · rw [if_neg h4]
      clear cO cS
      have b0 : ((kd : Int) == 0) = false := beq_eq_false_iff_ne.2 (by omega)
      have b1 : ((kd : Int) == 1) = false := beq_eq_false_iff_ne.2 (by omega)
      have b2 : ((kd : Int) == 2) = false := beq_eq_false_iff_ne.2 (by omega)
      have b4 : ((kd : Int) == 4) = false := beq_eq_false_iff_ne.2 (by omega)
      clear h2 h4
      go_enter Tryz.func204, Tryz.ntmps204
      go_wp2
      exact ⟨rfl, rfl, bthen (bthen (bnew w _) (bnew _ _)) (bnew _ _)⟩
end Go.Proofs.YtjcfmghijfnehaaGreatDoor
namespace Go.Proofs.YtjcfmghijfnehaaGreatDoor
open Go.RowKit

/-- what cutProperties answers -/
def CutR (B : Nat) (o : Except Nat (Px.Pr × List Lx.Wd)) (e : Ending) (w' : World) : Prop := match o with
  | .ok (p, r) => ∃ v, e = .returned (.tuple #[prV p, v]) ∧ RdW w' B v r
  | .error n => e = fault n
theorem CutR.ok {B : Nat} {o : Except Nat (Px.Pr × List Lx.Wd)} {w' : World} {p : Px.Pr} {r : List Lx.Wd} {v : Value} (h : Px.cutP p r = o) (hr : Px.cutP p r = .ok (p, r)) (hv : RdW w' B v r) : CutR B o (.returned (.tuple #[prV p, v])) w' := by
  rw [← h, hr]; exact ⟨v, rfl, hv⟩
def lenS : Value → Nat
  | .slice _ n _ => n
  | _ => 0

set_option maxHeartbeats 4000000 in
set_option maxRecDepth 100000 in
theorem cut_any (v : Value) (ws : List Lx.Wd) (B : Nat) (w : World) (h : RdW w B v ws) (hB : B ≤ w.heap.size) :
    Calls Tryz.prog 201 #[v] w fun e w' => CutR B (Px.cutP Px.nop ws) e w' ∧ Below w.heap.size w w' := by
  obtain ⟨ANS, hANS⟩ : ∃ ANS, Px.cutP Px.nop ws = ANS := ⟨_, rfl⟩
  rw [hANS]
  have HA := Lib.hid hANS
  have HR := Lib.hid h
  have cO := Lib.hid (fun (a b : List UInt8) w => onlyOne_any a b w)
  obtain ⟨a, c, rfl, hc, _⟩ := h
  clear hANS
  go_enter Tryz.func201, Tryz.ntmps201
  go_wp2
  go_loopw [0] (fun v0 wr => ∃ (q : Px.Pr) (us : List Lx.Wd), Hid (RdW wr B v0 us) ∧ Hid (Px.cutP q us = ANS) ∧ wr.heap[w.heap.size]? = some (.cells #[.string ⟨#[]⟩, .string ⟨#[]⟩] 117 (0, 0)) ∧ wr.heap[w.heap.size + 1]? = some (.cells #[.string (str q.anchor), .string (str q.tag)] 117 (0, 0)) ∧ us.length ≤ ws.length ∧ Below w.heap.size w wr) (fun v0 _ => lenS v0)
  case atStart => exact ⟨Px.nop, ws, (HR.out.below ((bthen (bnew w _) (bnew _ _)).mono hB)), HA, new_blk _ _ _ _ (alloc_blk w _), new_at _ _ _ (by simp), Nat.le_refl _, bthen (bnew w _) (bnew _ _)⟩
  case round =>
    obtain ⟨q, us, HU, HK, hZ, hP, hul, hbw⟩ := hrel
    clear HA HR hc
    have hBr := hbw.size
    obtain ⟨⟨z0, z1⟩, y0, y1⟩ := two hZ
    obtain ⟨⟨p0, p1⟩, f0, f1⟩ := two hP
    have HZ := Lib.hid hZ
    have HP := Lib.hid hP
    clear hZ hP
    cases us with
    | nil =>
      obtain ⟨a0, c0, rfl⟩ := HU.out.nil_form
      go_wp2
      refine bodyPost_ret (v := .tuple #[.agg #[.string (str q.anchor), .string (str q.tag)], .slice none 0 0]) (by simp [results, go_sem, z0, z1]) rfl ?_
      exact ⟨CutR.ok HK.out rfl (RdW.nil _ _), bset2 hbw (Nat.le_refl _)⟩
    | cons x t =>
      obtain ⟨g, o, c', rfl, hc', hg, ⟨k0, k1, k2⟩⟩ := HU.out.cons
      have hK := HK.out
      unfold Px.cutP at hK
      simp only [List.length_cons] at hul
      have hgw : g < wr.heap.size := Nat.lt_of_lt_of_le hg (Nat.le_trans hB hBr)
      obtain ⟨xk, xt, xa⟩ := x
      simp only at k0 k1 k2 hK
      have hWx : (wr.alloc (.cells #[.int .i64 xk, .string (str xt), .int .i64 xa] 56)).heap[w.heap.size + 1]? = some (.cells #[.string (str q.anchor), .string (str q.tag)] 117 (0, 0)) := new_blk _ _ _ _ HP.out
      have hZx : (wr.alloc (.cells #[.int .i64 xk, .string (str xt), .int .i64 xa] 56)).heap[w.heap.size]? = some (.cells #[.string ⟨#[]⟩, .string ⟨#[]⟩] 117 (0, 0)) := new_blk _ _ _ _ HZ.out
      obtain ⟨⟨p0', p1'⟩, f0', f1'⟩ := two hWx
      obtain ⟨⟨z0', z1'⟩, y0', y1'⟩ := two hZx
      clear p0 p1 f0 f1 z0 z1 y0 y1 
      have HB' := Lib.hid (hbw.alloc hBr (.cells #[.int .i64 xk, .string (str xt), .int .i64 xa] 56))
      by_cases h3 : xk = 3
      · rw [if_pos h3] at hK
        have b3 : ((xk : Int) == 3) = true := beq_iff_eq.2 (by omega)
        clear h3
        cases hq : q.anchor.isEmpty
        · rw [hq, if_neg (by decide)] at hK
          have cF := Lib.hid (fun w => cO.out q.anchor xt w)
          rw [hq] at cF
          unfold fault at cF
          simp only [Bool.false_eq_true, if_false] at cF
          go_wp2_with (go_at_call 238; refine (cF.out _).mono ?_; rintro e w' ⟨rfl, rfl⟩)
          exact ⟨rfl, by rw [← hK]; rfl, HB'.out⟩
        · rw [hq, if_pos rfl] at hK
          have HK2 : Hid (Px.cutP ⟨xt, q.tag⟩ t = ANS) := hK
          have cF := Lib.hid (fun w => cO.out q.anchor xt w)
          rw [hq] at cF
          simp only [if_true] at cF
          have HS := Lib.hid (blk_set hWx 0 (.string (str xt)))
          have HZ2 := Lib.hid (other_set hZx ⟨w.heap.size + 1, 0, none⟩ (.string (str xt)) (by simp))
          have HT := Lib.hid (RdW.tail (HU.out.below (((bnew wr (.cells #[.int .i64 xk, .string (str xt), .int .i64 xa] 56)).mono (Nat.le_trans hB hBr)).setCell (p := ⟨w.heap.size + 1, 0, none⟩) (by show B ≤ w.heap.size + 1; omega) (.string (str xt)))))
          have HB2 := Lib.hid (HB'.out.setCell (p := ⟨w.heap.size + 1, 0, none⟩) (Nat.le_succ _) (.string (str xt)))
          clear hK hq cO
          have hcc : (1 : Int) ≤ ((t.length + 1 : Nat) : Int) := by omega
          have hcd : ((t.length + 1 : Nat) : Int) ≤ (c' : Int) := by omega
          by_cases hc1 : c' = 1
          · subst hc1
            go_wp2_with (go_at_call 238; refine (cF.out _).mono ?_; rintro e w' ⟨rfl, rfl⟩)
            go_roundw
            case rel => exact ⟨⟨xt, q.tag⟩, [], RdW.nil_any _ _ _, (by have htn : t = [] := List.length_eq_zero_iff.1 (by omega); rw [htn] at HK2; exact HK2), HZ2.out, HS.out, by simp, HB2.out⟩
            case measure => simp only [lenS]; omega
          · go_wp2_with (go_at_call 238; refine (cF.out _).mono ?_; rintro e w' ⟨rfl, rfl⟩)
            go_roundw
            case rel => exact ⟨⟨xt, q.tag⟩, t, by have h := HT.out; rw [if_neg hc1] at h; exact h, HK2, HZ2.out, HS.out, by omega, HB2.out⟩
            case measure => simp only [lenS]; omega
      · rw [if_neg h3] at hK
        by_cases h5 : xk = 5
        · rw [if_pos h5] at hK
          have b3 : ((xk : Int) == 3) = false := beq_eq_false_iff_ne.2 (by omega)
          have b5 : ((xk : Int) == 5) = true := beq_iff_eq.2 (by omega)
          clear h3 h5
          cases hq : q.tag.isEmpty
          · rw [hq, if_neg (by decide)] at hK
            have cF := Lib.hid (fun w => cO.out q.tag xt w)
            rw [hq] at cF
            unfold fault at cF
            simp only [Bool.false_eq_true, if_false] at cF
            go_wp2_with (go_at_call 238; refine (cF.out _).mono ?_; rintro e w' ⟨rfl, rfl⟩)
            exact ⟨rfl, by rw [← hK]; rfl, HB'.out⟩
          · rw [hq, if_pos rfl] at hK
            have HK2 : Hid (Px.cutP ⟨q.anchor, xt⟩ t = ANS) := hK
            have cF := Lib.hid (fun w => cO.out q.tag xt w)
            rw [hq] at cF
            simp only [if_true] at cF
            have HS := Lib.hid (blk_set hWx 1 (.string (str xt)))
            have HZ2 := Lib.hid (other_set hZx ⟨w.heap.size + 1, 1, none⟩ (.string (str xt)) (by simp))
            have HT := Lib.hid (RdW.tail (HU.out.below (((bnew wr (.cells #[.int .i64 xk, .string (str xt), .int .i64 xa] 56)).mono (Nat.le_trans hB hBr)).setCell (p := ⟨w.heap.size + 1, 1, none⟩) (by show B ≤ w.heap.size + 1; omega) (.string (str xt)))))
            have HB2 := Lib.hid (HB'.out.setCell (p := ⟨w.heap.size + 1, 1, none⟩) (Nat.le_succ _) (.string (str xt)))
            clear hK hq cO
            have hcc : (1 : Int) ≤ ((t.length + 1 : Nat) : Int) := by omega
            have hcd : ((t.length + 1 : Nat) : Int) ≤ (c' : Int) := by omega
            by_cases hc1 : c' = 1
            · subst hc1
              go_wp2_with (go_at_call 238; refine (cF.out _).mono ?_; rintro e w' ⟨rfl, rfl⟩)
              go_roundw
              case rel => exact ⟨⟨q.anchor, xt⟩, [], RdW.nil_any _ _ _, (by have htn : t = [] := List.length_eq_zero_iff.1 (by omega); rw [htn] at HK2; exact HK2), HZ2.out, HS.out, by simp, HB2.out⟩
              case measure => simp only [lenS]; omega
            · go_wp2_with (go_at_call 238; refine (cF.out _).mono ?_; rintro e w' ⟨rfl, rfl⟩)
              go_roundw
              case rel => exact ⟨⟨q.anchor, xt⟩, t, by have h := HT.out; rw [if_neg hc1] at h; exact h, HK2, HZ2.out, HS.out, by omega, HB2.out⟩
              case measure => simp only [lenS]; omega
        · rw [if_neg h5] at hK
          have b3 : ((xk : Int) == 3) = false := beq_eq_false_iff_ne.2 (by omega)
          have b5 : ((xk : Int) == 5) = false := beq_eq_false_iff_ne.2 (by omega)
          have hn : (0 : Int) < ((t.length + 1 : Nat) : Int) := by omega
          go_wp2
          refine bodyPost_ret (v := .tuple #[.agg #[.string (str q.anchor), .string (str q.tag)], .slice (some ⟨g, o, none⟩) (t.length + 1) c']) (by simp [results, go_sem, z0', z1']) rfl ?_
          exact ⟨by rw [← hK]; exact ⟨_, rfl, HU.out.below ((bset2 ((bnew wr _).mono (Nat.le_trans hB hBr)) hB))⟩, bset2 HB'.out (Nat.le_refl _)⟩
end Go.Proofs.YtjcfmghijfnehaaGreatDoor
namespace Go.Proofs.YtjcfmghijfnehaaGreatDoor
open Go.RowKit

set_option maxHeartbeats 2000000 in
theorem last_any (R g n cap : Nat) (w : World) (hc : w.cell? ⟨R, 0, none⟩ = some (.slice (some ⟨g, 0, none⟩) (n + 1) cap)) (hn : n ≤ 1000000) :
    Calls Tryz.prog 174 #[.pointer (some ⟨R, 0, none⟩)] w fun e w' => e = .returned (.pointer (some ⟨g, n * 4, none⟩)) ∧ Below w.heap.size w w' := by
  have h1 : IntKind.i64.wrap (((n + 1 : Nat) : Int) - 1) = (n : Int) := by rw [IntWalk.i64_in _ (by omega)]; omega
  have h2 : (0 : Int) ≤ (n : Int) := by omega
  have h3 : (n : Int) < ((n + 1 : Nat) : Int) := by omega
  generalize hm : n + 1 = m at *
  go_enter Tryz.func174, Tryz.ntmps174
  go_wp2
  go_quiet (fail)
  go_wp2
  go_ret
  refine ⟨by simp [Addr.add], ⟨rfl, rfl, rfl, Nat.le_refl _, fun _ _ => rfl⟩⟩

set_option maxHeartbeats 2000000 in
theorem rdepth_any (R n cap : Nat) (a : Option Addr) (w : World) (hc : w.cell? ⟨R, 0, none⟩ = some (.slice a (n + 1) cap)) (hn : n ≤ 1000000) :
    Calls Tryz.prog 173 #[.pointer (some ⟨R, 0, none⟩)] w fun e w' => e = .returned (.int .i64 n) ∧ w = w' := by
  have h1 : IntKind.i64.wrap (((n + 1 : Nat) : Int) - 1) = (n : Int) := by rw [IntWalk.i64_in _ (by omega)]; omega
  generalize n + 1 = m at *
  go_enter Tryz.func173, Tryz.ntmps173
  go_wp2
  go_ret
  exact ⟨ret_int (by first | rfl | assumption), rfl⟩

theorem RdAt.clear {w : World} {B R : Nat} {bv ov : Value} {st : Px.St} (h : RdAt w B R bv ov st) : RdAt ((w.setCell ⟨R, 1, none⟩ (.string ⟨#[]⟩)).setCell ⟨R, 2, none⟩ (.string ⟨#[]⟩)) B R bv ov ⟨st.blocks, Px.nop, st.out⟩ :=
  ⟨blk_set (blk_set h.cell 1 _) 2 _, row_set (row_set h.blocks h.cell (by decide)) (blk_set h.cell 1 _) (by decide), row_set (row_set h.out h.cell (by decide)) (blk_set h.cell 1 _) (by decide)⟩
theorem RdAt.hold {w : World} {B R : Nat} {bv ov : Value} {st : Px.St} (h : RdAt w B R bv ov st) (p : Px.Pr) : RdAt ((w.setCell ⟨R, 1, none⟩ (.string (str p.anchor))).setCell ⟨R, 2, none⟩ (.string (str p.tag))) B R bv ov ⟨st.blocks, p, st.out⟩ :=
  ⟨blk_set (blk_set h.cell 1 _) 2 _, row_set (row_set h.blocks h.cell (by decide)) (blk_set h.cell 1 _) (by decide), row_set (row_set h.out h.cell (by decide)) (blk_set h.cell 1 _) (by decide)⟩
theorem RdAt.setW {w : World} {B R g cap : Nat} {ov : Value} {b : Px.Bk} {t : List Px.Bk} {hd : Px.Pr} {out : List Ev.E} (h : RdAt w B R (.slice (some ⟨g, 0, none⟩) (t.length + 1) cap) ov ⟨b :: t, hd, out⟩) (x : Bool) :
    RdAt (w.setCell ⟨g, t.length * 4 + 3, none⟩ (.bool x)) B R (.slice (some ⟨g, 0, none⟩) (t.length + 1) cap) ov ⟨⟨b.kind, b.fin, b.col, x⟩ :: t, hd, out⟩ := by
  obtain ⟨g', cap', cur, e, hB, hh, _⟩ := OwnB.last h.blocks
  cases e
  refine ⟨other_set h.cell ⟨g, t.length * 4 + 3, none⟩ (.bool x) (fun e => ?_), OwnB.setW h.blocks x, row_set h.out hh (by decide)⟩
  have e : R = g := e
  subst e
  have := h.cell
  rw [hh] at this
  cases this
theorem RdAt.setO {w : World} {B R : Nat} {bv ov ov' : Value} {st : Px.St} {out : List Ev.E} (h : RdAt w B R bv ov st) (ho : OwnE w B ov' out) : RdAt (w.setCell ⟨R, 3, none⟩ ov') B R bv ov' ⟨st.blocks, st.held, out⟩ :=
  ⟨blk_set h.cell 3 _, row_set h.blocks h.cell (by decide), row_set ho h.cell (by decide)⟩
theorem RdAt.setB {w : World} {B R : Nat} {bv bv' ov : Value} {st : Px.St} {bs : List Px.Bk} (h : RdAt w B R bv ov st) (hb : OwnB w B bv' bs) : RdAt (w.setCell ⟨R, 0, none⟩ bv') B R bv' ov ⟨bs, st.held, st.out⟩ :=
  ⟨blk_set h.cell 0 _, row_set hb h.cell (by decide), row_set h.out h.cell (by decide)⟩
/-- what a method of a reader leaves that answers nothing -/
def RdrR (B R : Nat) (o : Except Nat Px.St) (e : Ending) (w' : World) : Prop := match o with
  | .ok s => e = .returned (.tuple #[]) ∧ RdrAt w' B R s
  | .error n => e = fault n
/-- the cells of the last block -/
theorem RdAt.top {w : World} {B R : Nat} {bv ov : Value} {b : Px.Bk} {t : List Px.Bk} {hd : Px.Pr} {out : List Ev.E} (h : RdAt w B R bv ov ⟨b :: t, hd, out⟩) :
    ∃ g cap cur, bv = .slice (some ⟨g, 0, none⟩) (t.length + 1) cap ∧ B ≤ g ∧ t.length + 1 ≤ cap ∧ w.heap[g]? = some (.cells cur 193 (0, 0)) ∧
      w.cell? ⟨g, t.length * 4, none⟩ = some (.int .i64 b.kind) ∧ w.cell? ⟨g, t.length * 4 + 1, none⟩ = some (.int .i64 b.fin) ∧ w.cell? ⟨g, t.length * 4 + 2, none⟩ = some (.int .i64 b.col) ∧ w.cell? ⟨g, t.length * 4 + 3, none⟩ = some (.bool b.waits) ∧ w.frozen? ⟨g, t.length * 4 + 3, none⟩ = false := by
  obtain ⟨g, cap, cur, e, hB, hh, hc, k0, k1, k2, k3⟩ := OwnB.last h.blocks
  exact ⟨g, cap, cur, e, hB, hc, hh, cell_blk hh _ _ k0, cell_blk hh _ _ k1, cell_blk hh _ _ k2, cell_blk hh _ _ k3, frozen_blk hh _⟩
end Go.Proofs.YtjcfmghijfnehaaGreatDoor
namespace Go.Proofs.YtjcfmghijfnehaaGreatDoor
open Go.RowKit

/-- the types of the blocks that a reader of words writes -/
abbrev flT : List TypeId := [140, 47]
/-- a reader of words: what is left, how deep it stands, what it has told -/
def FlAt (w : World) (B F d : Nat) (ws : List Lx.Wd) (es : List Ev.E) : Prop :=
  ∃ wv ov, w.heap[F]? = some (.cells #[wv, .int .i64 d, ov] 140 (0, 0)) ∧ RdW w B wv ws ∧ OwnE w B ov es
theorem RdW.keep {ts : List TypeId} {w w' : World} {B : Nat} {v : Value} {ws : List Lx.Wd} (h : RdW w B v ws) (hk : Keep ts B w w') : RdW w' B v ws := h.below hk.below
theorem OwnE.keep_set {w : World} {B F i : Nat} {v u : Value} {es : List Ev.E} {c : Array Value} {t : TypeId} {fr : Nat × Nat} (h : OwnE w B v es) (hF : w.heap[F]? = some (.cells c t fr)) (ht : t ≠ 47) : OwnE (w.setCell ⟨F, i, none⟩ u) B v es := by
  refine row_kept h fun k hk => ?_
  refine Below.heap_setCell w ⟨F, i, none⟩ u k ?_
  intro e
  have e : F = k := e.symm
  subst e
  rcases h.2 with ⟨rfl, _⟩ | ⟨g, cap, cur, rfl, _, hh, _⟩
  · cases hk
  · have e1 : g = F := by simpa [Value.ownBlock] using hk
    subst e1
    rw [hF] at hh
    cases hh; exact ht rfl
theorem FlAt.put0 {w : World} {B F d : Nat} {wv wv' ov : Value} {ws : List Lx.Wd} {es : List Ev.E} (hF : w.heap[F]? = some (.cells #[wv, .int .i64 d, ov] 140 (0, 0))) (hw : RdW w B wv' ws) (ho : OwnE w B ov es) (hB : B ≤ F) : FlAt (w.setCell ⟨F, 0, none⟩ wv') B F d ws es :=
  ⟨wv', ov, blk_set hF 0 wv', hw.below ((Below.refl B w).setCell (p := ⟨F, 0, none⟩) hB wv'), ho.keep_set hF (by decide)⟩
theorem FlAt.put1 {w : World} {B F d d' : Nat} {wv ov : Value} {ws : List Lx.Wd} {es : List Ev.E} (hF : w.heap[F]? = some (.cells #[wv, .int .i64 d, ov] 140 (0, 0))) (hw : RdW w B wv ws) (ho : OwnE w B ov es) (hB : B ≤ F) : FlAt (w.setCell ⟨F, 1, none⟩ (.int .i64 d')) B F d' ws es :=
  ⟨wv, ov, blk_set hF 1 (.int .i64 d'), hw.below ((Below.refl B w).setCell (p := ⟨F, 1, none⟩) hB _), ho.keep_set hF (by decide)⟩
theorem FlAt.put2 {w : World} {B F d : Nat} {wv ov ov' : Value} {ws : List Lx.Wd} {es : List Ev.E} (hF : w.heap[F]? = some (.cells #[wv, .int .i64 d, ov] 140 (0, 0))) (hw : RdW w B wv ws) (ho : OwnE w B ov' es) (hB : B ≤ F) : FlAt (w.setCell ⟨F, 2, none⟩ ov') B F d ws es :=
  ⟨wv, ov', blk_set hF 2 ov', hw.below ((Below.refl B w).setCell (p := ⟨F, 2, none⟩) hB ov'), ho.keep_set hF (by decide)⟩
theorem FlAt.below {w w' : World} {B F d : Nat} {ws : List Lx.Wd} {es : List Ev.E} (h : FlAt w B F d ws es) (hb : Below w.heap.size w w') (hB : B ≤ w.heap.size) : FlAt w' B F d ws es := by
  obtain ⟨wv, ov, h1, h2, h3⟩ := h
  exact ⟨wv, ov, blk_below h1 hb, h2.below (hb.mono hB), h3.below hb⟩
theorem FlAt.lt {w : World} {B F d : Nat} {ws : List Lx.Wd} {es : List Ev.E} (h : FlAt w B F d ws es) : F < w.heap.size := by
  obtain ⟨wv, ov, h1, _⟩ := h
  exact (Array.getElem?_eq_some_iff.1 h1).1

theorem FlAt.other {w : World} {B F d b i : Nat} {ws : List Lx.Wd} {es : List Ev.E} {v : Value} {c : Array Value} {t : TypeId} {fr : Nat × Nat} (h : FlAt w B F d ws es) (hb : w.heap[b]? = some (.cells c t fr)) (ht : t ∉ flT) (hB : B ≤ b) : FlAt (w.setCell ⟨b, i, none⟩ v) B F d ws es := by
  obtain ⟨wv, ov, h1, h2, h3⟩ := h
  refine ⟨wv, ov, other_set h1 ⟨b, i, none⟩ v (fun e => ?_), h2.below ((Below.refl B w).setCell (p := ⟨b, i, none⟩) hB v), h3.keep_set hb (fun e => ht (by rw [e]; decide))⟩
  have e : F = b := e
  subst e
  rw [h1] at hb
  cases hb
  exact ht (by decide)

set_option maxHeartbeats 2000000 in
theorem skips_any (B F d k : Nat) (ws : List Lx.Wd) (es : List Ev.E) (w : World) (h : FlAt w B F d ws es) (hB : B ≤ F) :
    Calls Tryz.prog 145 #[.pointer (some ⟨F, 0, none⟩), .int .i64 k] w fun e w' => e = .returned (.bool (Px.bk ws k)) ∧ FlAt w' B F d (if Px.bk ws k then ws.tail else ws) es ∧ Keep flT B w w' := by
  have hFl := h.lt
  have HH := Lib.hid h
  obtain ⟨wv, ov, hF, hW, hO⟩ := h
  obtain ⟨⟨c0, c1, c2⟩, f0, f1, f2⟩ := three hF
  have cB := begins_any wv ws k B w hW
  cases hk : Px.bk ws k
  · rw [hk] at cB
    have CB := Lib.hid cB
    clear hk cB hF hW hO
    go_enter Tryz.func145, Tryz.ntmps145
    go_wp2_with (go_at_call 178; refine CB.out.mono ?_; rintro e w' ⟨rfl, rfl⟩)
    go_ret
    exact ⟨rfl, HH.out, Keep.refl _ _ _⟩
  · rw [hk] at cB
    cases ws with
    | nil => cases hk
    | cons x t =>
      obtain ⟨g, o, c', rfl, hc', hg, _⟩ := hW.cons
      have CB := Lib.hid cB
      have HF := Lib.hid hF
      have HO := Lib.hid hO
      have HT := Lib.hid (RdW.tail hW)
      clear hk cB hF hW hO HH
      have hcc : (1 : Int) ≤ ((t.length + 1 : Nat) : Int) := by omega
      have hcd : ((t.length + 1 : Nat) : Int) ≤ (c' : Int) := by omega
      by_cases hc1 : c' = 1
      · subst hc1
        have htn : t = [] := List.length_eq_zero_iff.1 (by omega)
        subst htn
        go_enter Tryz.func145, Tryz.ntmps145
        go_wp2_with (go_at_call 178; refine CB.out.mono ?_; rintro e w' ⟨rfl, rfl⟩)
        go_ret
        exact ⟨rfl, FlAt.put0 HF.out (RdW.nil_any _ _ _) HO.out hB, keep_set HF.out (by decide) hB⟩
      · go_enter Tryz.func145, Tryz.ntmps145
        go_wp2_with (go_at_call 178; refine CB.out.mono ?_; rintro e w' ⟨rfl, rfl⟩)
        go_ret
        exact ⟨rfl, FlAt.put0 HF.out (by have h := HT.out; rw [if_neg hc1] at h; exact h) HO.out hB, keep_set HF.out (by decide) hB⟩

/-- what takeProperties answers -/
def TakeR (B F d : Nat) (es : List Ev.E) (o : Except Nat (Px.Pr × List Lx.Wd)) (e : Ending) (w' : World) : Prop := match o with
  | .ok (p, r) => e = .returned (prV p) ∧ FlAt w' B F d r es
  | .error n => e = fault n

set_option maxHeartbeats 4000000 in
theorem take_any (B F d : Nat) (ws : List Lx.Wd) (es : List Ev.E) (w : World) (h : FlAt w B F d ws es) (hB : B ≤ F) :
    Calls Tryz.prog 144 #[.pointer (some ⟨F, 0, none⟩)] w fun e w' => TakeR B F d es (Px.cutP Px.nop ws) e w' ∧ Keep flT B w w' := by
  have hFl := h.lt
  obtain ⟨wv, ov, hF, hW, hO⟩ := h
  have hBw : B ≤ w.heap.size := Nat.le_of_lt (Nat.lt_of_le_of_lt hB hFl)
  have hF1 := new_blk w _ (.cells #[.string ⟨#[]⟩, .string ⟨#[]⟩] 117) F hF
  obtain ⟨⟨c0, c1, c2⟩, f0, f1, f2⟩ := three hF1
  have CC := Lib.hid (cut_any wv ws B (w.alloc (.cells #[.string ⟨#[]⟩, .string ⟨#[]⟩] 117)) (hW.below (((bnew w _)).mono hBw)) (by rw [World.size_alloc]; omega))
  have HF := Lib.hid hF1
  have HO := Lib.hid hO
  cases hc : Px.cutP Px.nop ws with
  | error n =>
    rw [hc] at CC
    clear hc hF hF1 hW hO
    go_enter Tryz.func144, Tryz.ntmps144
    go_wp2_with (go_at_call 201; refine CC.out.mono ?_; rintro e w1 ⟨h1, hb1⟩; unfold CutR fault at h1; simp only at h1; subst h1)
    exact ⟨rfl, rfl, (keep_of (bthen (bnew w _) hb1) hBw)⟩
  | ok y =>
    obtain ⟨p, r⟩ := y
    rw [hc] at CC
    clear hc hF hF1 hW hO
    have hne : ¬ F = w.heap.size := by omega
    have hne' : ¬ w.heap.size = F := by omega
    go_enter Tryz.func144, Tryz.ntmps144
    go_wp2_with fail
    refine CC.out.mono ?_
    rintro e w1 ⟨⟨v1, rfl, hv1⟩, hb1⟩
    unfold prV
    have HV := Lib.hid hv1
    obtain ⟨a1, n1, rfl, _, _⟩ := hv1
    clear c0 c1 c2 f0 f1 f2
    have hF1 := new_blk _ _ (.cells #[.string (str p.anchor), .string (str p.tag)] 117) _ (blk_below HF.out hb1)
    obtain ⟨⟨c0, c1, c2⟩, f0, f1, f2⟩ := three hF1
    have hR1 := new_blk _ _ (.cells #[.string (str p.anchor), .string (str p.tag)] 117) _ (blk_below (alloc_blk w (.cells #[.string ⟨#[]⟩, .string ⟨#[]⟩] 117)) hb1)
    obtain ⟨⟨r0, r1⟩, q0, q1⟩ := two hR1
    have hsz := hb1.size
    rw [World.size_alloc] at hsz
    have hne2 : ¬ w1.heap.size = F := by omega
    have hne3 : ¬ F = w1.heap.size := by omega
    go_wp2
    refine bodyPost_ret (v := .agg #[.string (str p.anchor), .string (str p.tag)]) (by simp [results, go_sem, r0, r1, q0, q1, hne, hne', hne2, hne3]) rfl ?_
    have hR2 := other_set hR1 ⟨F, 0, none⟩ (.slice a1 r.length n1) (fun e => by simp only at e; omega)
    have hR3 := blk_set hR2 0 (.string (str p.anchor))
    refine ⟨⟨rfl, ?_⟩, ?_⟩
    · exact ((FlAt.put0 hF1 (HV.out.below ((bnew w1 _).mono (by omega))) ((HO.out.below (bthen (bnew w _) hb1)).below (bnew w1 _)) hB).other hR2 (by decide) hBw).other hR3 (by decide) hBw
    · exact ((((keep_of (bthen (bnew w _) hb1) hBw).alloc hBw _).set hF1 (by decide) hB).fresh (Nat.le_refl _) hBw).fresh (Nat.le_refl _) hBw

set_option maxHeartbeats 4000000 in
set_option maxRecDepth 100000 in
theorem put_any (B F d : Nat) (ws : List Lx.Wd) (es : List Ev.E) (x : Ev.E) (w : World) (h : FlAt w B F d ws es) (hB : B ≤ F) (hl : es.length ≤ 2199023255488) :
    Calls Tryz.prog 202 #[.pointer (some ⟨F, 0, none⟩), evV x] w fun e w' => e = .returned (.tuple #[]) ∧ FlAt w' B F d ws (es ++ [x]) ∧ Keep flT B w w' := by
  have hFl := h.lt
  obtain ⟨wv, ov, hF, hW, hO⟩ := h
  obtain ⟨k, an, tg, tx, pl⟩ := x
  have hBw : B ≤ w.heap.size := Nat.le_of_lt (Nat.lt_of_le_of_lt hB hFl)
  have hF1 := new_blk w _ (.cells #[.int .i64 k, .string (str an), .string (str tg), .string (str tx), .bool pl] 47) F hF
  obtain ⟨⟨c0, c1, c2⟩, f0, f1, f2⟩ := three hF1
  have hX1 := alloc_blk w (.cells #[.int .i64 k, .string (str an), .string (str tg), .string (str tx), .bool pl] 47)
  obtain ⟨⟨x0, x1, x2, x3, x4⟩, _⟩ := five hX1
  have HF := Lib.hid hF
  have HW := Lib.hid hW
  have HO := Lib.hid hO
  clear hF hF1 hX1 hW hO
  unfold evV
  simp only
  go_enter Tryz.func202, Tryz.ntmps202
  go_wp2
  go_region_law
    (first
      | (refine step_pushE (by rfl) (.tmp 8) (.tmp 10) (by rfl) B ov es ⟨k, an, tg, tx, pl⟩ _ _ (0, 0) (by rfl) (by rfl) (by exact new_at _ _ _ (by simp)) (by exact HO.out.below (bdrew (bthen (bnew w _) (bnew _ _)))) (by exact hl) (by simp; omega) ?_; intro v1 w1 ho1 hk1 hb1; have hX1 := (hb1 w.heap.size (by simp; omega) (own_not HO.out (Nat.le_refl _))).trans (new_blk _ _ _ _ (alloc_blk w _)); obtain ⟨⟨y0, y1, y2, y3, y4⟩, _⟩ := five hX1; have hF1 := hk1.blk (new_blk _ _ _ _ (new_blk _ _ _ _ HF.out)) (by decide); obtain ⟨⟨_, _, d2⟩, _, _, g2⟩ := three hF1; obtain ⟨va, vc, rfl⟩ := own_slice ho1))
  all_goals go_wp2
  all_goals go_end0
  all_goals exact ⟨rfl, FlAt.put2 hF1 ((HW.out.below ((bdrew (bthen (bnew w _) (bnew _ _))).mono hBw)).keep hk1) (by have h := ho1; rw [List.length_append] at h; exact h) hB, ((keep_of (bdrew (bthen (bnew w _) (bnew _ _))) hBw).trans (hk1.wide (by decide))).set hF1 (by decide) hB⟩
end Go.Proofs.YtjcfmghijfnehaaGreatDoor
