/-
  Walks of flow: leaf, group.
-/
import Derived.Test.YtjcfmghijfnehaaGreatDoorJd
import Derived.Test.YtjcfmghijfnehaaGreatDoorKb
import Derived.Deep.RegionWith
namespace Go.Proofs.YtjcfmghijfnehaaGreatDoor
open Go.RowKit

/-- inside a region that draws: a way that leaves it is walked as a region of no operation -/
theorem any_stop {P : Program} {X : Prop} (a : Act) (w : World) (h : wpAny P .any #[] (fun _ _ _ => X) 0 #[] a w) : X := h.2
/-- what a reader of words leaves that answers nothing -/
def GoR (B F d : Nat) (es : List Ev.E) (o : Px.Rd) (e : Ending) (w' : World) : Prop := match o with
  | .ok (r, xs) => e = .returned (.tuple #[]) ∧ FlAt w' B F d r (es ++ xs)
  | .error n => e = fault n

set_option maxHeartbeats 4000000 in
set_option maxRecDepth 100000 in
theorem leaf_any (B F d : Nat) (ws : List Lx.Wd) (es : List Ev.E) (p : Px.Pr) (w : World) (h : FlAt w B F d ws es) (hB : B ≤ F) (hl : es.length ≤ 2199023255488) :
    Calls Tryz.prog 151 #[.pointer (some ⟨F, 0, none⟩), prV p] w fun e w' => GoR B F d es (Px.leafW p ws) e w' ∧ Keep flT B w w' := by
  have hFl := h.lt
  have HH := Lib.hid h
  obtain ⟨wv, ov, hF, hW, hO⟩ := h
  have hBw : B ≤ w.heap.size := Nat.le_of_lt (Nat.lt_of_le_of_lt hB hFl)
  have hF1 := new_blk w _ (.cells #[.string (str p.anchor), .string (str p.tag)] 117) F hF
  obtain ⟨⟨c0, c1, c2⟩, f0, f1, f2⟩ := three hF1
  have HB1 := Lib.hid (bnew w (.cells #[.string (str p.anchor), .string (str p.tag)] 117))
  have HF := Lib.hid hF1
  cases ws with
  | nil =>
    obtain ⟨a0, n0, rfl⟩ := hW.nil_form
    clear hF hF1 hW hO HF
    unfold prV
    go_enter Tryz.func151, Tryz.ntmps151
    go_wp2
    exact ⟨rfl, rfl, keep_of HB1.out hBw⟩
  | cons x t =>
    obtain ⟨g, o, c', rfl, hc', hg, hat⟩ := hW.cons
    have hgw : g < w.heap.size := Nat.lt_of_lt_of_le hg hBw
    obtain ⟨k0, k1, k2⟩ := hat.below HB1.out hgw
    have HO := Lib.hid hO
    have HW := Lib.hid hW
    have CL := Lib.hid (fun w => leafOf_any x p w)
    have hn : ((t.length + 1 : Nat) : Int) ≠ 0 := by omega
    have hn' : (0 : Int) < ((t.length + 1 : Nat) : Int) := by omega
    clear hF hF1 hW hO hat
    unfold Px.leafW
    simp only
    unfold prV at CL ⊢
    obtain ⟨xk, xt, xa⟩ := x
    simp only at k0 k1 k2 CL ⊢
    cases hlf : Px.leaf ⟨xk, xt, xa⟩ p with
    | error n =>
      rw [hlf] at CL
      unfold leafR fault at CL
      simp only at CL
      clear hlf
      go_enter Tryz.func151, Tryz.ntmps151
      go_wp2
      go_region_law (first
        | (go_simp; go_at_call 204; refine (CL.out _).mono ?_; rintro e w1 ⟨rfl, hb1⟩; refine any_stop (P := Tryz.prog) ⟨#[], []⟩ w1 ?_))
      all_goals exact ⟨rfl, rfl, keep_of (bthen (bdrew HB1.out) hb1) hBw⟩
    | ok y =>
      rw [hlf] at CL
      unfold leafR at CL
      simp only at CL
      clear hlf
      unfold evV at CL
      have hX := alloc_blk w (.cells #[.string (str p.anchor), .string (str p.tag)] 117)
      have CP := Lib.hid (fun w1 (h1 : Below (w.alloc (.cells #[.string (str p.anchor), .string (str p.tag)] 117)).heap.size (w.alloc (.cells #[.string (str p.anchor), .string (str p.tag)] 117)) w1) => put_any B F d (⟨xk, xt, xa⟩ :: t) es y w1 ((HH.out.below HB1.out hBw).below h1 (by rw [World.size_alloc]; omega)) hB hl)
      unfold evV at CP
      go_enter Tryz.func151, Tryz.ntmps151
      go_wp2
      go_region_law (first
        | (go_simp; go_at_call 204; refine (CL.out _).mono ?_; rintro e w1 ⟨rfl, hb1⟩; have hb1' : Below (w.alloc (.cells #[.string (str p.anchor), .string (str p.tag)] 117)).heap.size (w.alloc (.cells #[.string (str p.anchor), .string (str p.tag)] 117)) w1 := ⟨hb1.os, hb1.tape, hb1.output, hb1.size, hb1.block⟩)
        | (go_simp; go_at_call 202; refine (CP.out _ hb1').mono ?_; rintro e w2 ⟨rfl, hf2, hk2⟩))
      all_goals obtain ⟨wv2, ov2, hF2, hW2, hO2⟩ := hf2
      all_goals obtain ⟨⟨d0, d1, d2⟩, g0, g1, g2⟩ := three hF2
      all_goals obtain ⟨gg, oo, cc, rfl, hcc, _, _⟩ := hW2.cons
      all_goals have HW2 := Lib.hid hW2
      all_goals have HF2 := Lib.hid hF2
      all_goals have HO2 := Lib.hid hO2
      all_goals clear hF2 hW2 hO2
      all_goals have hcc1 : (1 : Int) ≤ ((t.length + 1 : Nat) : Int) := by omega
      all_goals have hcc2 : ((t.length + 1 : Nat) : Int) ≤ (cc : Int) := by omega
      all_goals have HKK := Lib.hid ((keep_of (ts := flT) (bthen HB1.out hb1') hBw).trans hk2)
      all_goals by_cases hc1 : cc = 1
      all_goals first
        | (subst hc1
           have htn : t = [] := List.length_eq_zero_iff.1 (by omega)
           subst htn
           go_wp2
           go_end0
           exact ⟨⟨rfl, FlAt.put0 HF2.out (RdW.nil_any _ _ _) HO2.out hB⟩, HKK.out.set HF2.out (by decide) hB⟩)
        | (go_wp2
           go_end0
           exact ⟨⟨rfl, FlAt.put0 HF2.out (by have h := RdW.tail HW2.out; rw [if_neg hc1] at h; exact h) HO2.out hB⟩, HKK.out.set HF2.out (by decide) hB⟩)

theorem FlAt.call {w w' : World} {B F d : Nat} {ws : List Lx.Wd} {es : List Ev.E} (h : FlAt w B F d ws es) (hb : Below w.heap.size w w') (hB : B ≤ F) : FlAt w' B F d ws es := h.below hb (Nat.le_trans hB (Nat.le_of_lt h.lt))

set_option maxHeartbeats 4000000 in
set_option maxRecDepth 100000 in
theorem group_any (B F d : Nat) (ws : List Lx.Wd) (es : List Ev.E) (p : Px.Pr) (k k' : Int) (g : Nat) (c : Value) (o : Px.Rd) (w : World) (h : FlAt w B F d ws es) (hB : B ≤ F) (hd : d ≤ 40) (hk : k' = k + 1) (hl : es.length + 2 * ws.length ≤ 2199023255480)
    (eg : ∀ args w, (callFunc g args).run Tryz.prog w = .ok (.enter g args) w) (hs : Px.SlimI ws o)
    (hI : d < 40 → ∀ w1, FlAt w1 B F (d + 1) ws (es ++ [p.on (Px.ev k)]) → Keep flT B w w1 → Calls Tryz.prog g #[c] w1 fun e w' => GoR B F (d + 1) (es ++ [p.on (Px.ev k)]) o e w' ∧ Keep flT B w1 w') :
    Calls Tryz.prog 146 #[.pointer (some ⟨F, 0, none⟩), prV p, .int .i64 k, .int .i64 k', .func (.func g) #[] #[c]] w fun e w' => GoR B F d es (if d < 40 then Px.wrap p k o else .error 13) e w' ∧ Keep flT B w w' := by
  have hFl := h.lt
  have HKe := Lib.hid hk
  clear hk
  obtain ⟨wv, ov, hF, hW, hO⟩ := h
  have hBw : B ≤ w.heap.size := Nat.le_of_lt (Nat.lt_of_le_of_lt hB hFl)
  have hF1 := new_blk w _ (.cells #[.string (str p.anchor), .string (str p.tag)] 117) F hF
  obtain ⟨⟨c0, c1, c2⟩, f0, f1, f2⟩ := three hF1
  have HB1 := Lib.hid (bnew w (.cells #[.string (str p.anchor), .string (str p.tag)] 117))
  have HF0 := Lib.hid hF
  have HW := Lib.hid hW
  have HO := Lib.hid hO
  clear hF hF1 hW hO
  by_cases h40 : d < 40
  · rw [if_pos h40]
    have HI := Lib.hid (hI h40)
    have hd2 : ¬ (40 : Int) ≤ (d : Int) := by omega
    have hwr : IntKind.i64.wrap ((d : Int) + 1) = (d : Int) + 1 := IntWalk.i64_in _ (by omega)
    have hwr2 : IntKind.i64.wrap (((d + 1 : Nat) : Int) - 1) = (d : Int) := by rw [IntWalk.i64_in _ (by omega)]; omega
    have hFd : Hid (FlAt ((w.setCell ⟨F, 1, none⟩ (.int .i64 ((d : Int) + 1))).alloc (.cells #[.string (str p.anchor), .string (str p.tag)] 117)) B F (d + 1) ws es) := (FlAt.put1 (d' := d + 1) HF0.out HW.out HO.out hB).call (bnew _ _) hB
    have HK0 : Hid (Keep flT B w ((w.setCell ⟨F, 1, none⟩ (.int .i64 ((d : Int) + 1))).alloc (.cells #[.string (str p.anchor), .string (str p.tag)] 117))) := (keep_set HF0.out (by decide) hB).alloc hBw _
    have CO := Lib.hid (fun w => on_any p (Px.ev k) w)
    have CP1 := Lib.hid (fun w1 (h : FlAt w1 B F (d + 1) ws es) => put_any B F (d + 1) ws es (p.on (Px.ev k)) w1 h hB (by omega))
    have CP2 := Lib.hid (fun r xs w1 (h : FlAt w1 B F (d + 1) r ((es ++ [p.on (Px.ev k)]) ++ xs)) hl => put_any B F (d + 1) r ((es ++ [p.on (Px.ev k)]) ++ xs) (Px.ev k') w1 h hB hl)
    have hev : evV (p.on (Px.ev k)) = .agg #[.int .i64 k, .string (str p.anchor), .string (str p.tag), .string ⟨#[]⟩, .bool false] := rfl
    have hev2 : evV (Px.ev k) = .agg #[.int .i64 k, .string ⟨#[]⟩, .string ⟨#[]⟩, .string ⟨#[]⟩, .bool false] := rfl
    have hev3 : evV (Px.ev k') = .agg #[.int .i64 k', .string ⟨#[]⟩, .string ⟨#[]⟩, .string ⟨#[]⟩, .bool false] := rfl
    have hpr : prV p = .agg #[.string (str p.anchor), .string (str p.tag)] := rfl
    rw [hev, hev2, hpr] at CO
    rw [hev] at CP1
    rw [hev3] at CP2
    rw [hpr]
    clear hI hev hev2 hev3 hpr
    cases o with
    | error n =>
      unfold GoR fault at HI
      simp only at HI
      go_enter Tryz.func146, Tryz.ntmps146
      go_wp2_with (first
        | (go_at_call 203; go_fit (CO.out _); rintro e w1 ⟨rfl, hb1⟩; have hF1 := hFd.out.call hb1 hB)
        | (go_at_call 202; go_fit (CP1.out _ hF1); rintro e w2 ⟨rfl, hF2, hk2⟩; have HK2 := Lib.hid ((HK0.out.call hb1 hBw).trans hk2))
        | (go_at_fn g; go_fit (HI.out _ hF2 HK2.out); rintro e w3 ⟨rfl, hk3⟩))
      exact ⟨rfl, rfl, HK2.out.trans hk3⟩
    | ok y =>
      obtain ⟨r, xs⟩ := y
      obtain ⟨hs1, hs2⟩ := hs
      unfold GoR at HI
      simp only at HI
      go_enter Tryz.func146, Tryz.ntmps146
      go_wp2_with (first
        | (go_at_call 203; go_fit (CO.out _); rintro e w1 ⟨rfl, hb1⟩; have hF1 := hFd.out.call hb1 hB)
        | (go_at_call 202; go_fit (CP1.out _ hF1); rintro e w2 ⟨rfl, hF2, hk2⟩; have HK2 := Lib.hid ((HK0.out.call hb1 hBw).trans hk2))
        | (go_at_fn g; go_fit (HI.out _ hF2 HK2.out); rintro e w3 ⟨⟨rfl, hF3⟩, hk3⟩; have HK3 := Lib.hid (HK2.out.trans hk3); clear CP1 hk3; have hlen : ((es ++ [p.on (Px.ev k)]) ++ xs).length ≤ 2199023255488 := (by simp only [List.length_append, List.length_cons, List.length_nil]; omega))
        | (go_at_call 202; go_fit (CP2.out _ _ _ hF3 hlen); rintro e w4 ⟨rfl, hF4, hk4⟩; obtain ⟨wv4, ov4, hF4, hW4, hO4⟩ := hF4; obtain ⟨⟨d0, d1, d2⟩, g0, g1, g2⟩ := three hF4; have HF4 := Lib.hid hF4; clear hF4 c0 c1 c2 f0 f1 f2))
      go_end0
      refine ⟨⟨rfl, ?_⟩, (HK3.out.trans hk4).set HF4.out (by decide) hB⟩
      have := FlAt.put1 (d' := d) HF4.out hW4 hO4 hB
      obtain rfl := HKe.out
      simpa using this
  · rw [if_neg h40]
    have hd2 : (40 : Int) ≤ (d : Int) := by omega
    clear hI hs eg
    unfold prV
    go_enter Tryz.func146, Tryz.ntmps146
    go_wp2
    exact ⟨rfl, rfl, keep_of HB1.out hBw⟩
end Go.Proofs.YtjcfmghijfnehaaGreatDoor
