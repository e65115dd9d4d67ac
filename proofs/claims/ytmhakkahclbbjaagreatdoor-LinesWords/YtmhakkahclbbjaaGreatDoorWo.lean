/-
  The law LinesWords, walked.
-/
import Derived.Test.YtmhakkahclbbjaaGreatDoorMw
import Derived.Test.YtmhakkahclbbjaaGreatDoorLv
import Derived.BigQuiet
import Derived.Deep.QuietTactic
import Derived.IntWalk
namespace Go.Proofs.YtmhakkahclbbjaaGreatDoor
namespace Lx
theorem suffix_last (t : List UInt8) (h : t.getLast? = some 10) : Lib.hasSuffix t [10] = true := by
  obtain ⟨c, rfl⟩ : ∃ c, t = c ++ [10] := by
    refine ⟨t.dropLast, ?_⟩
    have hne : t ≠ [] := fun e => by subst e; cases h
    rw [List.getLast?_eq_some_getLast hne] at h
    rw [← Option.some.inj h, List.dropLast_concat_getLast]
  unfold Lib.hasSuffix
  rw [List.isSuffixOf_iff_suffix]
  exact List.suffix_append _ _
theorem lastBar_at (y : Wd) (t : List Wd) (h : lastBar (y :: t) = true) : ((y :: t)[t.length]'(by simp)).kind = 13 := by
  unfold lastBar at h
  rw [List.getLast?_eq_getElem?] at h
  simp only [List.length_cons, Nat.add_sub_cancel] at h
  rw [List.getElem?_eq_getElem (by simp)] at h
  exact of_decide_eq_true h
end Lx
theorem quiet_same {P : Program} {f : FuncId} {args : Array Value} {w : World} {n : Nat} {v : Value}
    (h : Calls P f args (w.drewN n) fun e w' => e = .returned v ∧ w.drewN n = w') :
    Calls P f args (w.drewN n) fun e w'' => e = .returned v ∧ ∃ m, w'' = w.drewN m :=
  h.mono fun _ _ ⟨he, hm⟩ => ⟨he, n, hm.symm⟩
open Go.RowKit

set_option maxHeartbeats 4000000 in
set_option maxRecDepth 100000 in
theorem words_walk (s : ByteArray) (w : World) (hs : s.size ≤ 9223372036854775807) (hE : Env w) :
    Calls Tryz.prog 6 #[.string s] w fun e w' => e = .returned (.bool true) ∧ Below w.heap.size w w' := by
  have cA := Lib.hid (alive_any w hE)
  by_cases hbig : 2000 < s.size
  · have b1 : decide ((2000 : Int) < (s.size : Int)) = true := decide_eq_true (by omega)
    clear hE
    go_enter Tryz.func6, Tryz.ntmps6
    go_wp2_with (go_at_call 8; refine cA.out.mono ?_; rintro e w1 ⟨rfl, hb1⟩)
    go_ret
    exact ⟨rfl, hb1⟩
  · have b1 : decide ((2000 : Int) < (s.size : Int)) = false := decide_eq_false (by omega)
    have cR := fun w hE => readLoop s w (by omega) hE
    have HE := Lib.hid hE
    clear hE
    cases hr : Lx.read s.data.toList with
    | error n =>
      rw [hr] at cR
      have hn : n ≠ 0 := Lx.read_err _ _ hr
      have bn : ((n : Int) != 0) = true := bne_iff_ne.2 (by omega)
      have CR := Lib.hid cR
      clear cR hr
      go_enter Tryz.func6, Tryz.ntmps6
      go_wp2_with (first
        | (go_at_call 8; refine cA.out.mono ?_; rintro e w1 ⟨rfl, hb1⟩)
        | (go_at_call 10; refine (CR.out _ (HE.out.below hb1)).mono ?_; rintro e w2 ⟨hq, hb2⟩; obtain rfl := hq))
      go_ret
      exact ⟨rfl, bthen hb1 hb2⟩
    | ok ls =>
      rw [hr] at cR
      have HG := Lib.hid (Lx.read_good _ _ hr)
      have HF := Lib.hid (Lx.read_few _ _ hr)
      have CR := Lib.hid cR
      clear cR hr
      go_enter Tryz.func6, Tryz.ntmps6
      go_wp2_with (first
        | (go_at_call 8; refine cA.out.mono ?_; rintro e w1 ⟨rfl, hb1⟩)
        | (go_at_call 10; refine (CR.out _ (HE.out.below hb1)).mono ?_; rintro e w2 ⟨⟨v, rfl, hv⟩, hb2⟩; have hv' := Lib.hid hv; obtain ⟨va, vc, rfl⟩ : ∃ a c, v = .slice a ls.length c := (by obtain ⟨ps, h1, h2, h3⟩ := hv; exact own_slice h2)))
      go_loopw [24] (fun i wr => ∃ j : Nat, j ≤ ls.length ∧ i = .int .i64 j ∧ Below w2.heap.size w2 wr) (fun i _ => ls.length - (intOf i).toNat)
      case atStart => exact ⟨0, by omega, rfl, Below.refl _ _⟩
      case round =>
        obtain ⟨j, hj, rfl, hbw⟩ := hrel
        have hln : ls.length ≤ 9223372036854775807 := by obtain ⟨ps, h1, h2, h3⟩ := hv'.out; exact own_len h2
        by_cases hlt : j < ls.length
        · obtain ⟨g, c, e, hc, hg, hcl⟩ := hv'.out.cells (by omega)
          cases e
          obtain ⟨d0, d1, ⟨a, k, d2, ow⟩, d3⟩ := hcl j hlt
          have hgood := HG.out ls[j] (List.getElem_mem hlt)
          have hfew := HF.out.2 ls[j] (List.getElem_mem hlt)
          rw [ba_len] at hfew
          generalize ls[j] = x at *
          have c0 := (hbw.cell (p := ⟨g, j * 4, none⟩) hg).trans d0
          have c1 := (hbw.cell (p := ⟨g, j * 4 + 1, none⟩) hg).trans d1
          have c2 := (hbw.cell (p := ⟨g, j * 4 + 2, none⟩) hg).trans d2
          have c3 := (hbw.cell (p := ⟨g, j * 4 + 3, none⟩) hg).trans d3
          have how := Lib.hid (row_below ow hbw)
          clear hcl d0 d1 d2 d3 ow
          obtain ⟨xm, xi, xw, xt⟩ := x
          obtain ⟨g1, g2⟩ := hgood
          simp only at g1 g2 c0 c1 c2 c3 how hfew
          by_cases hm : xm = 0
          · subst hm
            obtain ⟨⟨y, t, rfl, hy⟩, hx⟩ := g2 rfl
            clear g1 g2
            obtain ⟨_, hkc, gw, rfl, hgw, hcw⟩ := OwnW.cells how.out (by simp)
            have w0 := (hcw 0 (by simp)).2.2
            have e0 : 0 * 3 + 2 = 2 := rfl
            rw [e0] at w0
            simp only [List.getElem_cons_zero] at w0
            have wl := (hcw t.length (by simp)).1
            rw [hy] at w0
            have A0 : ∀ o, (wr.alloc o).cell? ⟨gw, 2, none⟩ = some (.int .i64 xi) := fun o => by rw [← w0]; exact (bnew wr o).cell (p := ⟨gw, 2, none⟩) hgw
            have AL := fun o => ((bnew wr o).cell (p := ⟨gw, t.length * 3, none⟩) hgw).trans wl
            change wr.cell? ⟨g, j * 4, none⟩ = some (.int .i64 0) at c0
            change wr.cell? ⟨g, j * 4 + 2, none⟩ = some (.slice (some ⟨gw, 0, none⟩) (t.length + 1) k) at c2
            change t.length + 1 ≤ k at hkc
            clear hcw w0 wl hv hy
            have htl : t.length + 1 ≤ 9223372036854775807 := own_len how.out
            obtain ⟨L, hL⟩ : ∃ L, t.length + 1 = L := ⟨_, rfl⟩
            have he : t.length = L - 1 := by omega
            rw [hL] at c2 hkc htl
            have hL1 : 1 ≤ L := by omega
            have i1 : (1 : Int) ≤ (L : Int) := by omega
            have i2 : (0 : Int) ≤ (L : Int) - 1 := by omega
            have i3 : ((L : Int) - 1).toNat = L - 1 := by omega
            have i4 : (L : Int) - 1 < (L : Int) := by omega
            have i5 : IntKind.i64.wrap ((L : Int) - 1) = (L : Int) - 1 := IntWalk.i64_in _ (by omega)
            have i6 : ((L : Int) == 0) = false := beq_eq_false_iff_ne.2 (by omega)
            have i7 : 0 < L := by omega
            clear hL how
            by_cases hxt : xt = []
            · subst hxt
              change wr.cell? ⟨g, j * 4 + 3, none⟩ = some (.string ⟨#[]⟩) at c3
              clear AL hfew hx he
              go_wp2
              go_quiet (fail)
              go_wp2
              go_roundw
              case rel => exact ⟨j + 1, by omega, by go_num, bel_drewN (hbw.alloc hbw.size _) _⟩
              case measure => simp [intOf]; omega
            · obtain ⟨hbar, hlast⟩ := hx hxt
              clear hx
              have hk13 := Lx.lastBar_at y t hbar
              rw [hk13, he] at AL
              have cS : Hid (∀ w, Calls Tryz.prog 9 #[.string (str xt), .string ⟨#[10]⟩] w fun e w' => e = .returned (.bool true) ∧ w = w') := fun w => by
                have h0 := suf_any (str xt) ⟨#[10]⟩ w (by rw [Lib.size_eq]; show xt.length ≤ _; omega)
                have e0 : Lib.hasSuffix (str xt).data.toList [10] = true := Lx.suffix_last xt hlast
                rw [show (⟨#[10]⟩ : ByteArray).data.toList = [10] from rfl, e0] at h0
                exact h0
              have hsz : 0 < (str xt).size := by
                rw [Lib.size_eq]
                show 0 < xt.length
                exact List.length_pos_iff.2 hxt
              have bx1 := ba_isEmpty (str xt) hsz
              have bx2 := ba_notnil (str xt) hsz
              clear hbar hlast hk13 hsz hxt hfew he
              go_wp2
              go_quiet (first | (go_at_call 9; exact quiet_add_left (cS.out _)) | (go_at_call 9; exact quiet_same (cS.out _)))
              go_wp2
              go_roundw
              case rel => exact ⟨j + 1, by omega, by go_num, bel_drewN (hbw.alloc hbw.size _) _⟩
              case measure => simp [intOf]; omega
          · obtain ⟨h12, rfl, rfl, rfl⟩ := g1 hm
            clear g1 g2
            change wr.cell? ⟨g, j * 4 + 3, none⟩ = some (.string ⟨#[]⟩) at c3
            rcases h12 with rfl | rfl
            all_goals
              go_wp2
              go_roundw
              case rel => exact ⟨j + 1, by omega, by go_num, hbw.alloc hbw.size _⟩
              case measure => simp [intOf]; omega
        · have hje : j = ls.length := by omega
          subst hje
          go_wp2
          go_ret
          exact ⟨rfl, bthen (bthen hb1 hb2) hbw⟩
end Go.Proofs.YtmhakkahclbbjaaGreatDoor
