/-
  THE CONTRACT of lines.Read.
-/
import Derived.Test.YtjcfmghijfnehaaGreatDoorLs
namespace Go.Proofs.YtjcfmghijfnehaaGreatDoor
open Go.RowKit

/-- Read's answer as Go gives it -/
def ReadR (B : Nat) : Except Nat (List Lx.Ln) → Ending → World → Prop
  | .ok ls, e, w' => ∃ v, e = .returned (.tuple #[v, .int .i64 0]) ∧ OwnL w' B v ls
  | .error n, e, _ => e = .returned (.tuple #[.slice none 0 0, .int .i64 n])
def lenV : Value → Nat
  | .slice _ n _ => n
  | _ => 0

theorem own_ne_pieces {w : World} {B n g : Nat} {v : Value} {xs : List Value} {ps : List ByteArray} (h : w.ownsRow B 76 4 v n xs) (hp : PiecesAt w g ps) : v.ownBlock ≠ some g := by
  intro hv
  rcases h.2 with ⟨rfl, _⟩ | ⟨k, cap, cur, rfl, _, hh, _⟩
  · cases hv
  · have e : k = g := by simpa [Value.ownBlock] using hv
    subst e
    unfold PiecesAt at hp
    rw [hh] at hp
    cases hp
theorem OwnL.ne_pieces {w : World} {B g : Nat} {v : Value} {ls : List Lx.Ln} {ps : List ByteArray} (h : OwnL w B v ls) (hp : PiecesAt w g ps) : v.ownBlock ≠ some g := by
  obtain ⟨_, _, h2, _⟩ := h
  exact own_ne_pieces h2 hp
theorem PiecesAt.lt {w : World} {g : Nat} {ps : List ByteArray} (h : PiecesAt w g ps) : g < w.heap.size := (Array.getElem?_eq_some_iff.1 h).1
theorem blk_below {w w' : World} {b : Nat} {o : Obj} (h : w.heap[b]? = some o) (hb : Below w.heap.size w w') : w'.heap[b]? = some o := (hb.block b (Array.getElem?_eq_some_iff.1 h).1).trans h

theorem blk_set {w : World} {b : Nat} {c : Array Value} {t : TypeId} {fr : Nat × Nat} (h : w.heap[b]? = some (.cells c t fr)) (i : Nat) (v : Value) : (w.setCell ⟨b, i, none⟩ v).heap[b]? = some (.cells (c.setIfInBounds i v) t fr) := by
  unfold World.setCell
  simp only
  rw [Array.getElem?_modify, if_pos rfl, h]
  simp

set_option maxHeartbeats 4000000 in
set_option maxRecDepth 100000 in
theorem readLoop (s : ByteArray) (w : World) (hs : s.size ≤ 50000) (hE : Env w) :
    Calls Tryz.prog 26 #[.string s] w fun e w' => ReadR w.heap.size (Lx.read s.data.toList) e w' ∧ Below w.heap.size w w' := by
  have cP := pieces_any s w (by omega) hE
  obtain ⟨ANS, hANS⟩ : ∃ ANS, Lx.read s.data.toList = ANS := ⟨_, rfl⟩
  rw [hANS]
  have hpl := Lx.pieces_len s.data.toList
  have hpsh := Lx.pieces_short s.data.toList
  rw [ba_len] at hpl hpsh
  have HA : Hid (Lx.joinL [] (Lx.readGo (Lx.pieces s.data.toList).length (Lx.pieces s.data.toList)) = ANS) := by
    show _ = ANS
    rw [← hANS]; unfold Lx.read; cases Lx.readGo (Lx.pieces s.data.toList).length (Lx.pieces s.data.toList) <;> rfl
  have CP := Lib.hid cP
  have HE := Lib.hid hE
  clear cP hANS hE
  go_enter Tryz.func26, Tryz.ntmps26
  go_wp2_with (go_at_call 53; refine CP.out.mono ?_; rintro e w1 ⟨ps, hps, rfl, hpa, hb1⟩)
  rw [← hps] at hpl HA
  rw [← hps] at hpsh
  rw [byts_len] at hpl HA
  have HSH : Hid (∀ p ∈ ps, p.size ≤ 50000) := fun p hp => by
    have := hpsh p.data.toList (List.mem_map.2 ⟨p, hp, rfl⟩)
    rw [ba_len] at this; omega
  clear CP hps hpsh
  go_loopw [4, 5] (fun lv pv wr => ∃ (o n : Nat) (a : Option Addr) (acc : List Lx.Ln), o ≤ ps.length ∧ ps.length ≤ o + n ∧ pv = .slice a (ps.length - o) (ps.length - o) ∧ (o < ps.length → a = some ⟨w.heap.size, o, none⟩) ∧ OwnL wr w.heap.size lv acc ∧ PiecesAt wr w.heap.size ps ∧ Below w.heap.size w wr ∧ acc.length ≤ o ∧ Hid (Lx.joinL acc (Lx.readGo n ((byts ps).drop o)) = ANS)) (fun _ pv _ => lenV pv)
  case atStart => exact ⟨0, ps.length, _, [], by omega, by omega, rfl, fun _ => rfl, ownL_nil _ _, hpa, hb1, by simp, HA⟩
  case round =>
    obtain ⟨o, n, a, acc, ho, hn, rfl, ha, hown, hpw, hbw, hal, HK⟩ := hrel
    clear HA hpa hb1
    have hBr := hbw.size
    by_cases hlt : o < ps.length
    · obtain rfl := ha hlt
      obtain ⟨m, rfl⟩ : ∃ m, n = m + 1 := ⟨n - 1, by omega⟩
      obtain ⟨L, hL⟩ : ∃ L, ps.length - o = L + 1 := ⟨ps.length - o - 1, by omega⟩
      rw [hL]
      have hd := byts_drop ps o hlt
      have hp5 := HSH.out ps[o] (List.getElem_mem hlt)
      have hcell : wr.cell? ⟨w.heap.size, o, none⟩ = some (.string ps[o]) := cell_blk hpw o _ (by simp [hlt])
      obtain ⟨p, hp⟩ : ∃ p, ps[o] = p := ⟨_, rfl⟩
      rw [hp] at hd hp5 hcell
      clear hp
      have hEr : Env wr := HE.out.below hbw
      have cL := lineOf_any p wr hp5 hEr
      have hK := HK.out
      rw [hd] at hK
      unfold Lx.readGo at hK
      clear HK hd
      cases hx : Lx.lineOf p.data.toList with
      | error e =>
        rw [hx] at cL hK
        have he := Lx.lineOf_err _ _ hx
        have hA : ANS = .error e := by rw [← hK]; rfl
        subst hA
        have be : ((e : Int) != 0) = true := bne_iff_ne.2 (by omega)
        have CL := Lib.hid cL
        clear cL hK hx hEr
        go_wp2_with (go_at_call 54; refine CL.out.mono ?_; rintro e w2 ⟨hr, hb2⟩; obtain rfl := hr)
        go_ret2
        exact ⟨rfl, hbw.trans ((bthen hb2 (bnew w2 _)).mono hBr)⟩
      | ok x =>
        rw [hx] at cL hK
        obtain ⟨hxt, hxi⟩ := Lx.lineOf_text _ _ hx
        rw [ba_len] at hxi
        have CL := Lib.hid cL
        clear cL hx
        simp only at hK
        obtain ⟨xm, xi, xw, xt⟩ := x
        simp only at hxt hxi hK
        subst hxt
        by_cases hbar : Lx.lastBar xw = true
        · rw [if_pos hbar] at hK
          have hsay : (decide (xm ≠ 0) || !xw.isEmpty) = true := by rw [Lx.lastBar_says ⟨xm, xi, xw, []⟩ hbar]; simp
          obtain ⟨rem, hrem⟩ : ∃ rem, rem = ps.drop (o + 1) := ⟨_, rfl⟩
          have hrl : rem.length = L := by rw [hrem, List.length_drop]; omega
          have hbr : (byts ps).drop (o + 1) = byts rem := by rw [hrem]; unfold byts; rw [List.map_drop]
          rw [hbr] at hK
          have hshr : Short rem := fun q hq => by
            have := HSH.out q (List.mem_of_mem_drop (by rw [hrem] at hq; exact hq)); omega
          have hZ := Lx.textSize_le xi (byts rem)
          rw [byts_len, hrl] at hZ
          have cT := fun W a (hr : RdS W W.heap.size a rem) => textSize_any a L W.heap.size xi rem W hr hshr (by omega)
          rw [hrl] at cT
          have hbt : (byts rem).drop (Lx.textSize xi (byts rem)) = (byts ps).drop (o + 1 + Lx.textSize xi (byts rem)) := by rw [← hbr, List.drop_drop]
          rw [hbt] at hK
          have htl : (rem.take (Lx.textSize xi (byts rem))).length = Lx.textSize xi (byts rem) := by rw [List.length_take]; omega
          have cX := fun W a (hr : RdS W W.heap.size a rem) (hE : Env W) => text_any a L (rem.take (Lx.textSize xi (byts rem))) W (hr.take _) (hshr.take _) (by omega) hE (by omega)
          rw [htl, byts_take] at cX
          clear hbt hbr htl hEr
          have HO := Lib.hid hown
          have HPW := Lib.hid hpw
          have CT := Lib.hid cT
          cases hy : Lx.textOf ((byts rem).take (Lx.textSize xi (byts rem))) with
          | error f =>
            have hf : f ≠ 0 := Lx.textGo_err _ _ _ (by unfold Lx.textOf at hy; exact hy)
            rw [hy] at hK cX
            have hA : ANS = .error f := by rw [← hK]; rfl
            subst hA
            have bf : ((f : Int) != 0) = true := bne_iff_ne.2 (by omega)
            unfold txtE at cX
            have CX := Lib.hid cX
            clear hK hy cX cT hown hpw
            generalize Lx.textSize xi (byts rem) = Z at *
            rcases Nat.eq_zero_or_pos L with hL0 | hL0
            · subst hL0
              have HRD : Hid (∀ W, PiecesAt W w.heap.size ps → RdS W W.heap.size (some ⟨w.heap.size, o, none⟩) rem) := fun W _ h0 => by omega
              obtain rfl : Z = 0 := by omega
              go_wp2_with (first
                | (go_at_call 54; refine CL.out.mono ?_; rintro e w2 ⟨⟨v, rfl, hv⟩, hb2⟩; obtain ⟨va, vc, rfl⟩ := own_slice hv; have cH := Lib.hid (hasBar_any xm xi _ (str []) xw _ _ (row_below hv (bnew w2 (.cells #[.int .i64 xm, .int .i64 xi, .slice va xw.length vc, .string (str [])] 76)))); rw [hbar] at cH)
                | (go_at_call 55; refine cH.out.mono ?_; rintro e w3 ⟨rfl, hb3⟩; have hk3 := blk_kept hb3 (Below.refl _ _); have c0 := cell_blk hk3 0 (.int .i64 xm) rfl; have c1 := cell_blk hk3 1 (.int .i64 xi) rfl; have c2 := cell_blk hk3 2 (.slice va xw.length vc) rfl; have c3 := cell_blk hk3 3 (.string (str [])) rfl; have HK3 := Lib.hid hk3; have hall3 : Below wr.heap.size wr w3 := bthen (bthen hb2 (bnew w2 _)) hb3; clear hk3)
                | (go_at_call 56; refine (CT.out _ _ (HRD.out _ (HPW.out.below hall3))).mono ?_; rintro e w' ⟨rfl, rfl⟩)
                | (go_at_call 57; refine (CX.out _ _ (HRD.out _ (HPW.out.below hall3)) (HE.out.below (hbw.trans (hall3.mono hBr)))).mono ?_; rintro e w4 ⟨rfl, hb4⟩; clear c0 c1 c2 c3; have hk4 := blk_below HK3.out hb4; have c0 := cell_blk hk4 0 (.int .i64 xm) rfl; have c1 := cell_blk hk4 1 (.int .i64 xi) rfl; have c2 := cell_blk hk4 2 (.slice va xw.length vc) rfl; have c3 := cell_blk hk4 3 (.string (str [])) rfl; have f3 := frozen_blk hk4 3; have hall4 : Below wr.heap.size wr w4 := bthen hall3 hb4; have HK4 := Lib.hid hk4; clear hk4))
              go_ret2
              exact ⟨rfl, hbw.trans ((hall4.setCell (p := ⟨w2.heap.size, 3, none⟩) hb2.size _).mono hBr)⟩
            · have hLn : ¬ L = 0 := by omega
              have HRD : Hid (∀ W, PiecesAt W w.heap.size ps → RdS W W.heap.size (some ⟨w.heap.size, o + 1, none⟩) rem) := fun W h => by rw [hrem]; exact h.rd (o + 1)
              go_wp2_with (first
                | (go_at_call 54; refine CL.out.mono ?_; rintro e w2 ⟨⟨v, rfl, hv⟩, hb2⟩; obtain ⟨va, vc, rfl⟩ := own_slice hv; have cH := Lib.hid (hasBar_any xm xi _ (str []) xw _ _ (row_below hv (bnew w2 (.cells #[.int .i64 xm, .int .i64 xi, .slice va xw.length vc, .string (str [])] 76)))); rw [hbar] at cH)
                | (go_at_call 55; refine cH.out.mono ?_; rintro e w3 ⟨rfl, hb3⟩; have hk3 := blk_kept hb3 (Below.refl _ _); have c0 := cell_blk hk3 0 (.int .i64 xm) rfl; have c1 := cell_blk hk3 1 (.int .i64 xi) rfl; have c2 := cell_blk hk3 2 (.slice va xw.length vc) rfl; have c3 := cell_blk hk3 3 (.string (str [])) rfl; have HK3 := Lib.hid hk3; have hall3 : Below wr.heap.size wr w3 := bthen (bthen hb2 (bnew w2 _)) hb3; clear hk3)
                | (go_at_call 56; refine (CT.out _ _ (HRD.out _ (HPW.out.below hall3))).mono ?_; rintro e w' ⟨rfl, rfl⟩)
                | (go_at_call 57; refine (CX.out _ _ (HRD.out _ (HPW.out.below hall3)) (HE.out.below (hbw.trans (hall3.mono hBr)))).mono ?_; rintro e w4 ⟨rfl, hb4⟩; clear c0 c1 c2 c3; have hk4 := blk_below HK3.out hb4; have c0 := cell_blk hk4 0 (.int .i64 xm) rfl; have c1 := cell_blk hk4 1 (.int .i64 xi) rfl; have c2 := cell_blk hk4 2 (.slice va xw.length vc) rfl; have c3 := cell_blk hk4 3 (.string (str [])) rfl; have f3 := frozen_blk hk4 3; have hall4 : Below wr.heap.size wr w4 := bthen hall3 hb4; have HK4 := Lib.hid hk4; clear hk4))
              go_ret2
              exact ⟨rfl, hbw.trans ((hall4.setCell (p := ⟨w2.heap.size, 3, none⟩) hb2.size _).mono hBr)⟩
          | ok y =>
            rw [hy] at hK cX
            simp only at hK
            rw [Lx.joinL_cons] at hK
            have HN := Lib.hid hK
            unfold txtE at cX
            have CX := Lib.hid cX
            clear hK hy cX cT hown hpw
            generalize Lx.textSize xi (byts rem) = Z at *
            rcases Nat.eq_zero_or_pos L with hL0 | hL0
            · subst hL0
              have HRD : Hid (∀ W, PiecesAt W w.heap.size ps → RdS W W.heap.size (some ⟨w.heap.size, o, none⟩) rem) := fun W _ h0 => by omega
              obtain rfl : Z = 0 := by omega
              go_wp2_with (first
                | (go_at_call 54; refine CL.out.mono ?_; rintro e w2 ⟨⟨v, rfl, hv⟩, hb2⟩; obtain ⟨va, vc, rfl⟩ := own_slice hv; have cH := Lib.hid (hasBar_any xm xi _ (str []) xw _ _ (row_below hv (bnew w2 (.cells #[.int .i64 xm, .int .i64 xi, .slice va xw.length vc, .string (str [])] 76)))); rw [hbar] at cH)
                | (go_at_call 55; refine cH.out.mono ?_; rintro e w3 ⟨rfl, hb3⟩; have hk3 := blk_kept hb3 (Below.refl _ _); have c0 := cell_blk hk3 0 (.int .i64 xm) rfl; have c1 := cell_blk hk3 1 (.int .i64 xi) rfl; have c2 := cell_blk hk3 2 (.slice va xw.length vc) rfl; have c3 := cell_blk hk3 3 (.string (str [])) rfl; have HK3 := Lib.hid hk3; have hall3 : Below wr.heap.size wr w3 := bthen (bthen hb2 (bnew w2 _)) hb3; clear hk3)
                | (go_at_call 56; refine (CT.out _ _ (HRD.out _ (HPW.out.below hall3))).mono ?_; rintro e w' ⟨rfl, rfl⟩)
                | (go_at_call 57; refine (CX.out _ _ (HRD.out _ (HPW.out.below hall3)) (HE.out.below (hbw.trans (hall3.mono hBr)))).mono ?_; rintro e w4 ⟨rfl, hb4⟩; clear c0 c1 c2 c3; have hk4 := blk_below HK3.out hb4; have c0 := cell_blk hk4 0 (.int .i64 xm) rfl; have c1 := cell_blk hk4 1 (.int .i64 xi) rfl; have c2 := cell_blk hk4 2 (.slice va xw.length vc) rfl; have c3 := cell_blk hk4 3 (.string (str [])) rfl; have f3 := frozen_blk hk4 3; have hall4 : Below wr.heap.size wr w4 := bthen hall3 hb4; have HK4 := Lib.hid hk4; clear hk4)
                | (go_at_call 58; have hv4 := row_below (row_below (row_below hv (bnew w2 _)) hb3) hb4; have hvs := row_setCell hv4 ⟨w2.heap.size, 3, none⟩ (.string (str y)) (fun e => Nat.lt_irrefl _ (World.ownsRow.lt hv _ e).2); refine (says_any xm xi _ (str y) xw _ _ hvs).mono ?_; rw [hsay]; rintro e w5 ⟨rfl, hb5⟩; clear c0 c1 c2 c3; have hk5 := blk_below (blk_set HK4.out 3 (.string (str y))) hb5; have c0 := cell_blk hk5 0 (.int .i64 xm) rfl; have c1 := cell_blk hk5 1 (.int .i64 xi) rfl; have c2 := cell_blk hk5 2 (.slice va xw.length vc) rfl; have c3 := cell_blk hk5 3 (.string (str y)) rfl; clear hk5; have hall5 : Below wr.heap.size wr w5 := (hall4.setCell (p := ⟨w2.heap.size, 3, none⟩) hb2.size _).trans (hb5.mono (hall4.setCell (p := ⟨w2.heap.size, 3, none⟩) hb2.size _).size); have hv5 := row_below hvs hb5)
                | (at_builtin; refine wpList_pushL rfl (.tmp 48) (.tmp 50) rfl w.heap.size _ acc ⟨xm, xi, xw, y⟩ (.slice va xw.length vc) w5 _ _ rfl _ rfl rfl rfl (HO.out.below hall5) (row_base hv5 hBr) (by omega) (by have := hall5.size; omega) ?_; intro v' w6 ho6 hk6 hB6 hkeep))
              go_roundw
              case rel =>
                have hp6 : PiecesAt w6 w.heap.size ps := (hkeep _ (HPW.out.below hall5).lt (HO.out.ne_pieces HPW.out)).trans (HPW.out.below hall5)
                exact ⟨o + 1, m, _, acc ++ [⟨xm, xi, xw, y⟩], by omega, by omega, by rw [show ps.length - (o + 1) = 0 by omega], fun h => by omega, ho6, hp6, (hbw.trans (hall5.mono hBr)).trans hk6, by simp; omega, HN⟩
              case measure => simp [lenV]
            · have hLn : ¬ L = 0 := by omega
              have HRD : Hid (∀ W, PiecesAt W w.heap.size ps → RdS W W.heap.size (some ⟨w.heap.size, o + 1, none⟩) rem) := fun W h => by rw [hrem]; exact h.rd (o + 1)
              go_wp2_with (first
                | (go_at_call 54; refine CL.out.mono ?_; rintro e w2 ⟨⟨v, rfl, hv⟩, hb2⟩; obtain ⟨va, vc, rfl⟩ := own_slice hv; have cH := Lib.hid (hasBar_any xm xi _ (str []) xw _ _ (row_below hv (bnew w2 (.cells #[.int .i64 xm, .int .i64 xi, .slice va xw.length vc, .string (str [])] 76)))); rw [hbar] at cH)
                | (go_at_call 55; refine cH.out.mono ?_; rintro e w3 ⟨rfl, hb3⟩; have hk3 := blk_kept hb3 (Below.refl _ _); have c0 := cell_blk hk3 0 (.int .i64 xm) rfl; have c1 := cell_blk hk3 1 (.int .i64 xi) rfl; have c2 := cell_blk hk3 2 (.slice va xw.length vc) rfl; have c3 := cell_blk hk3 3 (.string (str [])) rfl; have HK3 := Lib.hid hk3; have hall3 : Below wr.heap.size wr w3 := bthen (bthen hb2 (bnew w2 _)) hb3; clear hk3)
                | (go_at_call 56; refine (CT.out _ _ (HRD.out _ (HPW.out.below hall3))).mono ?_; rintro e w' ⟨rfl, rfl⟩)
                | (go_at_call 57; refine (CX.out _ _ (HRD.out _ (HPW.out.below hall3)) (HE.out.below (hbw.trans (hall3.mono hBr)))).mono ?_; rintro e w4 ⟨rfl, hb4⟩; clear c0 c1 c2 c3; have hk4 := blk_below HK3.out hb4; have c0 := cell_blk hk4 0 (.int .i64 xm) rfl; have c1 := cell_blk hk4 1 (.int .i64 xi) rfl; have c2 := cell_blk hk4 2 (.slice va xw.length vc) rfl; have c3 := cell_blk hk4 3 (.string (str [])) rfl; have f3 := frozen_blk hk4 3; have hall4 : Below wr.heap.size wr w4 := bthen hall3 hb4; have HK4 := Lib.hid hk4; clear hk4)
                | (go_at_call 58; have hv4 := row_below (row_below (row_below hv (bnew w2 _)) hb3) hb4; have hvs := row_setCell hv4 ⟨w2.heap.size, 3, none⟩ (.string (str y)) (fun e => Nat.lt_irrefl _ (World.ownsRow.lt hv _ e).2); refine (says_any xm xi _ (str y) xw _ _ hvs).mono ?_; rw [hsay]; rintro e w5 ⟨rfl, hb5⟩; clear c0 c1 c2 c3; have hk5 := blk_below (blk_set HK4.out 3 (.string (str y))) hb5; have c0 := cell_blk hk5 0 (.int .i64 xm) rfl; have c1 := cell_blk hk5 1 (.int .i64 xi) rfl; have c2 := cell_blk hk5 2 (.slice va xw.length vc) rfl; have c3 := cell_blk hk5 3 (.string (str y)) rfl; clear hk5; have hall5 : Below wr.heap.size wr w5 := (hall4.setCell (p := ⟨w2.heap.size, 3, none⟩) hb2.size _).trans (hb5.mono (hall4.setCell (p := ⟨w2.heap.size, 3, none⟩) hb2.size _).size); have hv5 := row_below hvs hb5)
                | (at_builtin; refine wpList_pushL rfl (.tmp 48) (.tmp 50) rfl w.heap.size _ acc ⟨xm, xi, xw, y⟩ (.slice va xw.length vc) w5 _ _ rfl _ rfl rfl rfl (HO.out.below hall5) (row_base hv5 hBr) (by omega) (by have := hall5.size; omega) ?_; intro v' w6 ho6 hk6 hB6 hkeep))
              go_roundw
              case rel =>
                have hp6 : PiecesAt w6 w.heap.size ps := (hkeep _ (HPW.out.below hall5).lt (HO.out.ne_pieces HPW.out)).trans (HPW.out.below hall5)
                exact ⟨o + 1 + Z, m, _, acc ++ [⟨xm, xi, xw, y⟩], by omega, by omega, by rw [show ps.length - (o + 1 + Z) = L - Z by omega], fun h => if_neg (by omega), ho6, hp6, (hbw.trans (hall5.mono hBr)).trans hk6, by simp; omega, HN⟩
              case measure => simp [lenV]; omega
        · rw [if_neg hbar] at hK
          have hbar' : Lx.lastBar xw = false := Bool.eq_false_iff.2 hbar
          clear hbar
          have hsv : Lx.says ⟨xm, xi, xw, []⟩ = (decide (xm ≠ 0) || !xw.isEmpty) := rfl
          rw [hsv] at hK
          clear hsv hEr
          cases hsay : (decide (xm ≠ 0) || !xw.isEmpty)
          · rw [hsay, if_neg (by decide)] at hK
            have HN := Lib.hid hK
            clear hK
            have HO := Lib.hid hown
            have HPW := Lib.hid hpw
            clear hown hpw
            go_wp2_with (first
              | (go_at_call 54; refine CL.out.mono ?_; rintro e w2 ⟨⟨v, rfl, hv⟩, hb2⟩; obtain ⟨va, vc, rfl⟩ := own_slice hv; have cH := Lib.hid (hasBar_any xm xi _ (str []) xw _ _ (row_below hv (bnew w2 (.cells #[.int .i64 xm, .int .i64 xi, .slice va xw.length vc, .string (str [])] 76)))); rw [hbar'] at cH)
              | (go_at_call 55; refine cH.out.mono ?_; rintro e w3 ⟨rfl, hb3⟩; have hk3 := blk_kept hb3 (Below.refl _ _); have c0 := cell_blk hk3 0 (.int .i64 xm) rfl; have c1 := cell_blk hk3 1 (.int .i64 xi) rfl; have c2 := cell_blk hk3 2 (.slice va xw.length vc) rfl; have c3 := cell_blk hk3 3 (.string (str [])) rfl; have cS := Lib.hid (says_any xm xi _ (str []) xw _ w3 (row_below (row_below hv (bnew w2 _)) hb3)); rw [hsay] at cS; clear hk3)
              | (go_at_call 58; refine cS.out.mono ?_; rintro e w4 ⟨rfl, hb4⟩))
            go_roundw
            case rel =>
              have hall : Below wr.heap.size wr w4 := bthen (bthen (bthen hb2 (bnew w2 _)) hb3) hb4
              exact ⟨o + 1, m, _, acc, by omega, by omega, by rw [show ps.length - (o + 1) = L by omega], fun h => if_neg (by omega), HO.out.below hall, HPW.out.below hall, hbw.trans (hall.mono hBr), by omega, HN⟩
            case measure => simp [lenV]
          · rw [hsay, if_pos rfl, Lx.joinL_cons] at hK
            have HN := Lib.hid hK
            clear hK
            have HO := Lib.hid hown
            have HPW := Lib.hid hpw
            clear hown hpw
            go_wp2_with (first
              | (go_at_call 54; refine CL.out.mono ?_; rintro e w2 ⟨⟨v, rfl, hv⟩, hb2⟩; obtain ⟨va, vc, rfl⟩ := own_slice hv; have cH := Lib.hid (hasBar_any xm xi _ (str []) xw _ _ (row_below hv (bnew w2 (.cells #[.int .i64 xm, .int .i64 xi, .slice va xw.length vc, .string (str [])] 76)))); rw [hbar'] at cH)
              | (go_at_call 55; refine cH.out.mono ?_; rintro e w3 ⟨rfl, hb3⟩; have hk3 := blk_kept hb3 (Below.refl _ _); have c0 := cell_blk hk3 0 (.int .i64 xm) rfl; have c1 := cell_blk hk3 1 (.int .i64 xi) rfl; have c2 := cell_blk hk3 2 (.slice va xw.length vc) rfl; have c3 := cell_blk hk3 3 (.string (str [])) rfl; have cS := Lib.hid (says_any xm xi _ (str []) xw _ w3 (row_below (row_below hv (bnew w2 _)) hb3)); rw [hsay] at cS; have HK3 := Lib.hid hk3; clear hk3)
              | (go_at_call 58; refine cS.out.mono ?_; rintro e w4 ⟨rfl, hb4⟩; clear c0 c1 c2 c3; have hk4 := blk_below HK3.out hb4; have c0 := cell_blk hk4 0 (.int .i64 xm) rfl; have c1 := cell_blk hk4 1 (.int .i64 xi) rfl; have c2 := cell_blk hk4 2 (.slice va xw.length vc) rfl; have c3 := cell_blk hk4 3 (.string (str [])) rfl; clear hk4)
              | (at_builtin; have hall : Below wr.heap.size wr w4 := bthen (bthen (bthen hb2 (bnew w2 _)) hb3) hb4; refine wpList_pushL rfl (.tmp 48) (.tmp 50) rfl w.heap.size _ acc ⟨xm, xi, xw, []⟩ (.slice va xw.length vc) w4 _ _ rfl _ rfl rfl rfl (HO.out.below hall) (row_base (row_below (row_below (row_below hv (bnew w2 _)) hb3) hb4) hBr) (by omega) (by have := hall.size; omega) ?_; intro v' w5 ho5 hk5 hB5 hkeep))
            go_roundw
            case rel =>
              have hp5 : PiecesAt w5 w.heap.size ps := (hkeep _ (HPW.out.below hall).lt (HO.out.ne_pieces HPW.out)).trans (HPW.out.below hall)
              exact ⟨o + 1, m, _, acc ++ [⟨xm, xi, xw, []⟩], by omega, by omega, by rw [show ps.length - (o + 1) = L by omega], fun h => if_neg (by omega), ho5, hp5, (hbw.trans (hall.mono hBr)).trans hk5, by simp; omega, HN⟩
            case measure => simp [lenV]
    · have hA : ANS = .ok acc := by
        rw [← HK.out, byts_nil ps o (by omega)]
        cases n <;> simp [Lx.readGo, Lx.joinL]
      subst hA
      have h0 : ps.length - o = 0 := by omega
      rw [h0]
      clear HK
      go_wp2
      go_ret2
      exact ⟨⟨_, rfl, hown⟩, hbw⟩
end Go.Proofs.YtjcfmghijfnehaaGreatDoor
