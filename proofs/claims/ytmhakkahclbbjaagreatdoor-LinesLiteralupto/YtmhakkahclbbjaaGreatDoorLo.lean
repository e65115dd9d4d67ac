/-
  THE CONTRACT of lines.textOf.
-/
import Derived.Test.YtmhakkahclbbjaaGreatDoorLm
namespace Go.Proofs.YtmhakkahclbbjaaGreatDoor
open Go.RowKit

theorem byts_take (ps : List ByteArray) (k : Nat) : byts (ps.take k) = (byts ps).take k := by unfold byts; rw [List.map_take]

set_option maxHeartbeats 4000000 in
set_option maxRecDepth 100000 in
theorem textLoop (a : Option Addr) (cap off : Nat) (ps qs : List ByteArray) (w : World) (hr : RdS w w.heap.size a qs) (hsh : Short qs) (hn : qs.length ≤ 1000000) (hE : Env w) (hcap : qs.length ≤ cap)
    (hq : qs = ps.take qs.length) (hps : ps.length ≤ 1000000) (hrp : RdS w w.heap.size a ps) (hshp : Short ps)
    (hwt : Lx.withoutTail (byts ps) = qs.length) (hoff : Lx.firstIndent (byts qs) = off) :
    Calls Tryz.prog 24 #[.slice a ps.length cap] w fun e w' => e = txtE (Lx.textGo off (byts qs)) ∧ Below w.heap.size w w' := by
  have cT := Lib.hid (tail_any a cap w.heap.size ps w hrp hshp hps)
  rw [hwt] at cT
  have cF := Lib.hid (fun c => firstIndent_any a c w.heap.size qs w hr hsh hn)
  rw [hoff] at cF
  have hql : qs.length ≤ ps.length := by rw [hq, List.length_take]; omega
  clear hwt hoff hrp hshp hq
  obtain ⟨ANS, hANS⟩ : ∃ ANS, Lx.textGo off (byts qs) = ANS := ⟨_, rfl⟩
  rw [hANS]
  have HA : Hid (Lx.joinT [] (Lx.textGo off ((byts qs).drop 0)) = ANS) := by
    show _ = ANS
    rw [List.drop_zero, hANS]; cases ANS <;> rfl
  have HR := Lib.hid hr
  have HS := Lib.hid hsh
  have HE := Lib.hid hE
  clear hANS hr hsh hE
  go_enter Tryz.func24, Tryz.ntmps24
  go_wp2_with (first
    | (go_at_call 45; refine cT.out.mono ?_; rintro e w' ⟨rfl, rfl⟩)
    | (go_at_call 46; refine (cF.out _).mono ?_; rintro e w' ⟨rfl, rfl⟩))
  clear cT cF
  go_loopw [16] (fun i wr => ∃ (j : Nat) (acc : List UInt8), j ≤ qs.length ∧ i = .int .i64 j ∧ Lib.IsBuilder 60 5 w.heap.size w.heap.size (Lib.byteCells acc) wr ∧ Below w.heap.size w wr ∧ acc.length ≤ j * 1000001 ∧ Hid (Lx.joinT acc (Lx.textGo off ((byts qs).drop j)) = ANS)) (fun i _ => qs.length - (intOf i).toNat)
  case atStart => exact ⟨0, [], by omega, rfl, Lib.fresh_isBuilder _ _ w, bnew w _, by simp, HA⟩
  case round =>
    obtain ⟨j, acc, hj, rfl, hbd, hbw, hal, HK⟩ := hrel
    clear HA
    have hBr := hbw.size
    by_cases hlt : j < qs.length
    · obtain ⟨g, o, rfl, hg, hc⟩ := HR.out (by omega)
      have hcj : wr.cell? ⟨g, o + j, none⟩ = some (.string qs[j]) := (hbw.cell (p := ⟨g, o + j, none⟩) hg).trans (hc j hlt)
      have hd := byts_drop qs j hlt
      have hps := HS.out.at j hlt
      obtain ⟨p, hp⟩ : ∃ p, qs[j] = p := ⟨_, rfl⟩
      rw [hp] at hcj hd hps
      have hEr : Env wr := HE.out.below hbw
      have cR := right_any p wr hps hEr
      clear hc hp hEr
      have hK := HK.out
      rw [hd] at hK
      unfold Lx.textGo at hK
      clear HK hd
      have cB := Lib.hid (fun w => blank_any p w (by omega))
      have cI := Lib.hid (fun w => indent_any p w (by omega))
      have hbl := Lx.blanks_le p.data.toList
      rw [ba_len] at hbl
      cases hR : Lx.right p.data.toList
      · rw [hR] at cR hK
        have hA : ANS = .error 5 := by rw [← hK]; rfl
        subst hA
        have CR := Lib.hid cR
        clear cR hK hR cB cI
        go_wp2_with (go_at_call 47; refine CR.out.mono ?_; rintro e w1 ⟨rfl, hb1⟩)
        go_ret2
        exact ⟨rfl, hbw.trans (hb1.mono hBr)⟩
      · rw [hR] at cR hK
        have CR := Lib.hid cR
        clear cR hR
        rw [if_neg (by decide)] at hK
        cases hX : Lx.blank p.data.toList
        · rw [hX] at hK cB
          rw [if_neg (by decide)] at hK
          clear hX
          generalize Lx.blanks p.data.toList = Y at *
          by_cases hY : Y < off
          · rw [if_pos hY] at hK
            have hA : ANS = .error 9 := by rw [← hK]; rfl
            subst hA
            have b1 : decide (Y < off) = true := decide_eq_true hY
            clear hK
            go_wp2_with (first
              | (go_at_call 47; refine CR.out.mono ?_; rintro e w1 ⟨rfl, hb1⟩)
              | (go_at_call 44; refine (cB.out _).mono ?_; rintro e w' ⟨rfl, rfl⟩)
              | (go_at_call 18; refine (cI.out _).mono ?_; rintro e w' ⟨rfl, rfl⟩))
            go_ret2
            exact ⟨rfl, hbw.trans (hb1.mono hBr)⟩
          · rw [if_neg hY] at hK
            have hK := (Lx.joinT_text acc (p.data.toList.drop off) (Lx.textGo off ((byts qs).drop (j + 1)))).symm.trans hK
            have b1 : decide (Y < off) = false := decide_eq_false hY
            have HN := Lib.hid hK
            have hed : (p.extract off p.size).data.toList = p.data.toList.drop off := Lib.extract_to_end p off
            have hes : (p.extract off p.size).size ≤ 1000000 := by rw [Lib.size_eq, hed, List.length_drop, ← Lib.size_eq]; omega
            clear hK
            have hlen1 : (Lib.byteCells acc).length = acc.length := Lib.byteCells_length acc
            have hjb : acc.length ≤ 1000001000000 := by
              have : j * 1000001 ≤ 1000000 * 1000001 := Nat.mul_le_mul_right _ (by omega)
              omega
            obtain ⟨q, hq⟩ : ∃ q, p.extract off p.size = q := ⟨_, rfl⟩
            rw [hq] at hed hes
            have hcells : Lib.byteCells acc ++ Lib.strCells q = Lib.byteCells (acc ++ p.data.toList.drop off) := by rw [Lib.byteCells_append, ← hed]; rfl
            have hcells2 : Lib.byteCells (acc ++ p.data.toList.drop off) ++ [.int .u8 10] = Lib.byteCells ((acc ++ p.data.toList.drop off) ++ [10]) := by rw [Lib.byteCells_append (acc ++ p.data.toList.drop off) [10]]; rfl
            have hln : (acc ++ p.data.toList.drop off).length ≤ acc.length + 1000000 := by
              rw [List.length_append, ← hed, ← Lib.size_eq]; omega
            have CW1 := Lib.hid (fun w1 (hb1 : Below wr.heap.size wr w1) => Tryz.Builder_WriteString w.heap.size w.heap.size (Lib.byteCells acc) q w1 (bld_below hbd hb1) (by rw [hlen1]; omega) (by have := hb1.size; omega))
            rw [hcells] at CW1
            have CW2 := Lib.hid (fun w2 (hb2 : Lib.BuilderAt 60 5 w.heap.size w.heap.size (.pointer (some ⟨w.heap.size, 0, none⟩)) (Lib.byteCells (acc ++ p.data.toList.drop off)) w2) (hs2 : w.heap.size ≤ w2.heap.size) => Tryz.Builder_WriteByte w.heap.size w.heap.size _ 10 w2 (Or.inr hb2) (by rw [Lib.byteCells_length]; omega) hs2)
            rw [hcells2] at CW2
            clear hcells hcells2 hbd
            go_wp2_with (first
              | (go_at_call 47; refine CR.out.mono ?_; rintro e w1 ⟨rfl, hb1⟩)
              | (go_at_call 44; refine (cB.out _).mono ?_; rintro e w' ⟨rfl, rfl⟩)
              | (go_at_call 18; refine (cI.out _).mono ?_; rintro e w' ⟨rfl, rfl⟩)
              | (go_at_call 30; refine (CW1.out _ hb1).mono ?_; rintro e w2 ⟨rfl, hbd2, hbb2⟩; have hs2 : w.heap.size ≤ w2.heap.size := by have h1 := hb1.size; have h2 := hbb2.size; omega)
              | (go_at_call 48; refine (CW2.out _ hbd2 hs2).mono ?_; rintro e w3 ⟨rfl, hbd3, hbb3⟩))
            go_roundw
            case rel => exact ⟨j + 1, _, by omega, by go_num, Or.inr hbd3, ((hbw.trans (hb1.mono hBr)).trans hbb2).trans hbb3, by rw [List.length_append, Nat.add_mul]; simp only [List.length_cons, List.length_nil]; omega, HN⟩
            case measure => simp [intOf]; omega
        · rw [hX] at hK cB
          rw [if_pos rfl] at hK
          have hK := (Lx.joinT_blank acc (Lx.textGo off ((byts qs).drop (j + 1)))).symm.trans hK
          clear hX
          have HN := Lib.hid hK
          have hjb : acc.length ≤ 1000001000000 := by
            have : j * 1000001 ≤ 1000000 * 1000001 := Nat.mul_le_mul_right _ (by omega)
            omega
          have hcells : Lib.byteCells acc ++ [.int .u8 10] = Lib.byteCells (acc ++ [10]) := by rw [Lib.byteCells_append]; rfl
          have CW2 := Lib.hid (fun w1 (hb1 : Below wr.heap.size wr w1) => Tryz.Builder_WriteByte w.heap.size w.heap.size (Lib.byteCells acc) 10 w1 (bld_below hbd hb1) (by rw [Lib.byteCells_length]; omega) (by have := hb1.size; omega))
          rw [hcells] at CW2
          clear hcells hbd hK
          go_wp2_with (first
            | (go_at_call 47; refine CR.out.mono ?_; rintro e w1 ⟨rfl, hb1⟩)
            | (go_at_call 44; refine (cB.out _).mono ?_; rintro e w' ⟨rfl, rfl⟩)
            | (go_at_call 48; refine (CW2.out _ hb1).mono ?_; rintro e w3 ⟨rfl, hbd3, hbb3⟩))
          go_roundw
          case rel => exact ⟨j + 1, _, by omega, by go_num, Or.inr hbd3, (hbw.trans (hb1.mono hBr)).trans hbb3, by rw [List.length_append, Nat.add_mul]; simp only [List.length_cons, List.length_nil]; omega, HN⟩
          case measure => simp [intOf]; omega
    · have hA : ANS = .ok acc := by
        rw [← HK.out, byts_nil qs j (by omega)]; simp [Lx.textGo, Lx.joinT]
      subst hA
      clear HK
      have CS := Lib.hid (Tryz.Builder_String_any w.heap.size w.heap.size acc wr hbd hBr)
      clear hbd
      go_wp2_with (go_at_call 31; refine CS.out.mono ?_; rintro e w1 ⟨rfl, hb1⟩)
      go_ret2
      exact ⟨rfl, hbw.trans hb1⟩

theorem text_any (a : Option Addr) (cap : Nat) (ps : List ByteArray) (w : World) (hr : RdS w w.heap.size a ps) (hsh : Short ps) (hn : ps.length ≤ 1000000) (hE : Env w) (hcap : ps.length ≤ cap) :
    Calls Tryz.prog 24 #[.slice a ps.length cap] w fun e w' => e = txtE (Lx.textOf (byts ps)) ∧ Below w.heap.size w w' := by
  have hle : Lx.withoutTail (byts ps) ≤ ps.length := by
    have := Lx.tailGo_le (byts ps) (byts ps).length
    rw [byts_len] at this; unfold Lx.withoutTail; rw [byts_len]; exact this
  have hl : (ps.take (Lx.withoutTail (byts ps))).length = Lx.withoutTail (byts ps) := by rw [List.length_take]; omega
  have := textLoop a cap _ ps (ps.take (Lx.withoutTail (byts ps))) w (hr.take _) (hsh.take _) (by omega) hE (by omega) (by rw [hl]) hn hr hsh hl.symm rfl
  rw [byts_take] at this
  exact this
end Go.Proofs.YtmhakkahclbbjaaGreatDoor
