/-
  The laws' 'alive': answers that the document fixes.
-/
import Derived.Test.YthkedlcmpibkjaaGreatDoorEp
namespace Go.Proofs.YthkedlcmpibkjaaGreatDoor
def alP : List UInt8 := [43, 100, 111, 99, 10, 61, 118, 97, 108, 32, 58, 34, 97, 34, 10, 45, 100, 111, 99, 10]
def alQ : List UInt8 := [43, 100, 111, 99, 10, 45, 100, 111, 99, 10]
def alE : List Ev.E := [⟨0, [], [], [], false⟩, ⟨6, [], [], [97], true⟩, ⟨1, [], [], [], false⟩]
theorem al_lines : Ev.linesF alP.length alP = [[43, 100, 111, 99], [61, 118, 97, 108, 32, 58, 34, 97, 34], [45, 100, 111, 99]] := by kernel_rfl
theorem al_linesQ : Ev.linesF alQ.length alQ = [[43, 100, 111, 99], [45, 100, 111, 99]] := by kernel_rfl
theorem al_ev0 : Ev.eventOf [43, 100, 111, 99] = some ⟨0, [], [], [], false⟩ := by kernel_rfl
theorem al_ev2 : Ev.eventOf [45, 100, 111, 99] = some ⟨1, [], [], [], false⟩ := by kernel_rfl
theorem al_q : quoteOf [97] = [34, 97, 34] := by kernel_rfl
theorem al_u : unquoteOf [34, 97, 34] = some [97] := by kernel_rfl
theorem al_ev1 : Ev.eventOf [61, 118, 97, 108, 32, 58, 34, 97, 34] = some ⟨6, [], [], [97], true⟩ := by kernel_rfl
theorem al_right : Ev.right alE = true := by kernel_rfl
theorem al_right1 : Ev.right (alE.drop 1) = false := by kernel_rfl
theorem al_rightQ : Ev.right [⟨0, [], [], [], false⟩, ⟨1, [], [], [], false⟩] = false := by kernel_rfl
theorem al_print : Ev.print alE = alP := by kernel_rfl
theorem al_parse : Ev.parse alP = some alE := by kernel_rfl
theorem al_parseQ : Ev.parse alQ = none := by kernel_rfl
open Go.RowKit
theorem al_fine : Ev.Fine (Ev.linesF alP.length alP) := by
  rw [al_lines]
  intro l hl
  simp only [List.mem_cons, List.not_mem_nil, or_false] at hl
  rcases hl with rfl | rfl | rfl
  · exact ⟨by decide, fun x hx => by rw [al_ev0] at hx; cases hx; exact ⟨by decide, by decide, by decide⟩⟩
  · exact ⟨by decide, fun x hx => by rw [al_ev1] at hx; cases hx; exact ⟨by decide, by decide, by decide⟩⟩
  · exact ⟨by decide, fun x hx => by rw [al_ev2] at hx; cases hx; exact ⟨by decide, by decide, by decide⟩⟩
theorem al_fineQ : Ev.Fine (Ev.linesF alQ.length alQ) := by
  rw [al_linesQ]
  intro l hl
  simp only [List.mem_cons, List.not_mem_nil, or_false] at hl
  rcases hl with rfl | rfl
  · exact ⟨by decide, fun x hx => by rw [al_ev0] at hx; cases hx; exact ⟨by decide, by decide, by decide⟩⟩
  · exact ⟨by decide, fun x hx => by rw [al_ev2] at hx; cases hx; exact ⟨by decide, by decide, by decide⟩⟩
theorem al_small : ∀ x ∈ alE, Ev.Small x := by
  intro x hx
  unfold alE at hx
  simp only [List.mem_cons, List.not_mem_nil, or_false] at hx
  rcases hx with rfl | rfl | rfl <;> exact ⟨by decide, by decide, by decide⟩
def alC : Array Value := #[.int .i64 0, .string ⟨#[]⟩, .string ⟨#[]⟩, .string ⟨#[]⟩, .bool false, .int .i64 6, .string ⟨#[]⟩, .string ⟨#[]⟩, .string ⟨#[97]⟩, .bool true, .int .i64 1, .string ⟨#[]⟩, .string ⟨#[]⟩, .string ⟨#[]⟩, .bool false]
theorem rdL {W : World} {D : Nat} (h : W.heap[D]? = some (.cells alC 34)) : RdE W W.heap.size (.slice (some ⟨D, 0, none⟩) 3 3) alE := by
  refine ⟨_, 3, rfl, Nat.le_refl _, fun _ => ⟨D, 0, rfl, (Array.getElem?_eq_some_iff.1 h).1, fun j hj => ?_⟩⟩
  have hj' : j < 3 := hj
  have : j = 0 ∨ j = 1 ∨ j = 2 := by omega
  rcases this with rfl | rfl | rfl <;> exact ⟨cell_blk h _ _ rfl, cell_blk h _ _ rfl, cell_blk h _ _ rfl, cell_blk h _ _ rfl, cell_blk h _ _ rfl⟩
theorem rdL1 {W : World} {D : Nat} (h : W.heap[D]? = some (.cells alC 34)) : RdE W W.heap.size (.slice (some ⟨D, 5, none⟩) 2 2) (alE.drop 1) := by
  refine ⟨_, 2, rfl, Nat.le_refl _, fun _ => ⟨D, 5, rfl, (Array.getElem?_eq_some_iff.1 h).1, fun j hj => ?_⟩⟩
  have hj' : j < 2 := hj
  have : j = 0 ∨ j = 1 := by omega
  rcases this with rfl | rfl <;> exact ⟨cell_blk h _ _ rfl, cell_blk h _ _ rfl, cell_blk h _ _ rfl, cell_blk h _ _ rfl, cell_blk h _ _ rfl⟩
theorem rdS (W : World) (b : Nat) (h : W.heap[b]? = some (.cells #[.int .i64 2, .string ⟨#[]⟩, .string ⟨#[]⟩, .string ⟨#[]⟩, .bool false] 34)) : RdE W W.heap.size (.slice (some ⟨b, 0, none⟩) 1 1) [⟨2, [], [], [], false⟩] := by
  refine ⟨_, 1, rfl, Nat.le_refl _, fun _ => ⟨b, 0, rfl, (Array.getElem?_eq_some_iff.1 h).1, fun j hj => ?_⟩⟩
  have hj' : j < 1 := hj
  obtain rfl : j = 0 := by omega
  exact ⟨cell_blk h _ _ rfl, cell_blk h _ _ rfl, cell_blk h _ _ rfl, cell_blk h _ _ rfl, cell_blk h _ _ rfl⟩

theorem Env.heap {w w' : World} (h : Env w) (e : w'.heap = w.heap) : Env w' := by
  obtain ⟨t, fr, hs⟩ := h.signs
  obtain ⟨t2, fr2, hn⟩ := h.named
  obtain ⟨m, hm⟩ := h.maxl
  obtain ⟨h1, h2⟩ := h.tabs
  have hc : ∀ p, w'.cell? p = w.cell? p := fun p => World.cell?_of_block (by rw [e])
  exact ⟨⟨t, fr, by rw [e]; exact hs⟩, ⟨fun c hc' => (hc _).trans (h1 c hc'), fun i hi => ⟨(hc _).trans (h2 i hi).1, (hc _).trans (h2 i hi).2⟩⟩, ⟨t2, fr2, by rw [e]; exact hn⟩, ⟨m, (hc _).trans hm⟩⟩
theorem ownA {w : World} {B : Nat} {v : Value} (h : OwnE w B v alE) : ∃ g c, v = .slice (some ⟨g, 0, none⟩) 3 c ∧ 3 ≤ c ∧ g < w.heap.size ∧ w.cell? ⟨g, 5, none⟩ = some (.int .i64 6) ∧ w.cell? ⟨g, 6, none⟩ = some (.string ⟨#[]⟩) ∧ w.cell? ⟨g, 7, none⟩ = some (.string ⟨#[]⟩) ∧ w.cell? ⟨g, 8, none⟩ = some (.string ⟨#[97]⟩) ∧ w.cell? ⟨g, 9, none⟩ = some (.bool true) := by
  have h' := h
  rcases h.2 with ⟨_, h0⟩ | ⟨g, c, cur, rfl, hB, hh, hnc, hr⟩
  · cases h0
  · have hc := World.ownsRow.cells h' (g := g) rfl
    have hadd : ∀ k, (⟨g, 0, none⟩ : Addr).add k = ⟨g, k, none⟩ := fun k => by unfold Addr.add; split <;> simp_all
    have at_ : ∀ (i : Nat) (u : Value), (evsCells alE)[i]? = some u → w.cell? ⟨g, i, none⟩ = some u := fun i u hu => by rw [← hadd]; exact hc _ _ hu
    exact ⟨g, c, rfl, hnc, (Array.getElem?_eq_some_iff.1 hh).1, at_ 5 _ rfl, at_ 6 _ rfl, at_ 7 _ rfl, at_ 8 _ rfl, at_ 9 _ rfl⟩

set_option maxHeartbeats 8000000 in
set_option maxRecDepth 100000 in
theorem alive_any (w : World) (hE : Env w) :
    Calls Tryz.prog 4 #[] w fun e w' => e = .returned (.bool true) ∧ Below w.heap.size w w' := by
  have P1 := Lib.hid (fun w hE => parse_any alP w (by decide) (by rw [al_lines]; decide) al_fine hE)
  have P2 := Lib.hid (fun w hE => parse_any alQ w (by decide) (by rw [al_linesQ]; decide) al_fineQ hE)
  rw [al_parse] at P1
  rw [al_parseQ] at P2
  have R1 := Lib.hid (fun (W : World) (D : Nat) (h : W.heap[D]? = some (.cells alC 34)) (hE : Env W) => right_any _ alE W (rdL h) (by decide) al_small hE)
  have R2 := Lib.hid (fun (W : World) (D : Nat) (h : W.heap[D]? = some (.cells alC 34)) (hE : Env W) => right_any _ (alE.drop 1) W (rdL1 h) (by decide) (fun x hx => al_small x (List.mem_of_mem_drop hx)) hE)
  have R3 := Lib.hid (fun (W : World) (D : Nat) (h : W.heap[D]? = some (.cells alC 34)) (hE : Env W) => print_any _ alE W (rdL h) (by decide) al_small hE)
  have R4 := Lib.hid (fun (W : World) (D : Nat) (h : W.heap[D]? = some (.cells alC 34)) => nodes_any _ alE W (rdL h) (by decide))
  have R5 := Lib.hid (fun (W : World) (D : Nat) h => depth_any _ [⟨2, [], [], [], false⟩] W (rdS W D h) (by decide))
  rw [al_right] at R1
  rw [al_right1] at R2
  rw [al_print] at R3
  rw [show Ev.nodesOf (Ev.kinds alE) = 1 from rfl] at R4
  rw [show Ev.dmax (Ev.kinds [⟨2, [], [], [], false⟩]) = 1 from rfl] at R5
  have HE0 := Lib.hid (hE.below (bnew w (.cells alC 34)))
  have HB0 := Lib.hid (bnew w (.cells alC 34))
  have HD0 := Lib.hid (alloc_blk w (.cells alC 34))
  clear hE
  unfold alP at P1 R3
  rw [show str [43, 100, 111, 99, 10, 61, 118, 97, 108, 32, 58, 34, 97, 34, 10, 45, 100, 111, 99, 10] = (⟨#[43, 100, 111, 99, 10, 61, 118, 97, 108, 32, 58, 34, 97, 34, 10, 45, 100, 111, 99, 10]⟩ : ByteArray) from rfl] at R3
  unfold alQ at P2
  go_enter Tryz.func4, Tryz.ntmps4
  go_wp2_with (first
    | (go_at_call 5; go_fit (P1.out _ HE0.out); rintro e w1 ⟨⟨mv, rfl, ho1⟩, hb1⟩; obtain ⟨g, mc, rfl, hmc, hg, m5, m6, m7, m8, m9⟩ := ownA ho1; clear ho1; have HD1 := Lib.hid (blk_below HD0.out hb1); have HB1 := Lib.hid (bthen HB0.out hb1); have HE1 := Lib.hid (HE0.out.below hb1))
    | (go_at_call 5; go_fit (P2.out _ HE1.out); rintro e w2 ⟨rfl, hb2⟩; have HD2 := Lib.hid (blk_below HD1.out hb2); have HB2 := Lib.hid (bthen HB1.out hb2); have HE2 := Lib.hid (HE1.out.below hb2)))
  have n5 := (hb2.cell (p := ⟨g, 5, none⟩) hg).trans m5
  have n6 := (hb2.cell (p := ⟨g, 6, none⟩) hg).trans m6
  have n7 := (hb2.cell (p := ⟨g, 7, none⟩) hg).trans m7
  have n8 := (hb2.cell (p := ⟨g, 8, none⟩) hg).trans m8
  have n9 := (hb2.cell (p := ⟨g, 9, none⟩) hg).trans m9
  have hg2 : g < w2.heap.size := Nat.lt_of_lt_of_le hg hb2.size
  have hD2 := HD2.out
  have k5 : w2.cell? ⟨w.heap.size, 5, none⟩ = some (.int .i64 6) := cell_blk hD2 5 _ rfl
  have k6 : w2.cell? ⟨w.heap.size, 6, none⟩ = some (.string ⟨#[]⟩) := cell_blk hD2 6 _ rfl
  have k7 : w2.cell? ⟨w.heap.size, 7, none⟩ = some (.string ⟨#[]⟩) := cell_blk hD2 7 _ rfl
  have k8 : w2.cell? ⟨w.heap.size, 8, none⟩ = some (.string ⟨#[97]⟩) := cell_blk hD2 8 _ rfl
  have k9 : w2.cell? ⟨w.heap.size, 9, none⟩ = some (.bool true) := cell_blk hD2 9 _ rfl
  have hDl : w.heap.size < w2.heap.size := (Array.getElem?_eq_some_iff.1 hD2).1
  have HBW : Hid (Below w.heap.size w w2) := HB2.out
  clear hD2 m5 m6 m7 m8 m9 hb1 hb2 HB0 HB1 HB2 HE0 HE1 HD0 HD1 P1 P2 hg
  generalize hDw : w.heap.size = D at *
  go_region_held3 (fun w' => w'.cell? ⟨D, 5, none⟩ = some (.int .i64 6) ∧ w'.cell? ⟨D, 6, none⟩ = some (.string ⟨#[]⟩) ∧ w'.cell? ⟨D, 7, none⟩ = some (.string ⟨#[]⟩) ∧ w'.cell? ⟨D, 8, none⟩ = some (.string ⟨#[97]⟩) ∧ w'.cell? ⟨D, 9, none⟩ = some (.bool true) ∧ w'.cell? ⟨g, 5, none⟩ = some (.int .i64 6) ∧ w'.cell? ⟨g, 6, none⟩ = some (.string ⟨#[]⟩) ∧ w'.cell? ⟨g, 7, none⟩ = some (.string ⟨#[]⟩) ∧ w'.cell? ⟨g, 8, none⟩ = some (.string ⟨#[97]⟩) ∧ w'.cell? ⟨g, 9, none⟩ = some (.bool true))
    (first
      | go_keep
      | (go_split_ands; refine ⟨?_, ?_, ?_, ?_, ?_, ?_, ?_, ?_, ?_, ?_⟩ <;> first | (rw [hb7'.cell (by first | exact hD6 | exact hg6)]; assumption) | (rw [hb7.cell (by simp; omega)]; assumption) | (rw [hb6.cell (by first | exact hD5 | exact hg5)]; assumption))
      | (go_split_ands; refine ⟨?_, ?_, ?_, ?_, ?_, ?_, ?_, ?_, ?_, ?_⟩ <;> first | (rw [hb5.cell (by first | exact hD4 | exact hg4)]; assumption) | (rw [hb4.cell (by first | exact hD3 | exact hg3)]; assumption))
      | (go_split_ands; refine ⟨?_, ?_, ?_, ?_, ?_, ?_, ?_, ?_, ?_, ?_⟩ <;> (rw [hb3.cell (by first | exact hDl | exact hg2)]; assumption)))
    (first
      | (go_at_call_of 9 (Value.slice (some ⟨D, 0, none⟩) 3 3); refine (R1.out _ D (by exact HD2.out) (by exact HE2.out.heap rfl)).mono ?_; rintro e w3 ⟨rfl, hb3⟩; have hb3' : Below w2.heap.size w2 w3 := ⟨hb3.os, hb3.tape, hb3.output, hb3.size, hb3.block⟩; have HD3 := Lib.hid (blk_below HD2.out hb3'); have HE3 := Lib.hid (HE2.out.below hb3'); have hD3 : D < w3.heap.size := Nat.lt_of_lt_of_le hDl hb3'.size; have hg3 : g < w3.heap.size := Nat.lt_of_lt_of_le hg2 hb3'.size)
      | (go_at_call_of 9 (Value.slice (some ⟨D, 5, none⟩) 2 2); refine (R2.out _ D (by exact HD3.out) (by exact HE3.out.heap rfl)).mono ?_; rintro e w4 ⟨rfl, hb4⟩; have hb4' : Below w3.heap.size w3 w4 := ⟨hb4.os, hb4.tape, hb4.output, hb4.size, hb4.block⟩; have HD4 := Lib.hid (blk_below HD3.out hb4'); have HE4 := Lib.hid (HE3.out.below hb4'); have hD4 : D < w4.heap.size := Nat.lt_of_lt_of_le hD3 hb4'.size; have hg4 : g < w4.heap.size := Nat.lt_of_lt_of_le hg3 hb4'.size)
      | (go_at_call 10; refine (R3.out _ D (by exact HD4.out) (by exact HE4.out.heap rfl)).mono ?_; rintro e w5 ⟨rfl, hb5⟩; have hb5' : Below w4.heap.size w4 w5 := ⟨hb5.os, hb5.tape, hb5.output, hb5.size, hb5.block⟩; have HD5 := Lib.hid (blk_below HD4.out hb5'); have hD5 : D < w5.heap.size := Nat.lt_of_lt_of_le hD4 hb5'.size; have hg5 : g < w5.heap.size := Nat.lt_of_lt_of_le hg4 hb5'.size)
      | (go_at_call 11; refine (R4.out _ D (by exact HD5.out)).mono ?_; rintro e w6 ⟨rfl, hb6⟩; have hb6' : Below w5.heap.size w5 w6 := ⟨hb6.os, hb6.tape, hb6.output, hb6.size, hb6.block⟩; have hD6 : D < w6.heap.size := Nat.lt_of_lt_of_le hD5 hb6'.size; have hg6 : g < w6.heap.size := Nat.lt_of_lt_of_le hg5 hb6'.size)
      | (go_at_call 12; refine (R5.out _ w6.heap.size (by exact alloc_blk w6 _)).mono ?_; rintro e w7 ⟨rfl, hb7⟩; have hb7' : Below w6.heap.size w6 w7 := bthen (bnew w6 (.cells #[.int .i64 2, .string ⟨#[]⟩, .string ⟨#[]⟩, .string ⟨#[]⟩, .bool false] 34)) ⟨hb7.os, hb7.tape, hb7.output, hb7.size, hb7.block⟩))
  go_wp2
  go_ret
  subst hDw
  exact ⟨rfl, bthen (bthen (bthen (bthen (bthen HBW.out hb3') hb4') hb5') hb6') hb7'⟩
end Go.Proofs.YthkedlcmpibkjaaGreatDoor
