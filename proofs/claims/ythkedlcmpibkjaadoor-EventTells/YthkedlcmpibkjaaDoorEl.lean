/-
  The walk of event.filled.
-/
import Derived.Test.YthkedlcmpibkjaaDoorEk
import Derived.Deep.DeepFit
namespace Go.Proofs.YthkedlcmpibkjaaDoor
namespace Ev
/-- an event of that kind, with the fields that the rest of its line tells -/
def fill (k : Int) (r : List UInt8) : E :=
  if k = 7 then ⟨7, Lib.trimPrefix r [32, 42], [], [], false⟩
  else if k = 6 then ⟨6, Lib.trimPrefix (cutW r [32, 38]).1 [38], (Tg.read (cutW (cutW r [32, 38]).2 [32, 33]).1).getD [], (unquoteOf (Lib.trimPrefix (Lib.trimPrefix (cutW (cutW r [32, 38]).2 [32, 33]).2 [32]) [58])).getD [], Lib.hasPrefix (Lib.trimPrefix (cutW (cutW r [32, 38]).2 [32, 33]).2 [32]) [58]⟩
  else ⟨k, Lib.trimPrefix (cutW r [32, 38]).1 [38], (Tg.read (cutW (cutW r [32, 38]).2 [32, 33]).1).getD [], [], false⟩
theorem cutW_le (s p : List UInt8) : (cutW s p).1.length ≤ s.length ∧ (cutW s p).2.length ≤ s.length := by
  unfold cutW
  split
  · split
    · simp only [List.length_take, List.length_drop]; omega
    · simp only [List.length_drop, List.length_nil]; omega
  · simp
end Ev
open Go.RowKit
def evV (x : Ev.E) : Value := .agg #[.int .i64 x.kind, .string (str x.anchor), .string (str x.tag), .string (str x.text), .bool x.plain]
theorem below_same {w w' : World} {n : Nat} (h : w' = w.drewN n) : Below w.heap.size w w' := by subst h; exact ⟨rfl, rfl, rfl, Nat.le_refl _, fun _ _ => rfl⟩
theorem other_set {w : World} {b : Nat} {o : Obj} (h : w.heap[b]? = some o) (p : Addr) (v : Value) (hne : b ≠ p.block) : (w.setCell p v).heap[b]? = some o := (Below.heap_setCell w p v b hne).trans h
/-- the block of a struct: its cells, which are not frozen -/
theorem five {w : World} {b : Nat} {a0 a1 a2 a3 a4 : Value} {t : TypeId} (h : w.heap[b]? = some (.cells #[a0, a1, a2, a3, a4] t)) :
    (w.cell? ⟨b, 0, none⟩ = some a0 ∧ w.cell? ⟨b, 1, none⟩ = some a1 ∧ w.cell? ⟨b, 2, none⟩ = some a2 ∧ w.cell? ⟨b, 3, none⟩ = some a3 ∧ w.cell? ⟨b, 4, none⟩ = some a4) ∧ (w.frozen? ⟨b, 0, none⟩ = false ∧ w.frozen? ⟨b, 1, none⟩ = false ∧ w.frozen? ⟨b, 2, none⟩ = false ∧ w.frozen? ⟨b, 3, none⟩ = false ∧ w.frozen? ⟨b, 4, none⟩ = false) :=
  ⟨⟨cell_blk h 0 _ rfl, cell_blk h 1 _ rfl, cell_blk h 2 _ rfl, cell_blk h 3 _ rfl, cell_blk h 4 _ rfl⟩, frozen_blk h 0, frozen_blk h 1, frozen_blk h 2, frozen_blk h 3, frozen_blk h 4⟩

theorem trimS (l : List UInt8) (p : ByteArray) (w : World) : Calls Tryd.prog 61 #[.string (str l), .string p] w fun e w' => e = .returned (.string (str (Lib.trimPrefix l p.data.toList))) ∧ w = w' := Tag.trim_any (str l) p w
theorem cutpS (l : List UInt8) (p : ByteArray) (w : World) : Calls Tryd.prog 45 #[.string (str l), .string p] w fun e w' => e = .returned (.tuple #[.string (str (Lib.trimPrefix l p.data.toList)), .bool (Lib.hasPrefix l p.data.toList)]) ∧ w = w' :=
  (Tryd.strings_CutPrefix (str l) p w).mono fun _ _ h => ⟨h.1, h.2.symm⟩
theorem readS (l : List UInt8) (w : World) (h : l.length ≤ 50000) : Calls Tryd.prog 63 #[.string (str l)] w fun e w' => e = .returned (.tuple #[.string (str ((Tg.read l).getD [])), .int .i64 (if (Tg.read l).isSome then 0 else 14)]) ∧ Below w.heap.size w w' := Tag.read_any (str l) w (by rw [str_len]; omega)
theorem unqS (l : List UInt8) (w : World) (h : l.length ≤ 50000) (hE : Env w) : Calls Tryd.prog 64 #[.string (str l)] w fun e w' => e = .returned (.tuple #[.string (str ((unquoteOf l).getD [])), .int .i64 (if (unquoteOf l).isSome then 0 else 10)]) ∧ Below w.heap.size w w' := unquote_any (str l) w (by rw [str_len]; omega) hE
theorem cutS (l : List UInt8) (p : ByteArray) (w : World) (hp : p.size = 2) (h : l.length ≤ 50000) : Calls Tryd.prog 62 #[.string (str l), .string p] w fun e w' => e = .returned (.tuple #[.string (str (Ev.cutW l p.data.toList).1), .string (str (Ev.cutW l p.data.toList).2)]) ∧ Below w.heap.size w w' :=
  (cutWord_any (str l) p w hp (by rw [str_len]; omega)).mono fun _ _ h => ⟨h.1, by obtain ⟨n, hn⟩ := h.2; exact below_same hn⟩

set_option maxHeartbeats 1000000 in
set_option maxRecDepth 100000 in
theorem filled_any (k : Int) (s : List UInt8) (w : World) (hs : s.length ≤ 50000) (hE : Env w) :
    Calls Tryd.prog 46 #[.int .i64 k, .string (str s)] w fun e w' => e = .returned (evV (Ev.fill k s)) ∧ Below w.heap.size w w' := by
  by_cases k7 : k = 7
  · subst k7
    have cT := Lib.hid (fun w => trimS s ⟨#[32, 42]⟩ w)
    have e7 : Ev.fill 7 s = ⟨7, Lib.trimPrefix s [32, 42], [], [], false⟩ := if_pos rfl
    rw [e7]
    clear e7
    have eP : (⟨#[32, 42]⟩ : ByteArray).data.toList = [32, 42] := rfl
    rw [eP] at cT
    generalize Lib.trimPrefix s [32, 42] = A at *
    clear eP hE hs
    go_enter Tryd.func46, Tryd.ntmps46
    go_wp2_with (go_at_call 61; refine (cT.out _).mono ?_; rintro e w' ⟨rfl, rfl⟩)
    refine bodyPost_ret (v := .agg #[.int .i64 7, .string (str A), .string ⟨#[]⟩, .string ⟨#[]⟩, .bool false]) (by simp [results, go_sem]) rfl ?_
    exact ⟨rfl, bthen (bnew w _) (bnew _ _)⟩
  · have b7 : (k == 7) = false := beq_eq_false_iff_ne.2 k7
    have c1 := fun w => cutS s ⟨#[32, 38]⟩ w rfl hs
    have hl1 := Ev.cutW_le s [32, 38]
    have eP1 : (⟨#[32, 38]⟩ : ByteArray).data.toList = [32, 38] := rfl
    rw [eP1] at c1
    have eF : Ev.fill k s = if k = 6 then ⟨6, Lib.trimPrefix (Ev.cutW s [32, 38]).1 [38], (Tg.read (Ev.cutW (Ev.cutW s [32, 38]).2 [32, 33]).1).getD [], (unquoteOf (Lib.trimPrefix (Lib.trimPrefix (Ev.cutW (Ev.cutW s [32, 38]).2 [32, 33]).2 [32]) [58])).getD [], Lib.hasPrefix (Lib.trimPrefix (Ev.cutW (Ev.cutW s [32, 38]).2 [32, 33]).2 [32]) [58]⟩
      else ⟨k, Lib.trimPrefix (Ev.cutW s [32, 38]).1 [38], (Tg.read (Ev.cutW (Ev.cutW s [32, 38]).2 [32, 33]).1).getD [], [], false⟩ := if_neg k7
    rw [eF]
    clear eF
    generalize Ev.cutW s [32, 38] = P1 at *
    obtain ⟨a1, a2⟩ := P1
    simp only at c1 hl1 ⊢
    have c2 := fun w => cutS a2 ⟨#[32, 33]⟩ w rfl (by omega)
    have hl2 := Ev.cutW_le a2 [32, 33]
    have eP2 : (⟨#[32, 33]⟩ : ByteArray).data.toList = [32, 33] := rfl
    rw [eP2] at c2
    generalize Ev.cutW a2 [32, 33] = P2 at *
    obtain ⟨b1, b2⟩ := P2
    simp only at c2 hl2 ⊢
    have cA := fun w => trimS a1 ⟨#[38]⟩ w
    have eP3 : (⟨#[38]⟩ : ByteArray).data.toList = [38] := rfl
    rw [eP3] at cA
    generalize Lib.trimPrefix a1 [38] = A at *
    have cR := fun w => readS b1 w (by omega)
    generalize (Tg.read b1).getD [] = T at *
    generalize (if (Tg.read b1).isSome = true then (0 : Int) else 14) = TE at *
    have C1 := Lib.hid c1
    have C2 := Lib.hid c2
    have CA := Lib.hid cA
    have CR := Lib.hid cR
    have HE := Lib.hid hE
    clear c1 c2 cA cR eP1 eP2 eP3 hE
    by_cases k6 : k = 6
    · subst k6
      rw [if_pos rfl]
      have cB := fun w => trimS b2 ⟨#[32]⟩ w
      have hl3 := Lib.trimPrefix_le b2 [32]
      have eP4 : (⟨#[32]⟩ : ByteArray).data.toList = [32] := rfl
      rw [eP4] at cB
      generalize Lib.trimPrefix b2 [32] = r3 at *
      have cC := fun w => cutpS r3 ⟨#[58]⟩ w
      have hl4 := Lib.trimPrefix_le r3 [58]
      have eP5 : (⟨#[58]⟩ : ByteArray).data.toList = [58] := rfl
      rw [eP5] at cC
      generalize Lib.trimPrefix r3 [58] = r4 at *
      generalize Lib.hasPrefix r3 [58] = PL at *
      have cU := fun w hE => unqS r4 w (by omega) hE
      generalize (unquoteOf r4).getD [] = X at *
      generalize (if (unquoteOf r4).isSome = true then (0 : Int) else 10) = XE at *
      have CB := Lib.hid cB
      have CC := Lib.hid cC
      have CU := Lib.hid cU
      clear cB cC cU eP4 eP5
      go_enter Tryd.func46, Tryd.ntmps46
      go_wp2_with (first
        | (go_at_call 62; go_fit (C1.out _); rintro e w1 ⟨rfl, hb1⟩; have hE1 := blk_below (two_blk' w _ _) hb1; have hR1 := blk_below (two_blk w _ _) hb1; obtain ⟨⟨d0, d1, d2, d3, d4⟩, f0, f1, f2, f3, f4⟩ := five hE1; have HB1 := Lib.hid (bthen (bthen (bnew w _) (bnew _ _)) hb1))
        | (go_at_call 61; go_fit (CA.out _); rintro e w' ⟨rfl, rfl⟩)
        | (go_at_call 62; go_fit (C2.out _); rintro e w2 ⟨rfl, hb2⟩; clear d0 d1 d2 d3 d4 f0 f1 f2 f3 f4; have hE2 := blk_below (blk_set hE1 1 (.string (str A))) hb2; have hR2 := blk_below (other_set hR1 ⟨w.heap.size + 1, 1, none⟩ (.string (str A)) (by simp)) hb2; simp only [List.setIfInBounds_toArray, List.set_cons_succ, List.set_cons_zero] at hE2; obtain ⟨⟨d0, d1, d2, d3, d4⟩, f0, f1, f2, f3, f4⟩ := five hE2; have HB2 := Lib.hid (bthen (HB1.out.setCell (p := ⟨w.heap.size + 1, 1, none⟩) (Nat.le_succ _) (.string (str A))) hb2))
        | (go_at_call 63; go_fit (CR.out _); rintro e w3 ⟨rfl, hb3⟩; clear d0 d1 d2 d3 d4 f0 f1 f2 f3 f4; have hE3 := blk_below hE2 hb3; have hR3 := blk_below hR2 hb3; obtain ⟨⟨d0, d1, d2, d3, d4⟩, f0, f1, f2, f3, f4⟩ := five hE3; have HB3 := Lib.hid (bthen HB2.out hb3))
        | (go_at_call 61; go_fit (CB.out _); rintro e w' ⟨rfl, rfl⟩)
        | (go_at_call 45; go_fit (CC.out _); rintro e w' ⟨rfl, rfl⟩)
        | (go_at_call 64; go_fit (CU.out _ (HE.out.below ((HB3.out.setCell (p := ⟨w.heap.size + 1, 2, none⟩) (Nat.le_succ _) (.string (str T))).setCell (p := ⟨w.heap.size + 1, 4, none⟩) (Nat.le_succ _) (.bool PL)))); rintro e w4 ⟨rfl, hb4⟩; clear d0 d1 d2 d3 d4 f0 f1 f2 f3 f4; have hE4 := blk_below (blk_set (blk_set hE3 2 (.string (str T))) 4 (.bool PL)) hb4; have hR4 := blk_below (other_set (other_set hR3 ⟨w.heap.size + 1, 2, none⟩ (.string (str T)) (by simp)) ⟨w.heap.size + 1, 4, none⟩ (.bool PL) (by simp)) hb4; simp only [List.setIfInBounds_toArray, List.set_cons_succ, List.set_cons_zero] at hE4; obtain ⟨⟨d0, d1, d2, d3, d4⟩, f0, f1, f2, f3, f4⟩ := five hE4; obtain ⟨⟨r0, r1, r2, r3', r4'⟩, q0, q1, q2, q3, q4⟩ := five hR4; have HB4 := Lib.hid (bthen ((HB3.out.setCell (p := ⟨w.heap.size + 1, 2, none⟩) (Nat.le_succ _) (.string (str T))).setCell (p := ⟨w.heap.size + 1, 4, none⟩) (Nat.le_succ _) (.bool PL)) hb4)))
      refine bodyPost_ret (v := .agg #[.int .i64 6, .string (str A), .string (str T), .string (str X), .bool PL]) (by simp [results, go_sem, r0, r1, r2, r3', r4']) rfl ?_
      refine ⟨rfl, ?_⟩
      repeat (refine Below.setCell ?_ (by first | exact Nat.le_refl _ | exact Nat.le_succ _) _)
      exact HB4.out
    · rw [if_neg k6]
      have b6 : (k == 6) = false := beq_eq_false_iff_ne.2 k6
      go_enter Tryd.func46, Tryd.ntmps46
      go_wp2_with (first
        | (go_at_call 62; go_fit (C1.out _); rintro e w1 ⟨rfl, hb1⟩; have hE1 := blk_below (two_blk' w _ _) hb1; have hR1 := blk_below (two_blk w _ _) hb1; obtain ⟨⟨d0, d1, d2, d3, d4⟩, f0, f1, f2, f3, f4⟩ := five hE1; have HB1 := Lib.hid (bthen (bthen (bnew w _) (bnew _ _)) hb1))
        | (go_at_call 61; go_fit (CA.out _); rintro e w' ⟨rfl, rfl⟩)
        | (go_at_call 62; go_fit (C2.out _); rintro e w2 ⟨rfl, hb2⟩; clear d0 d1 d2 d3 d4 f0 f1 f2 f3 f4; have hE2 := blk_below (blk_set hE1 1 (.string (str A))) hb2; have hR2 := blk_below (other_set hR1 ⟨w.heap.size + 1, 1, none⟩ (.string (str A)) (by simp)) hb2; simp only [List.setIfInBounds_toArray, List.set_cons_succ, List.set_cons_zero] at hE2; obtain ⟨⟨d0, d1, d2, d3, d4⟩, f0, f1, f2, f3, f4⟩ := five hE2; have HB2 := Lib.hid (bthen (HB1.out.setCell (p := ⟨w.heap.size + 1, 1, none⟩) (Nat.le_succ _) (.string (str A))) hb2))
        | (go_at_call 63; go_fit (CR.out _); rintro e w3 ⟨rfl, hb3⟩; clear d0 d1 d2 d3 d4 f0 f1 f2 f3 f4; have hE3 := blk_below hE2 hb3; have hR3 := blk_below hR2 hb3; obtain ⟨⟨d0, d1, d2, d3, d4⟩, f0, f1, f2, f3, f4⟩ := five hE3; obtain ⟨⟨r0, r1, r2, r3', r4'⟩, q0, q1, q2, q3, q4⟩ := five hR3; have HB3 := Lib.hid (bthen HB2.out hb3)))
      refine bodyPost_ret (v := .agg #[.int .i64 k, .string (str A), .string (str T), .string ⟨#[]⟩, .bool false]) (by simp [results, go_sem, r0, r1, r2, r3', r4']) rfl ?_
      refine ⟨rfl, ?_⟩
      repeat (refine Below.setCell ?_ (by first | exact Nat.le_refl _ | exact Nat.le_succ _) _)
      exact HB3.out
end Go.Proofs.YthkedlcmpibkjaaDoor
