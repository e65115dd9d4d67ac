/-
  The walk of cutWord.
  The walk of event.filled.
  The walk of eventOf.
-/
import Derived.Test.YthkedlcmpibkjaaGreatDoorEj
import Derived.IntWalk
import Derived.Deep.DeepFit
namespace Go.Proofs.YthkedlcmpibkjaaGreatDoor
namespace Ev
/-- the word behind the first blank, and what is behind it -/
def cutW (s p : List UInt8) : List UInt8 × List UInt8 :=
  if Lib.hasPrefix s p then
    (if 0 ≤ Lib.indexByte (s.drop 2) 32 then ((s.drop 1).take (1 + (Lib.indexByte (s.drop 2) 32).toNat), s.drop (2 + (Lib.indexByte (s.drop 2) 32).toNat)) else (s.drop 1, []))
  else ([], s)
end Ev
open Go.RowKit
theorem idx_lt (l : List UInt8) (c : UInt8) (n : Nat) (h : Lib.indexByte l c = n) : n < l.length := by
  have := (Lib.indexByte_some h).1
  rcases Nat.lt_or_ge n l.length with hl | hl
  · exact hl
  · rw [List.getElem?_eq_none hl] at this; cases this
def pairE (a b : List UInt8) : Ending := .returned (.tuple #[.string (str a), .string (str b)])
theorem pairE_of {s t : ByteArray} {a b : List UInt8} (h1 : s.data.toList = a) (h2 : t.data.toList = b) : Ending.returned (.tuple #[.string s, .string t]) = pairE a b := by
  subst h1 h2; unfold pairE; rw [str_eq, str_eq]

set_option maxHeartbeats 2000000 in
set_option maxRecDepth 100000 in
theorem cutWord_any (s p : ByteArray) (w : World) (hp : p.size = 2) (hs : s.size ≤ 1000000) :
    Calls Tryz.prog 40 #[.string s, .string p] w fun e w' => e = pairE (Ev.cutW s.data.toList p.data.toList).1 (Ev.cutW s.data.toList p.data.toList).2 ∧ ∃ n, w' = w.drewN n := by
  have cP := Lib.hid (Tryz.strings_HasPrefix s p w)
  unfold Ev.cutW
  cases h : Lib.hasPrefix s.data.toList p.data.toList
  · rw [h] at cP
    rw [if_neg (by decide)]
    clear h
    go_enter Tryz.func40, Tryz.ntmps40
    go_wp2_with (go_at_call 66; refine cP.out.mono ?_; rintro e w' ⟨rfl, rfl⟩)
    go_ret2
    exact ⟨pairE_of rfl rfl, 0, rfl⟩
  · rw [h] at cP
    rw [if_pos rfl]
    have h2 := Tag.pre_le s p h
    rw [hp] at h2
    clear h
    have e2 : (s.extract 2 s.size).data.toList = s.data.toList.drop 2 := Lib.extract_to_end s 2
    have cI := Tryz.strings_IndexByte (s.extract 2 s.size) 32 w
    rw [e2, show (Int.toNat 32).toUInt8 = 32 from rfl] at cI
    have hpi : (p.size : Int) = 2 := by omega
    by_cases hi : 0 ≤ Lib.indexByte (s.data.toList.drop 2) 32
    · rw [if_pos hi]
      obtain ⟨n, hn⟩ : ∃ n : Nat, Lib.indexByte (s.data.toList.drop 2) 32 = n := ⟨(Lib.indexByte (s.data.toList.drop 2) 32).toNat, by omega⟩
      rw [hn] at cI ⊢
      have hlt := idx_lt _ _ _ hn
      rw [List.length_drop, ← Lib.size_eq] at hlt
      have H1 : Hid ((s.extract 1 (2 + n)).data.toList = (s.data.toList.drop 1).take (1 + (n : Int).toNat)) := by
        show _ = _
        rw [Lib.extract_data]; congr 1; omega
      have H2 : Hid ((s.extract (2 + n) s.size).data.toList = s.data.toList.drop (2 + (n : Int).toNat)) := by
        show _ = _
        rw [Lib.extract_to_end]; congr 1
      have CI := Lib.hid cI
      clear hn hi e2 cI
      go_enter Tryz.func40, Tryz.ntmps40
      go_wp2_with (first
        | (go_at_call 66; refine cP.out.mono ?_; rintro e w' ⟨rfl, rfl⟩)
        | (go_at_call 67; refine CI.out.mono ?_; rintro e w' ⟨rfl, rfl⟩))
      have i1 : (1 : Int) ≤ 2 + (n : Int) := by omega
      have i2 : (2 : Int) + (n : Int) ≤ (s.size : Int) := by omega
      have i3 : ((2 : Int) + (n : Int)).toNat = 2 + n := by omega
      have i4 : (0 : Int) ≤ 2 + (n : Int) := by omega
      have i5 : IntKind.i64.wrap ((2 : Int) + (n : Int)) = 2 + n := IntWalk.i64_in _ (by omega)
      have i6 : (1 : Int) ≤ (s.size : Int) := by omega
      go_quiet (fail)
      go_wp2
      go_ret2
      exact ⟨pairE_of H1.out H2.out, _, rfl⟩
    · rw [if_neg hi]
      have hm1 : Lib.indexByte (s.data.toList.drop 2) 32 = -1 := by have := Lib.indexByte_ge (s.data.toList.drop 2) 32; omega
      rw [hm1] at cI
      have CI := Lib.hid cI
      have H1 : Hid ((s.extract 1 s.size).data.toList = s.data.toList.drop 1) := Lib.extract_to_end s 1
      clear hi hm1 e2 cI
      go_enter Tryz.func40, Tryz.ntmps40
      go_wp2_with (first
        | (go_at_call 66; refine cP.out.mono ?_; rintro e w' ⟨rfl, rfl⟩)
        | (go_at_call 67; refine CI.out.mono ?_; rintro e w' ⟨rfl, rfl⟩))
      go_ret2
      exact ⟨pairE_of H1.out rfl, 0, rfl⟩
end Go.Proofs.YthkedlcmpibkjaaGreatDoor
namespace Go.Proofs.YthkedlcmpibkjaaGreatDoor
namespace Ev
/-- an event of that kind, with the fields that the rest of its line tells -/
def fill (k : Int) (r : List UInt8) : E :=
  if k = 7 then ⟨7, Lib.trimPrefix r [32, 42], [], [], false⟩
  else if k = 6 then ⟨6, Lib.trimPrefix (cutW r [32, 38]).1 [38], (Tg.read (cutW (cutW r [32, 38]).2 [32, 33]).1).getD [], (unquoteOf (Lib.trimPrefix (Lib.trimPrefix (cutW (cutW r [32, 38]).2 [32, 33]).2 [32]) [58])).getD [], Lib.hasPrefix (Lib.trimPrefix (cutW (cutW r [32, 38]).2 [32, 33]).2 [32]) [58]⟩
  else ⟨k, Lib.trimPrefix (cutW r [32, 38]).1 [38], (Tg.read (cutW (cutW r [32, 38]).2 [32, 33]).1).getD [], [], false⟩
theorem cutW_le (s p : List UInt8) : (cutW s p).1.length ≤ s.length ∧ (cutW s p).2.length ≤ s.length := by
  unfold cutW
  split
  · split
    · simp only [List.length_take, List.length_drop]; omega
    · simp only [List.length_drop, List.length_nil]; omega
  · simp
end Ev
open Go.RowKit
def evV (x : Ev.E) : Value := .agg #[.int .i64 x.kind, .string (str x.anchor), .string (str x.tag), .string (str x.text), .bool x.plain]
theorem below_same {w w' : World} {n : Nat} (h : w' = w.drewN n) : Below w.heap.size w w' := by subst h; exact ⟨rfl, rfl, rfl, Nat.le_refl _, fun _ _ => rfl⟩
theorem other_set {w : World} {b : Nat} {o : Obj} (h : w.heap[b]? = some o) (p : Addr) (v : Value) (hne : b ≠ p.block) : (w.setCell p v).heap[b]? = some o := (Below.heap_setCell w p v b hne).trans h
/-- the block of a struct: its cells, which are not frozen -/
theorem five {w : World} {b : Nat} {a0 a1 a2 a3 a4 : Value} {t : TypeId} (h : w.heap[b]? = some (.cells #[a0, a1, a2, a3, a4] t)) :
    (w.cell? ⟨b, 0, none⟩ = some a0 ∧ w.cell? ⟨b, 1, none⟩ = some a1 ∧ w.cell? ⟨b, 2, none⟩ = some a2 ∧ w.cell? ⟨b, 3, none⟩ = some a3 ∧ w.cell? ⟨b, 4, none⟩ = some a4) ∧ (w.frozen? ⟨b, 0, none⟩ = false ∧ w.frozen? ⟨b, 1, none⟩ = false ∧ w.frozen? ⟨b, 2, none⟩ = false ∧ w.frozen? ⟨b, 3, none⟩ = false ∧ w.frozen? ⟨b, 4, none⟩ = false) :=
  ⟨⟨cell_blk h 0 _ rfl, cell_blk h 1 _ rfl, cell_blk h 2 _ rfl, cell_blk h 3 _ rfl, cell_blk h 4 _ rfl⟩, frozen_blk h 0, frozen_blk h 1, frozen_blk h 2, frozen_blk h 3, frozen_blk h 4⟩

theorem trimS (l : List UInt8) (p : ByteArray) (w : World) : Calls Tryz.prog 39 #[.string (str l), .string p] w fun e w' => e = .returned (.string (str (Lib.trimPrefix l p.data.toList))) ∧ w = w' := Tag.trim_any (str l) p w
theorem cutpS (l : List UInt8) (p : ByteArray) (w : World) : Calls Tryz.prog 22 #[.string (str l), .string p] w fun e w' => e = .returned (.tuple #[.string (str (Lib.trimPrefix l p.data.toList)), .bool (Lib.hasPrefix l p.data.toList)]) ∧ w = w' :=
  (Tryz.strings_CutPrefix (str l) p w).mono fun _ _ h => ⟨h.1, h.2.symm⟩
theorem readS (l : List UInt8) (w : World) (h : l.length ≤ 50000) : Calls Tryz.prog 41 #[.string (str l)] w fun e w' => e = .returned (.tuple #[.string (str ((Tg.read l).getD [])), .int .i64 (if (Tg.read l).isSome then 0 else 14)]) ∧ Below w.heap.size w w' := Tag.read_any (str l) w (by rw [str_len]; omega)
theorem unqS (l : List UInt8) (w : World) (h : l.length ≤ 50000) (hE : Env w) : Calls Tryz.prog 42 #[.string (str l)] w fun e w' => e = .returned (.tuple #[.string (str ((unquoteOf l).getD [])), .int .i64 (if (unquoteOf l).isSome then 0 else 10)]) ∧ Below w.heap.size w w' := unquote_any (str l) w (by rw [str_len]; omega) hE
theorem cutS (l : List UInt8) (p : ByteArray) (w : World) (hp : p.size = 2) (h : l.length ≤ 50000) : Calls Tryz.prog 40 #[.string (str l), .string p] w fun e w' => e = .returned (.tuple #[.string (str (Ev.cutW l p.data.toList).1), .string (str (Ev.cutW l p.data.toList).2)]) ∧ Below w.heap.size w w' :=
  (cutWord_any (str l) p w hp (by rw [str_len]; omega)).mono fun _ _ h => ⟨h.1, by obtain ⟨n, hn⟩ := h.2; exact below_same hn⟩

set_option maxHeartbeats 1000000 in
set_option maxRecDepth 100000 in
theorem filled_any (k : Int) (s : List UInt8) (w : World) (hs : s.length ≤ 50000) (hE : Env w) :
    Calls Tryz.prog 23 #[.int .i64 k, .string (str s)] w fun e w' => e = .returned (evV (Ev.fill k s)) ∧ Below w.heap.size w w' := by
  by_cases k7 : k = 7
  · subst k7
    have cT := Lib.hid (fun w => trimS s ⟨#[32, 42]⟩ w)
    have e7 : Ev.fill 7 s = ⟨7, Lib.trimPrefix s [32, 42], [], [], false⟩ := if_pos rfl
    rw [e7]
    clear e7
    have eP : (⟨#[32, 42]⟩ : ByteArray).data.toList = [32, 42] := rfl
    rw [eP] at cT
    generalize Lib.trimPrefix s [32, 42] = A at *
    clear eP hE hs
    go_enter Tryz.func23, Tryz.ntmps23
    go_wp2_with (go_at_call 39; refine (cT.out _).mono ?_; rintro e w' ⟨rfl, rfl⟩)
    refine bodyPost_ret (v := .agg #[.int .i64 7, .string (str A), .string ⟨#[]⟩, .string ⟨#[]⟩, .bool false]) (by simp [results, go_sem]) rfl ?_
    exact ⟨rfl, bthen (bnew w _) (bnew _ _)⟩
  · have b7 : (k == 7) = false := beq_eq_false_iff_ne.2 k7
    have c1 := fun w => cutS s ⟨#[32, 38]⟩ w rfl hs
    have hl1 := Ev.cutW_le s [32, 38]
    have eP1 : (⟨#[32, 38]⟩ : ByteArray).data.toList = [32, 38] := rfl
    rw [eP1] at c1
    have eF : Ev.fill k s = if k = 6 then ⟨6, Lib.trimPrefix (Ev.cutW s [32, 38]).1 [38], (Tg.read (Ev.cutW (Ev.cutW s [32, 38]).2 [32, 33]).1).getD [], (unquoteOf (Lib.trimPrefix (Lib.trimPrefix (Ev.cutW (Ev.cutW s [32, 38]).2 [32, 33]).2 [32]) [58])).getD [], Lib.hasPrefix (Lib.trimPrefix (Ev.cutW (Ev.cutW s [32, 38]).2 [32, 33]).2 [32]) [58]⟩
      else ⟨k, Lib.trimPrefix (Ev.cutW s [32, 38]).1 [38], (Tg.read (Ev.cutW (Ev.cutW s [32, 38]).2 [32, 33]).1).getD [], [], false⟩ := if_neg k7
    rw [eF]
    clear eF
    generalize Ev.cutW s [32, 38] = P1 at *
    obtain ⟨a1, a2⟩ := P1
    simp only at c1 hl1 ⊢
    have c2 := fun w => cutS a2 ⟨#[32, 33]⟩ w rfl (by omega)
    have hl2 := Ev.cutW_le a2 [32, 33]
    have eP2 : (⟨#[32, 33]⟩ : ByteArray).data.toList = [32, 33] := rfl
    rw [eP2] at c2
    generalize Ev.cutW a2 [32, 33] = P2 at *
    obtain ⟨b1, b2⟩ := P2
    simp only at c2 hl2 ⊢
    have cA := fun w => trimS a1 ⟨#[38]⟩ w
    have eP3 : (⟨#[38]⟩ : ByteArray).data.toList = [38] := rfl
    rw [eP3] at cA
    generalize Lib.trimPrefix a1 [38] = A at *
    have cR := fun w => readS b1 w (by omega)
    generalize (Tg.read b1).getD [] = T at *
    generalize (if (Tg.read b1).isSome = true then (0 : Int) else 14) = TE at *
    have C1 := Lib.hid c1
    have C2 := Lib.hid c2
    have CA := Lib.hid cA
    have CR := Lib.hid cR
    have HE := Lib.hid hE
    clear c1 c2 cA cR eP1 eP2 eP3 hE
    by_cases k6 : k = 6
    · subst k6
      rw [if_pos rfl]
      have cB := fun w => trimS b2 ⟨#[32]⟩ w
      have hl3 := Lib.trimPrefix_le b2 [32]
      have eP4 : (⟨#[32]⟩ : ByteArray).data.toList = [32] := rfl
      rw [eP4] at cB
      generalize Lib.trimPrefix b2 [32] = r3 at *
      have cC := fun w => cutpS r3 ⟨#[58]⟩ w
      have hl4 := Lib.trimPrefix_le r3 [58]
      have eP5 : (⟨#[58]⟩ : ByteArray).data.toList = [58] := rfl
      rw [eP5] at cC
      generalize Lib.trimPrefix r3 [58] = r4 at *
      generalize Lib.hasPrefix r3 [58] = PL at *
      have cU := fun w hE => unqS r4 w (by omega) hE
      generalize (unquoteOf r4).getD [] = X at *
      generalize (if (unquoteOf r4).isSome = true then (0 : Int) else 10) = XE at *
      have CB := Lib.hid cB
      have CC := Lib.hid cC
      have CU := Lib.hid cU
      clear cB cC cU eP4 eP5
      go_enter Tryz.func23, Tryz.ntmps23
      go_wp2_with (first
        | (go_at_call 40; go_fit (C1.out _); rintro e w1 ⟨rfl, hb1⟩; have hE1 := blk_below (two_blk' w _ _) hb1; have hR1 := blk_below (two_blk w _ _) hb1; obtain ⟨⟨d0, d1, d2, d3, d4⟩, f0, f1, f2, f3, f4⟩ := five hE1; have HB1 := Lib.hid (bthen (bthen (bnew w _) (bnew _ _)) hb1))
        | (go_at_call 39; go_fit (CA.out _); rintro e w' ⟨rfl, rfl⟩)
        | (go_at_call 40; go_fit (C2.out _); rintro e w2 ⟨rfl, hb2⟩; clear d0 d1 d2 d3 d4 f0 f1 f2 f3 f4; have hE2 := blk_below (blk_set hE1 1 (.string (str A))) hb2; have hR2 := blk_below (other_set hR1 ⟨w.heap.size + 1, 1, none⟩ (.string (str A)) (by simp)) hb2; simp only [List.setIfInBounds_toArray, List.set_cons_succ, List.set_cons_zero] at hE2; obtain ⟨⟨d0, d1, d2, d3, d4⟩, f0, f1, f2, f3, f4⟩ := five hE2; have HB2 := Lib.hid (bthen (HB1.out.setCell (p := ⟨w.heap.size + 1, 1, none⟩) (Nat.le_succ _) (.string (str A))) hb2))
        | (go_at_call 41; go_fit (CR.out _); rintro e w3 ⟨rfl, hb3⟩; clear d0 d1 d2 d3 d4 f0 f1 f2 f3 f4; have hE3 := blk_below hE2 hb3; have hR3 := blk_below hR2 hb3; obtain ⟨⟨d0, d1, d2, d3, d4⟩, f0, f1, f2, f3, f4⟩ := five hE3; have HB3 := Lib.hid (bthen HB2.out hb3))
        | (go_at_call 39; go_fit (CB.out _); rintro e w' ⟨rfl, rfl⟩)
        | (go_at_call 22; go_fit (CC.out _); rintro e w' ⟨rfl, rfl⟩)
        | (go_at_call 42; go_fit (CU.out _ (HE.out.below ((HB3.out.setCell (p := ⟨w.heap.size + 1, 2, none⟩) (Nat.le_succ _) (.string (str T))).setCell (p := ⟨w.heap.size + 1, 4, none⟩) (Nat.le_succ _) (.bool PL)))); rintro e w4 ⟨rfl, hb4⟩; clear d0 d1 d2 d3 d4 f0 f1 f2 f3 f4; have hE4 := blk_below (blk_set (blk_set hE3 2 (.string (str T))) 4 (.bool PL)) hb4; have hR4 := blk_below (other_set (other_set hR3 ⟨w.heap.size + 1, 2, none⟩ (.string (str T)) (by simp)) ⟨w.heap.size + 1, 4, none⟩ (.bool PL) (by simp)) hb4; simp only [List.setIfInBounds_toArray, List.set_cons_succ, List.set_cons_zero] at hE4; obtain ⟨⟨d0, d1, d2, d3, d4⟩, f0, f1, f2, f3, f4⟩ := five hE4; obtain ⟨⟨r0, r1, r2, r3', r4'⟩, q0, q1, q2, q3, q4⟩ := five hR4; have HB4 := Lib.hid (bthen ((HB3.out.setCell (p := ⟨w.heap.size + 1, 2, none⟩) (Nat.le_succ _) (.string (str T))).setCell (p := ⟨w.heap.size + 1, 4, none⟩) (Nat.le_succ _) (.bool PL)) hb4)))
      refine bodyPost_ret (v := .agg #[.int .i64 6, .string (str A), .string (str T), .string (str X), .bool PL]) (by simp [results, go_sem, r0, r1, r2, r3', r4']) rfl ?_
      refine ⟨rfl, ?_⟩
      repeat (refine Below.setCell ?_ (by first | exact Nat.le_refl _ | exact Nat.le_succ _) _)
      exact HB4.out
    · rw [if_neg k6]
      have b6 : (k == 6) = false := beq_eq_false_iff_ne.2 k6
      go_enter Tryz.func23, Tryz.ntmps23
      go_wp2_with (first
        | (go_at_call 40; go_fit (C1.out _); rintro e w1 ⟨rfl, hb1⟩; have hE1 := blk_below (two_blk' w _ _) hb1; have hR1 := blk_below (two_blk w _ _) hb1; obtain ⟨⟨d0, d1, d2, d3, d4⟩, f0, f1, f2, f3, f4⟩ := five hE1; have HB1 := Lib.hid (bthen (bthen (bnew w _) (bnew _ _)) hb1))
        | (go_at_call 39; go_fit (CA.out _); rintro e w' ⟨rfl, rfl⟩)
        | (go_at_call 40; go_fit (C2.out _); rintro e w2 ⟨rfl, hb2⟩; clear d0 d1 d2 d3 d4 f0 f1 f2 f3 f4; have hE2 := blk_below (blk_set hE1 1 (.string (str A))) hb2; have hR2 := blk_below (other_set hR1 ⟨w.heap.size + 1, 1, none⟩ (.string (str A)) (by simp)) hb2; simp only [List.setIfInBounds_toArray, List.set_cons_succ, List.set_cons_zero] at hE2; obtain ⟨⟨d0, d1, d2, d3, d4⟩, f0, f1, f2, f3, f4⟩ := five hE2; have HB2 := Lib.hid (bthen (HB1.out.setCell (p := ⟨w.heap.size + 1, 1, none⟩) (Nat.le_succ _) (.string (str A))) hb2))
        | (go_at_call 41; go_fit (CR.out _); rintro e w3 ⟨rfl, hb3⟩; clear d0 d1 d2 d3 d4 f0 f1 f2 f3 f4; have hE3 := blk_below hE2 hb3; have hR3 := blk_below hR2 hb3; obtain ⟨⟨d0, d1, d2, d3, d4⟩, f0, f1, f2, f3, f4⟩ := five hE3; obtain ⟨⟨r0, r1, r2, r3', r4'⟩, q0, q1, q2, q3, q4⟩ := five hR3; have HB3 := Lib.hid (bthen HB2.out hb3)))
      refine bodyPost_ret (v := .agg #[.int .i64 k, .string (str A), .string (str T), .string ⟨#[]⟩, .bool false]) (by simp [results, go_sem, r0, r1, r2, r3', r4']) rfl ?_
      refine ⟨rfl, ?_⟩
      repeat (refine Below.setCell ?_ (by first | exact Nat.le_refl _ | exact Nat.le_succ _) _)
      exact HB3.out
end Go.Proofs.YthkedlcmpibkjaaGreatDoor
namespace Go.Proofs.YthkedlcmpibkjaaGreatDoor
namespace Ev
def eventFrom (l : List UInt8) : Nat → Option E
  | 0 => none
  | n + 1 => if Lib.hasPrefix l (sign (7 - n)) then some (fill ((7 - n : Nat) : Int) (Lib.trimPrefix l (sign (7 - n)))) else eventFrom l n
/-- the event of a line -/
def eventOf (l : List UInt8) : Option E := eventFrom l 8
theorem eventFrom_step (l : List UInt8) (j : Nat) (h : j < 8) : eventFrom l (8 - j) = if Lib.hasPrefix l (sign j) then some (fill (j : Int) (Lib.trimPrefix l (sign j))) else eventFrom l (8 - (j + 1)) := by
  obtain ⟨n, hn⟩ : ∃ n, 8 - j = n + 1 := ⟨7 - j, by omega⟩
  rw [hn]
  have e : 7 - n = j := by omega
  have e' : 8 - (j + 1) = n := by omega
  rw [e']
  conv => lhs; unfold eventFrom
  rw [e]
def zero : E := ⟨0, [], [], [], false⟩
end Ev
open Go.RowKit
def evE (o : Option Ev.E) : Ending := .returned (.tuple #[evV (o.getD Ev.zero), .bool o.isSome])
theorem sign_ix : ∀ (k : Fin 8) (w : World), (Instr.index 49 (.agg signCells) (.int .i64 (k.val : Int))).run Tryz.prog w = .ok (.string (str (Ev.sign k.val))) w := by
  intro k w
  match k with
  | ⟨0, _⟩ => exact (show (Instr.index 49 (.agg signCells) (.int .i64 0)).run Tryz.prog w = .ok (.string (str (Ev.sign 0))) w from by kernel_rfl)
  | ⟨1, _⟩ => exact (show (Instr.index 49 (.agg signCells) (.int .i64 1)).run Tryz.prog w = .ok (.string (str (Ev.sign 1))) w from by kernel_rfl)
  | ⟨2, _⟩ => exact (show (Instr.index 49 (.agg signCells) (.int .i64 2)).run Tryz.prog w = .ok (.string (str (Ev.sign 2))) w from by kernel_rfl)
  | ⟨3, _⟩ => exact (show (Instr.index 49 (.agg signCells) (.int .i64 3)).run Tryz.prog w = .ok (.string (str (Ev.sign 3))) w from by kernel_rfl)
  | ⟨4, _⟩ => exact (show (Instr.index 49 (.agg signCells) (.int .i64 4)).run Tryz.prog w = .ok (.string (str (Ev.sign 4))) w from by kernel_rfl)
  | ⟨5, _⟩ => exact (show (Instr.index 49 (.agg signCells) (.int .i64 5)).run Tryz.prog w = .ok (.string (str (Ev.sign 5))) w from by kernel_rfl)
  | ⟨6, _⟩ => exact (show (Instr.index 49 (.agg signCells) (.int .i64 6)).run Tryz.prog w = .ok (.string (str (Ev.sign 6))) w from by kernel_rfl)
  | ⟨7, _⟩ => exact (show (Instr.index 49 (.agg signCells) (.int .i64 7)).run Tryz.prog w = .ok (.string (str (Ev.sign 7))) w from by kernel_rfl)
theorem sign_size : (Tryz.prog.info? 49).map (·.size) = some signCells.size := by kernel_rfl

set_option maxHeartbeats 2000000 in
set_option maxRecDepth 100000 in
theorem eventOf_any (l : List UInt8) (w : World) (hl : l.length ≤ 50000) (hE : Env w) :
    Calls Tryz.prog 14 #[.string (str l)] w fun e w' => e = evE (Ev.eventOf l) ∧ Below w.heap.size w w' := by
  obtain ⟨ANS, hANS⟩ : ∃ ANS, Ev.eventOf l = ANS := ⟨_, rfl⟩
  rw [hANS]
  have HA : Hid (Ev.eventFrom l (8 - 0) = ANS) := hANS
  clear hANS
  have hE1 := hE.below (bnew w (.cells #[.int .i64 0, .string ⟨#[]⟩, .string ⟨#[]⟩, .string ⟨#[]⟩, .bool false] 34))
  obtain ⟨t2, fr2, h2⟩ := hE1.signs
  have HE := Lib.hid hE1
  clear hE hE1
  go_enter Tryz.func14, Tryz.ntmps14
  go_wp2_with (refine wpList_load_row rfl 49 _ rfl 0 rfl t2 _ fr2 _ h2 Tryz.underlying49 rfl sign_size ?_)
  go_loopw [9] (fun i wr => ∃ j : Nat, j ≤ 8 ∧ i = .int .i64 j ∧ Hid (Ev.eventFrom l (8 - j) = ANS) ∧ wr = w.alloc (.cells #[.int .i64 0, .string ⟨#[]⟩, .string ⟨#[]⟩, .string ⟨#[]⟩, .bool false] 34)) (fun i _ => 8 - (intOf i).toNat)
  case atStart => exact ⟨0, by omega, rfl, HA, rfl⟩
  case round =>
    obtain ⟨j, hj, rfl, HK, rfl⟩ := hrel
    clear h2 HA
    by_cases hlt : j < 8
    · have hix := sign_ix ⟨j, hlt⟩
      simp only at hix
      have hK := HK.out
      rw [Ev.eventFrom_step l j hlt] at hK
      have cP := fun w => cutpS l (str (Ev.sign j)) w
      rw [str_dat] at cP
      have htl := Lib.trimPrefix_le l (Ev.sign j)
      clear HK
      cases hp : Lib.hasPrefix l (Ev.sign j)
      · rw [hp, if_neg (by decide)] at hK
        rw [hp] at cP
        have HN : Hid (Ev.eventFrom l (8 - (j + 1)) = ANS) := hK
        have CP := Lib.hid cP
        clear hK cP hp
        generalize str (Ev.sign j) = S at *
        go_wp2_with (go_at_call 22; refine (CP.out _).mono ?_; rintro e w' ⟨rfl, rfl⟩)
        go_roundw
        case rel => exact ⟨j + 1, by omega, by go_num, HN, trivial⟩
        case measure => simp [intOf]; omega
      · rw [hp, if_pos rfl] at hK
        rw [hp] at cP
        have HX : Hid (some (Ev.fill (j : Int) (Lib.trimPrefix l (Ev.sign j))) = ANS) := hK
        clear hK
        have CP := Lib.hid cP
        clear cP hp
        generalize Lib.trimPrefix l (Ev.sign j) = R at *
        have cF := Lib.hid (fun w hE => filled_any (j : Int) R w (by omega) hE)
        generalize Ev.fill (j : Int) R = x at *
        generalize str (Ev.sign j) = S at *
        unfold evV at cF
        go_wp2_with (first
          | (go_at_call 22; refine (CP.out _).mono ?_; rintro e w' ⟨rfl, rfl⟩)
          | (go_at_call 23; refine (cF.out _ HE.out).mono ?_; rintro e w2 ⟨rfl, hb2⟩; have hR := blk_below (alloc_blk w _) hb2; obtain ⟨⟨r0, r1, r2, r3, r4⟩, q0, q1, q2, q3, q4⟩ := five hR))
        refine bodyPost_ret (v := .tuple #[.agg #[.int .i64 x.kind, .string (str x.anchor), .string (str x.tag), .string (str x.text), .bool x.plain], .bool true]) (by simp [results, go_sem, r0, r1, r2, r3, r4]) rfl ?_
        refine ⟨(by rw [← HX.out]; rfl), ?_⟩
        repeat (refine Below.setCell ?_ (by first | exact Nat.le_refl _ | exact Nat.le_succ _) _)
        exact bthen (bnew w _) hb2
    · obtain rfl : j = 8 := by omega
      have hK := HK.out
      have hN : ANS = none := by rw [← hK]; rfl
      subst hN
      clear hK HK
      go_wp2
      refine bodyPost_ret (v := .tuple #[.agg #[.int .i64 0, .string ⟨#[]⟩, .string ⟨#[]⟩, .string ⟨#[]⟩, .bool false], .bool false]) (by simp [results, go_sem]) rfl ?_
      exact ⟨rfl, bnew w _⟩
end Go.Proofs.YthkedlcmpibkjaaGreatDoor
