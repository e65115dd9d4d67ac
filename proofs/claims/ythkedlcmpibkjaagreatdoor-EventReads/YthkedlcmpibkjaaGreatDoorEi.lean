/-
  The walk of appendEvent: every form of event but an alias; all of them.
-/
import Derived.Test.YthkedlcmpibkjaaGreatDoorEh
namespace Go.Proofs.YthkedlcmpibkjaaGreatDoor
open Go.RowKit
theorem word_len (l : List UInt8) : (Tg.word l).length ≤ l.length + 2 := by
  unfold Tg.word
  split
  · simp
  · split <;> simp

set_option maxHeartbeats 8000000 in
set_option maxRecDepth 100000 in
theorem add_000 (B : Nat) (v : Value) (l tx : List UInt8) (pl : Bool) (k : Nat) (hk8 : k < 6) (w : World) (hown : Own w B v l) (hB : B ≤ w.heap.size) (hl : l.length ≤ 100000000000) (hE : Env w) :
    Calls Tryz.prog 19 #[v, .agg #[.int .i64 k, .string (str []), .string (str []), .string (str tx), .bool pl]] w fun e w' => Lined w B (l ++ (Ev.sign k ++ (([]) ++ (([]) ++ ([]))))) e w' := by
  obtain ⟨va, vc, rfl⟩ := own_slice hown
  obtain ⟨ANS, hA⟩ : ∃ ANS, l ++ (Ev.sign k ++ (([]) ++ (([]) ++ ([])))) = ANS := ⟨_, rfl⟩
  rw [hA]
  have HA : Hid ((l ++ Ev.sign k) = ANS) := by show _ = _; rw [← hA]; simp
  clear hA
  have hS : (w.alloc (.cells #[.int .i64 k, .string (str []), .string (str []), .string (str tx), .bool pl] 34)).cell? ⟨0, k, none⟩ = some (.string (str (Ev.sign k))) := (hE.below (bnew w _)).sign k (by omega)
  have HO := Lib.hid hown
  have HBW : Hid (Below B w (w.alloc (.cells #[.int .i64 k, .string (str []), .string (str []), .string (str tx), .bool pl] 34))) := (Below.refl B w).alloc hB _
  clear hown hE
  have hsl := sign_len k
  have b7 : ((k : Int) == 7) = false := beq_eq_false_iff_ne.2 (by omega)
  have b6 : ((k : Int) != 6) = true := bne_iff_ne.2 (by omega)
  have hk1 : (k : Int) < 8 := by omega
  rw [str_nil] at *
  go_enter Tryz.func19, Tryz.ntmps19
  go_wp2_with (first
    | (at_builtin; refine wpList_addS rfl (.tmp 5) (.tmp 9) rfl B (.slice va l.length vc) l (Ev.sign k) rfl rfl ?o1 ?l1 ?b1 ?_; (case o1 => exact own_alloc HO.out _); (case l1 => omega); (case b1 => rw [World.size_alloc]; omega); intro v1 w1 ho1 hk1; have hd1 := hk1.blk (alloc_blk w _) (by decide); have c0_1 : w1.cell? ⟨w.heap.size, 0, none⟩ = some (.int .i64 k) := cell_blk hd1 0 _ rfl; have c1_1 : w1.cell? ⟨w.heap.size, 1, none⟩ = some (.string ⟨#[]⟩) := cell_blk hd1 1 _ rfl; have c2_1 : w1.cell? ⟨w.heap.size, 2, none⟩ = some (.string ⟨#[]⟩) := cell_blk hd1 2 _ rfl; have c3_1 : w1.cell? ⟨w.heap.size, 3, none⟩ = some (.string (str tx)) := cell_blk hd1 3 _ rfl; have c4_1 : w1.cell? ⟨w.heap.size, 4, none⟩ = some (.bool pl) := cell_blk hd1 4 _ rfl; have HO1 := Lib.hid ho1; have HB1 := Lib.hid (HBW.out.trans hk1.1); have hz1 : B ≤ w1.heap.size := Nat.le_trans hB (HB1.out.size); clear ho1 hk1 hS))
  go_ret
  exact lined _ _ _ _ _ _ HO1.out HB1.out HA.out

set_option maxHeartbeats 8000000 in
set_option maxRecDepth 100000 in
theorem add_001 (B : Nat) (v : Value) (l tx : List UInt8) (w : World) (hown : Own w B v l) (hB : B ≤ w.heap.size) (hl : l.length ≤ 100000000000) (htx : tx.length ≤ 50000) (hB5 : 5 ≤ B) (hE : Env w) :
    Calls Tryz.prog 19 #[v, .agg #[.int .i64 6, .string (str []), .string (str []), .string (str tx), .bool false]] w fun e w' => Lined w B (l ++ (Ev.sign 6 ++ (([]) ++ (([]) ++ ([32] ++ ([] ++ quoteOf tx)))))) e w' := by
  obtain ⟨va, vc, rfl⟩ := own_slice hown
  obtain ⟨ANS, hA⟩ : ∃ ANS, l ++ (Ev.sign 6 ++ (([]) ++ (([]) ++ ([32] ++ ([] ++ quoteOf tx))))) = ANS := ⟨_, rfl⟩
  rw [hA]
  have HA : Hid ((((l ++ Ev.sign 6) ++ [32]) ++ quoteOf tx) = ANS) := by show _ = _; rw [← hA]; simp
  clear hA
  have hS : (w.alloc (.cells #[.int .i64 6, .string (str []), .string (str []), .string (str tx), .bool false] 34)).cell? ⟨0, 6, none⟩ = some (.string (str (Ev.sign 6))) := (hE.below (bnew w _)).sign 6 (by omega)
  have HO := Lib.hid hown
  have HBW : Hid (Below B w (w.alloc (.cells #[.int .i64 6, .string (str []), .string (str []), .string (str tx), .bool false] 34))) := (Below.refl B w).alloc hB _
  have HE := Lib.hid hE
  clear hown hE
  have hsl := sign_len 6
  have cQ := Lib.hid (fun w hE => quote_any (str tx) w (by rw [str_len]; omega) hE)
  rw [str_dat] at cQ
  have hql := quote_len tx
  rw [str_nil] at *
  go_enter Tryz.func19, Tryz.ntmps19
  go_wp2_with (first
    | (at_builtin; refine wpList_addS rfl (.tmp 5) (.tmp 9) rfl B (.slice va l.length vc) l (Ev.sign 6) rfl rfl ?o1 ?l1 ?b1 ?_; (case o1 => exact own_alloc HO.out _); (case l1 => omega); (case b1 => rw [World.size_alloc]; omega); intro v1 w1 ho1 hk1; have hd1 := hk1.blk (alloc_blk w _) (by decide); have c0_1 : w1.cell? ⟨w.heap.size, 0, none⟩ = some (.int .i64 6) := cell_blk hd1 0 _ rfl; have c1_1 : w1.cell? ⟨w.heap.size, 1, none⟩ = some (.string ⟨#[]⟩) := cell_blk hd1 1 _ rfl; have c2_1 : w1.cell? ⟨w.heap.size, 2, none⟩ = some (.string ⟨#[]⟩) := cell_blk hd1 2 _ rfl; have c3_1 : w1.cell? ⟨w.heap.size, 3, none⟩ = some (.string (str tx)) := cell_blk hd1 3 _ rfl; have c4_1 : w1.cell? ⟨w.heap.size, 4, none⟩ = some (.bool false) := cell_blk hd1 4 _ rfl; have HO1 := Lib.hid ho1; have HB1 := Lib.hid (HBW.out.trans hk1.1); have hz1 : B ≤ w1.heap.size := Nat.le_trans hB (HB1.out.size); clear ho1 hk1 hS)
    | (at_builtin; refine wpList_addB rfl (.tmp 41) (.tmp 42) rfl B v1 (l ++ Ev.sign 6) 32 w1.heap.size _ rfl rfl ?hg ?o1 ?l1 ?b1 ?_; (case hg => exact alloc_blk w1 _); (case o1 => exact own_alloc HO1.out _); (case l1 => simp; omega); (case b1 => rw [World.size_alloc]; omega); intro v2 w2 ho2 hk2; have hk2' : Kept B w1 w2 := ((Kept.refl B w1).alloc hz1 _).trans ⟨⟨hk2.1.os, hk2.1.tape, hk2.1.output, hk2.1.size, hk2.1.block⟩, hk2.2⟩; have hd2 := hk2'.blk hd1 (by decide); have hz2 : B ≤ w2.heap.size := Nat.le_trans hz1 hk2'.size; have HB2 := Lib.hid (HB1.out.trans hk2'.1); have HO2 := Lib.hid ho2; clear c0_1 c1_1 c2_1 c3_1 c4_1; have c0_2 : w2.cell? ⟨w.heap.size, 0, none⟩ = some (.int .i64 6) := cell_blk hd2 0 _ rfl; have c1_2 : w2.cell? ⟨w.heap.size, 1, none⟩ = some (.string ⟨#[]⟩) := cell_blk hd2 1 _ rfl; have c2_2 : w2.cell? ⟨w.heap.size, 2, none⟩ = some (.string ⟨#[]⟩) := cell_blk hd2 2 _ rfl; have c3_2 : w2.cell? ⟨w.heap.size, 3, none⟩ = some (.string (str tx)) := cell_blk hd2 3 _ rfl; have c4_2 : w2.cell? ⟨w.heap.size, 4, none⟩ = some (.bool false) := cell_blk hd2 4 _ rfl; clear ho2 hk2)
    | (go_at_call 36; refine (cQ.out _ (HE.out.kept hB5 HB2.out)).mono ?_; rintro e w3 ⟨rfl, hb3⟩; have hb3' : Below w2.heap.size w2 w3 := ⟨hb3.os, hb3.tape, hb3.output, hb3.size, hb3.block⟩; have HO3 := Lib.hid (own_below HO2.out hb3'); have hd3 := blk_below hd2 hb3'; have hz3 : B ≤ w3.heap.size := Nat.le_trans hz2 hb3'.size; have HB3 := Lib.hid (HB2.out.trans (hb3'.mono hz2)); clear c0_2 c1_2 c2_2 c3_2 c4_2)
    | (at_builtin; refine wpList_addS rfl (.tmp 49) (.tmp 52) rfl B v2 ((l ++ Ev.sign 6) ++ [32]) (quoteOf tx) rfl rfl ?o1 ?l1 ?b1 ?_; (case o1 => exact HO3.out); (case l1 => simp; omega); (case b1 => exact hz3); intro v4 w4 ho4 hk4; have hk4' : Kept B w3 w4 := ⟨⟨hk4.1.os, hk4.1.tape, hk4.1.output, hk4.1.size, hk4.1.block⟩, hk4.2⟩; have hd4 := hk4'.blk hd3 (by decide); have hz4 : B ≤ w4.heap.size := Nat.le_trans hz3 hk4'.size; have HB4 := Lib.hid (HB3.out.trans hk4'.1); have HO4 := Lib.hid ho4; clear ho4 hk4))
  go_ret
  exact lined _ _ _ _ _ _ HO4.out HB4.out HA.out

set_option maxHeartbeats 8000000 in
set_option maxRecDepth 100000 in
theorem add_002 (B : Nat) (v : Value) (l tx : List UInt8) (w : World) (hown : Own w B v l) (hB : B ≤ w.heap.size) (hl : l.length ≤ 100000000000) (htx : tx.length ≤ 50000) (hB5 : 5 ≤ B) (hE : Env w) :
    Calls Tryz.prog 19 #[v, .agg #[.int .i64 6, .string (str []), .string (str []), .string (str tx), .bool true]] w fun e w' => Lined w B (l ++ (Ev.sign 6 ++ (([]) ++ (([]) ++ ([32] ++ ([58] ++ quoteOf tx)))))) e w' := by
  obtain ⟨va, vc, rfl⟩ := own_slice hown
  obtain ⟨ANS, hA⟩ : ∃ ANS, l ++ (Ev.sign 6 ++ (([]) ++ (([]) ++ ([32] ++ ([58] ++ quoteOf tx))))) = ANS := ⟨_, rfl⟩
  rw [hA]
  have HA : Hid (((((l ++ Ev.sign 6) ++ [32]) ++ [58]) ++ quoteOf tx) = ANS) := by show _ = _; rw [← hA]; simp
  clear hA
  have hS : (w.alloc (.cells #[.int .i64 6, .string (str []), .string (str []), .string (str tx), .bool true] 34)).cell? ⟨0, 6, none⟩ = some (.string (str (Ev.sign 6))) := (hE.below (bnew w _)).sign 6 (by omega)
  have HO := Lib.hid hown
  have HBW : Hid (Below B w (w.alloc (.cells #[.int .i64 6, .string (str []), .string (str []), .string (str tx), .bool true] 34))) := (Below.refl B w).alloc hB _
  have HE := Lib.hid hE
  clear hown hE
  have hsl := sign_len 6
  have cQ := Lib.hid (fun w hE => quote_any (str tx) w (by rw [str_len]; omega) hE)
  rw [str_dat] at cQ
  have hql := quote_len tx
  rw [str_nil] at *
  go_enter Tryz.func19, Tryz.ntmps19
  go_wp2_with (first
    | (at_builtin; refine wpList_addS rfl (.tmp 5) (.tmp 9) rfl B (.slice va l.length vc) l (Ev.sign 6) rfl rfl ?o1 ?l1 ?b1 ?_; (case o1 => exact own_alloc HO.out _); (case l1 => omega); (case b1 => rw [World.size_alloc]; omega); intro v1 w1 ho1 hk1; have hd1 := hk1.blk (alloc_blk w _) (by decide); have c0_1 : w1.cell? ⟨w.heap.size, 0, none⟩ = some (.int .i64 6) := cell_blk hd1 0 _ rfl; have c1_1 : w1.cell? ⟨w.heap.size, 1, none⟩ = some (.string ⟨#[]⟩) := cell_blk hd1 1 _ rfl; have c2_1 : w1.cell? ⟨w.heap.size, 2, none⟩ = some (.string ⟨#[]⟩) := cell_blk hd1 2 _ rfl; have c3_1 : w1.cell? ⟨w.heap.size, 3, none⟩ = some (.string (str tx)) := cell_blk hd1 3 _ rfl; have c4_1 : w1.cell? ⟨w.heap.size, 4, none⟩ = some (.bool true) := cell_blk hd1 4 _ rfl; have HO1 := Lib.hid ho1; have HB1 := Lib.hid (HBW.out.trans hk1.1); have hz1 : B ≤ w1.heap.size := Nat.le_trans hB (HB1.out.size); clear ho1 hk1 hS)
    | (at_builtin; refine wpList_addB rfl (.tmp 41) (.tmp 42) rfl B v1 (l ++ Ev.sign 6) 32 w1.heap.size _ rfl rfl ?hg ?o1 ?l1 ?b1 ?_; (case hg => exact alloc_blk w1 _); (case o1 => exact own_alloc HO1.out _); (case l1 => simp; omega); (case b1 => rw [World.size_alloc]; omega); intro v2 w2 ho2 hk2; have hk2' : Kept B w1 w2 := ((Kept.refl B w1).alloc hz1 _).trans ⟨⟨hk2.1.os, hk2.1.tape, hk2.1.output, hk2.1.size, hk2.1.block⟩, hk2.2⟩; have hd2 := hk2'.blk hd1 (by decide); have hz2 : B ≤ w2.heap.size := Nat.le_trans hz1 hk2'.size; have HB2 := Lib.hid (HB1.out.trans hk2'.1); have HO2 := Lib.hid ho2; clear c0_1 c1_1 c2_1 c3_1 c4_1; have c0_2 : w2.cell? ⟨w.heap.size, 0, none⟩ = some (.int .i64 6) := cell_blk hd2 0 _ rfl; have c1_2 : w2.cell? ⟨w.heap.size, 1, none⟩ = some (.string ⟨#[]⟩) := cell_blk hd2 1 _ rfl; have c2_2 : w2.cell? ⟨w.heap.size, 2, none⟩ = some (.string ⟨#[]⟩) := cell_blk hd2 2 _ rfl; have c3_2 : w2.cell? ⟨w.heap.size, 3, none⟩ = some (.string (str tx)) := cell_blk hd2 3 _ rfl; have c4_2 : w2.cell? ⟨w.heap.size, 4, none⟩ = some (.bool true) := cell_blk hd2 4 _ rfl; clear ho2 hk2)
    | (at_builtin; refine wpList_addB rfl (.tmp 46) (.tmp 47) rfl B v2 ((l ++ Ev.sign 6) ++ [32]) 58 w2.heap.size _ rfl rfl ?hg ?o1 ?l1 ?b1 ?_; (case hg => exact alloc_blk w2 _); (case o1 => exact own_alloc HO2.out _); (case l1 => simp; omega); (case b1 => rw [World.size_alloc]; omega); intro v3 w3 ho3 hk3; have hk3' : Kept B w2 w3 := ((Kept.refl B w2).alloc hz2 _).trans ⟨⟨hk3.1.os, hk3.1.tape, hk3.1.output, hk3.1.size, hk3.1.block⟩, hk3.2⟩; have hd3 := hk3'.blk hd2 (by decide); have hz3 : B ≤ w3.heap.size := Nat.le_trans hz2 hk3'.size; have HB3 := Lib.hid (HB2.out.trans hk3'.1); have HO3 := Lib.hid ho3; clear c0_2 c1_2 c2_2 c3_2 c4_2; have c0_3 : w3.cell? ⟨w.heap.size, 0, none⟩ = some (.int .i64 6) := cell_blk hd3 0 _ rfl; have c1_3 : w3.cell? ⟨w.heap.size, 1, none⟩ = some (.string ⟨#[]⟩) := cell_blk hd3 1 _ rfl; have c2_3 : w3.cell? ⟨w.heap.size, 2, none⟩ = some (.string ⟨#[]⟩) := cell_blk hd3 2 _ rfl; have c3_3 : w3.cell? ⟨w.heap.size, 3, none⟩ = some (.string (str tx)) := cell_blk hd3 3 _ rfl; have c4_3 : w3.cell? ⟨w.heap.size, 4, none⟩ = some (.bool true) := cell_blk hd3 4 _ rfl; clear ho3 hk3)
    | (go_at_call 36; refine (cQ.out _ (HE.out.kept hB5 HB3.out)).mono ?_; rintro e w4 ⟨rfl, hb4⟩; have hb4' : Below w3.heap.size w3 w4 := ⟨hb4.os, hb4.tape, hb4.output, hb4.size, hb4.block⟩; have HO4 := Lib.hid (own_below HO3.out hb4'); have hd4 := blk_below hd3 hb4'; have hz4 : B ≤ w4.heap.size := Nat.le_trans hz3 hb4'.size; have HB4 := Lib.hid (HB3.out.trans (hb4'.mono hz3)); clear c0_3 c1_3 c2_3 c3_3 c4_3)
    | (at_builtin; refine wpList_addS rfl (.tmp 49) (.tmp 52) rfl B v3 (((l ++ Ev.sign 6) ++ [32]) ++ [58]) (quoteOf tx) rfl rfl ?o1 ?l1 ?b1 ?_; (case o1 => exact HO4.out); (case l1 => simp; omega); (case b1 => exact hz4); intro v5 w5 ho5 hk5; have hk5' : Kept B w4 w5 := ⟨⟨hk5.1.os, hk5.1.tape, hk5.1.output, hk5.1.size, hk5.1.block⟩, hk5.2⟩; have hd5 := hk5'.blk hd4 (by decide); have hz5 : B ≤ w5.heap.size := Nat.le_trans hz4 hk5'.size; have HB5 := Lib.hid (HB4.out.trans hk5'.1); have HO5 := Lib.hid ho5; clear ho5 hk5))
  go_ret
  exact lined _ _ _ _ _ _ HO5.out HB5.out HA.out

set_option maxHeartbeats 8000000 in
set_option maxRecDepth 100000 in
theorem add_010 (B : Nat) (v : Value) (l tg tx : List UInt8) (pl : Bool) (k : Nat) (hk8 : k < 6) (w : World) (hown : Own w B v l) (hB : B ≤ w.heap.size) (hl : l.length ≤ 100000000000) (ht : tg.length ≤ 50000) (htn : tg ≠ []) (hE : Env w) :
    Calls Tryz.prog 19 #[v, .agg #[.int .i64 k, .string (str []), .string (str tg), .string (str tx), .bool pl]] w fun e w' => Lined w B (l ++ (Ev.sign k ++ (([]) ++ (([32] ++ Tg.word tg) ++ ([]))))) e w' := by
  obtain ⟨va, vc, rfl⟩ := own_slice hown
  obtain ⟨ANS, hA⟩ : ∃ ANS, l ++ (Ev.sign k ++ (([]) ++ (([32] ++ Tg.word tg) ++ ([])))) = ANS := ⟨_, rfl⟩
  rw [hA]
  have HA : Hid ((((l ++ Ev.sign k) ++ [32]) ++ Tg.word tg) = ANS) := by show _ = _; rw [← hA]; simp
  clear hA
  have hS : (w.alloc (.cells #[.int .i64 k, .string (str []), .string (str tg), .string (str tx), .bool pl] 34)).cell? ⟨0, k, none⟩ = some (.string (str (Ev.sign k))) := (hE.below (bnew w _)).sign k (by omega)
  have HO := Lib.hid hown
  have HBW : Hid (Below B w (w.alloc (.cells #[.int .i64 k, .string (str []), .string (str tg), .string (str tx), .bool pl] 34))) := (Below.refl B w).alloc hB _
  clear hown hE
  have hsl := sign_len k
  have hwl := word_len tg
  have htemp := ba_isEmpty (str tg) (by rw [str_len]; exact List.length_pos_iff.2 htn)
  have htnil := ba_notnil (str tg) (by rw [str_len]; exact List.length_pos_iff.2 htn)
  have cW := Lib.hid (fun w => Tag.word_any (str tg) w (by rw [str_len]; omega))
  rw [str_dat] at cW
  have b7 : ((k : Int) == 7) = false := beq_eq_false_iff_ne.2 (by omega)
  have b6 : ((k : Int) != 6) = true := bne_iff_ne.2 (by omega)
  have hk1 : (k : Int) < 8 := by omega
  rw [str_nil] at *
  go_enter Tryz.func19, Tryz.ntmps19
  go_wp2_with (first
    | (at_builtin; refine wpList_addS rfl (.tmp 5) (.tmp 9) rfl B (.slice va l.length vc) l (Ev.sign k) rfl rfl ?o1 ?l1 ?b1 ?_; (case o1 => exact own_alloc HO.out _); (case l1 => omega); (case b1 => rw [World.size_alloc]; omega); intro v1 w1 ho1 hk1; have hd1 := hk1.blk (alloc_blk w _) (by decide); have c0_1 : w1.cell? ⟨w.heap.size, 0, none⟩ = some (.int .i64 k) := cell_blk hd1 0 _ rfl; have c1_1 : w1.cell? ⟨w.heap.size, 1, none⟩ = some (.string ⟨#[]⟩) := cell_blk hd1 1 _ rfl; have c2_1 : w1.cell? ⟨w.heap.size, 2, none⟩ = some (.string (str tg)) := cell_blk hd1 2 _ rfl; have c3_1 : w1.cell? ⟨w.heap.size, 3, none⟩ = some (.string (str tx)) := cell_blk hd1 3 _ rfl; have c4_1 : w1.cell? ⟨w.heap.size, 4, none⟩ = some (.bool pl) := cell_blk hd1 4 _ rfl; have HO1 := Lib.hid ho1; have HB1 := Lib.hid (HBW.out.trans hk1.1); have hz1 : B ≤ w1.heap.size := Nat.le_trans hB (HB1.out.size); clear ho1 hk1 hS))
  have hz1' : B ≤ (w1.alloc (.cells #[.int .u8 32] 5)).heap.size := by rw [World.size_alloc]; omega
  go_region_held3 (fun w' => w'.cell? ⟨w.heap.size, 2, none⟩ = some (.string (str tg)))
    (first | go_keep | exact cell_blk hd4 2 _ rfl | exact cell_blk hd3 2 _ rfl | exact cell_blk hd2 2 _ rfl)
    (first
      | (go_at_call 35; refine (cW.out _).mono ?_; rintro e w3 ⟨rfl, hb3⟩; have hb3' : Below w2.heap.size w2 w3 := ⟨hb3.os, hb3.tape, hb3.output, hb3.size, hb3.block⟩; have HO3 := Lib.hid (own_below HO2.out hb3'); have hd3 := blk_below hd2 hb3'; have hz3 : B ≤ w3.heap.size := Nat.le_trans hz2 hb3'.size; have HB3 := Lib.hid (HB2.out.trans (hb3'.mono hz2)))
      | (refine step_addB (by rfl) (.tmp 30) (.tmp 31) (by rfl) B v1 (l ++ Ev.sign k) 32 w1.heap.size _ (by rfl) (by rfl) (by exact alloc_blk w1 _) (by exact own_alloc HO1.out _) (by simp; omega) (by exact hz1') ?_; intro v2 w2 ho2 hk2; have hk2' : Kept B w1 w2 := ((Kept.refl B w1).alloc hz1 _).trans ⟨⟨hk2.1.os, hk2.1.tape, hk2.1.output, hk2.1.size, hk2.1.block⟩, hk2.2⟩; have hd2 := hk2'.blk hd1 (by decide); have hz2 : B ≤ w2.heap.size := Nat.le_trans hz1 hk2'.size; have HB2 := Lib.hid (HB1.out.trans hk2'.1); have HO2 := Lib.hid ho2)
      | (refine step_addS (by rfl) (.tmp 32) (.tmp 35) (by rfl) B v2 ((l ++ Ev.sign k) ++ [32]) (Tg.word tg) (by rfl) (by rfl) (by exact HO3.out) (by simp; omega) (by exact hz3) ?_; intro v4 w4 ho4 hk4; have hk4' : Kept B w3 w4 := ⟨⟨hk4.1.os, hk4.1.tape, hk4.1.output, hk4.1.size, hk4.1.block⟩, hk4.2⟩; have hd4 := hk4'.blk hd3 (by decide); have hz4 : B ≤ w4.heap.size := Nat.le_trans hz3 hk4'.size; have HB4 := Lib.hid (HB3.out.trans hk4'.1); have HO4 := Lib.hid ho4))
  clear c0_1 c1_1 c2_1 c3_1 c4_1
  have c0_4 : w4.cell? ⟨w.heap.size, 0, none⟩ = some (.int .i64 k) := cell_blk hd4 0 _ rfl
  have c1_4 : w4.cell? ⟨w.heap.size, 1, none⟩ = some (.string ⟨#[]⟩) := cell_blk hd4 1 _ rfl
  have c2_4 : w4.cell? ⟨w.heap.size, 2, none⟩ = some (.string (str tg)) := cell_blk hd4 2 _ rfl
  have c3_4 : w4.cell? ⟨w.heap.size, 3, none⟩ = some (.string (str tx)) := cell_blk hd4 3 _ rfl
  have c4_4 : w4.cell? ⟨w.heap.size, 4, none⟩ = some (.bool pl) := cell_blk hd4 4 _ rfl
  clear ho2 hk2 ho4 hk4 hk2' hk4'
  go_wp2
  go_ret
  exact lined _ _ _ _ _ _ HO4.out HB4.out HA.out

set_option maxHeartbeats 8000000 in
set_option maxRecDepth 100000 in
theorem add_011 (B : Nat) (v : Value) (l tg tx : List UInt8) (w : World) (hown : Own w B v l) (hB : B ≤ w.heap.size) (hl : l.length ≤ 100000000000) (ht : tg.length ≤ 50000) (htn : tg ≠ []) (htx : tx.length ≤ 50000) (hB5 : 5 ≤ B) (hE : Env w) :
    Calls Tryz.prog 19 #[v, .agg #[.int .i64 6, .string (str []), .string (str tg), .string (str tx), .bool false]] w fun e w' => Lined w B (l ++ (Ev.sign 6 ++ (([]) ++ (([32] ++ Tg.word tg) ++ ([32] ++ ([] ++ quoteOf tx)))))) e w' := by
  obtain ⟨va, vc, rfl⟩ := own_slice hown
  obtain ⟨ANS, hA⟩ : ∃ ANS, l ++ (Ev.sign 6 ++ (([]) ++ (([32] ++ Tg.word tg) ++ ([32] ++ ([] ++ quoteOf tx))))) = ANS := ⟨_, rfl⟩
  rw [hA]
  have HA : Hid ((((((l ++ Ev.sign 6) ++ [32]) ++ Tg.word tg) ++ [32]) ++ quoteOf tx) = ANS) := by show _ = _; rw [← hA]; simp
  clear hA
  have hS : (w.alloc (.cells #[.int .i64 6, .string (str []), .string (str tg), .string (str tx), .bool false] 34)).cell? ⟨0, 6, none⟩ = some (.string (str (Ev.sign 6))) := (hE.below (bnew w _)).sign 6 (by omega)
  have HO := Lib.hid hown
  have HBW : Hid (Below B w (w.alloc (.cells #[.int .i64 6, .string (str []), .string (str tg), .string (str tx), .bool false] 34))) := (Below.refl B w).alloc hB _
  have HE := Lib.hid hE
  clear hown hE
  have hsl := sign_len 6
  have hwl := word_len tg
  have htemp := ba_isEmpty (str tg) (by rw [str_len]; exact List.length_pos_iff.2 htn)
  have htnil := ba_notnil (str tg) (by rw [str_len]; exact List.length_pos_iff.2 htn)
  have cW := Lib.hid (fun w => Tag.word_any (str tg) w (by rw [str_len]; omega))
  rw [str_dat] at cW
  have cQ := Lib.hid (fun w hE => quote_any (str tx) w (by rw [str_len]; omega) hE)
  rw [str_dat] at cQ
  have hql := quote_len tx
  rw [str_nil] at *
  go_enter Tryz.func19, Tryz.ntmps19
  go_wp2_with (first
    | (at_builtin; refine wpList_addS rfl (.tmp 5) (.tmp 9) rfl B (.slice va l.length vc) l (Ev.sign 6) rfl rfl ?o1 ?l1 ?b1 ?_; (case o1 => exact own_alloc HO.out _); (case l1 => omega); (case b1 => rw [World.size_alloc]; omega); intro v1 w1 ho1 hk1; have hd1 := hk1.blk (alloc_blk w _) (by decide); have c0_1 : w1.cell? ⟨w.heap.size, 0, none⟩ = some (.int .i64 6) := cell_blk hd1 0 _ rfl; have c1_1 : w1.cell? ⟨w.heap.size, 1, none⟩ = some (.string ⟨#[]⟩) := cell_blk hd1 1 _ rfl; have c2_1 : w1.cell? ⟨w.heap.size, 2, none⟩ = some (.string (str tg)) := cell_blk hd1 2 _ rfl; have c3_1 : w1.cell? ⟨w.heap.size, 3, none⟩ = some (.string (str tx)) := cell_blk hd1 3 _ rfl; have c4_1 : w1.cell? ⟨w.heap.size, 4, none⟩ = some (.bool false) := cell_blk hd1 4 _ rfl; have HO1 := Lib.hid ho1; have HB1 := Lib.hid (HBW.out.trans hk1.1); have hz1 : B ≤ w1.heap.size := Nat.le_trans hB (HB1.out.size); clear ho1 hk1 hS))
  have hz1' : B ≤ (w1.alloc (.cells #[.int .u8 32] 5)).heap.size := by rw [World.size_alloc]; omega
  go_region_held3 (fun w' => w'.cell? ⟨w.heap.size, 2, none⟩ = some (.string (str tg)))
    (first | go_keep | exact cell_blk hd4 2 _ rfl | exact cell_blk hd3 2 _ rfl | exact cell_blk hd2 2 _ rfl)
    (first
      | (go_at_call 35; refine (cW.out _).mono ?_; rintro e w3 ⟨rfl, hb3⟩; have hb3' : Below w2.heap.size w2 w3 := ⟨hb3.os, hb3.tape, hb3.output, hb3.size, hb3.block⟩; have HO3 := Lib.hid (own_below HO2.out hb3'); have hd3 := blk_below hd2 hb3'; have hz3 : B ≤ w3.heap.size := Nat.le_trans hz2 hb3'.size; have HB3 := Lib.hid (HB2.out.trans (hb3'.mono hz2)))
      | (refine step_addB (by rfl) (.tmp 30) (.tmp 31) (by rfl) B v1 (l ++ Ev.sign 6) 32 w1.heap.size _ (by rfl) (by rfl) (by exact alloc_blk w1 _) (by exact own_alloc HO1.out _) (by simp; omega) (by exact hz1') ?_; intro v2 w2 ho2 hk2; have hk2' : Kept B w1 w2 := ((Kept.refl B w1).alloc hz1 _).trans ⟨⟨hk2.1.os, hk2.1.tape, hk2.1.output, hk2.1.size, hk2.1.block⟩, hk2.2⟩; have hd2 := hk2'.blk hd1 (by decide); have hz2 : B ≤ w2.heap.size := Nat.le_trans hz1 hk2'.size; have HB2 := Lib.hid (HB1.out.trans hk2'.1); have HO2 := Lib.hid ho2)
      | (refine step_addS (by rfl) (.tmp 32) (.tmp 35) (by rfl) B v2 ((l ++ Ev.sign 6) ++ [32]) (Tg.word tg) (by rfl) (by rfl) (by exact HO3.out) (by simp; omega) (by exact hz3) ?_; intro v4 w4 ho4 hk4; have hk4' : Kept B w3 w4 := ⟨⟨hk4.1.os, hk4.1.tape, hk4.1.output, hk4.1.size, hk4.1.block⟩, hk4.2⟩; have hd4 := hk4'.blk hd3 (by decide); have hz4 : B ≤ w4.heap.size := Nat.le_trans hz3 hk4'.size; have HB4 := Lib.hid (HB3.out.trans hk4'.1); have HO4 := Lib.hid ho4))
  clear c0_1 c1_1 c2_1 c3_1 c4_1
  have c0_4 : w4.cell? ⟨w.heap.size, 0, none⟩ = some (.int .i64 6) := cell_blk hd4 0 _ rfl
  have c1_4 : w4.cell? ⟨w.heap.size, 1, none⟩ = some (.string ⟨#[]⟩) := cell_blk hd4 1 _ rfl
  have c2_4 : w4.cell? ⟨w.heap.size, 2, none⟩ = some (.string (str tg)) := cell_blk hd4 2 _ rfl
  have c3_4 : w4.cell? ⟨w.heap.size, 3, none⟩ = some (.string (str tx)) := cell_blk hd4 3 _ rfl
  have c4_4 : w4.cell? ⟨w.heap.size, 4, none⟩ = some (.bool false) := cell_blk hd4 4 _ rfl
  clear ho2 hk2 ho4 hk4 hk2' hk4'
  go_wp2_with (first
    | (at_builtin; refine wpList_addB rfl (.tmp 41) (.tmp 42) rfl B v4 (((l ++ Ev.sign 6) ++ [32]) ++ Tg.word tg) 32 w4.heap.size _ rfl rfl ?hg ?o1 ?l1 ?b1 ?_; (case hg => exact alloc_blk w4 _); (case o1 => exact own_alloc HO4.out _); (case l1 => simp; omega); (case b1 => rw [World.size_alloc]; omega); intro v5 w5 ho5 hk5; have hk5' : Kept B w4 w5 := ((Kept.refl B w4).alloc hz4 _).trans ⟨⟨hk5.1.os, hk5.1.tape, hk5.1.output, hk5.1.size, hk5.1.block⟩, hk5.2⟩; have hd5 := hk5'.blk hd4 (by decide); have hz5 : B ≤ w5.heap.size := Nat.le_trans hz4 hk5'.size; have HB5 := Lib.hid (HB4.out.trans hk5'.1); have HO5 := Lib.hid ho5; clear c0_4 c1_4 c2_4 c3_4 c4_4; have c0_5 : w5.cell? ⟨w.heap.size, 0, none⟩ = some (.int .i64 6) := cell_blk hd5 0 _ rfl; have c1_5 : w5.cell? ⟨w.heap.size, 1, none⟩ = some (.string ⟨#[]⟩) := cell_blk hd5 1 _ rfl; have c2_5 : w5.cell? ⟨w.heap.size, 2, none⟩ = some (.string (str tg)) := cell_blk hd5 2 _ rfl; have c3_5 : w5.cell? ⟨w.heap.size, 3, none⟩ = some (.string (str tx)) := cell_blk hd5 3 _ rfl; have c4_5 : w5.cell? ⟨w.heap.size, 4, none⟩ = some (.bool false) := cell_blk hd5 4 _ rfl; clear ho5 hk5)
    | (go_at_call 36; refine (cQ.out _ (HE.out.kept hB5 HB5.out)).mono ?_; rintro e w6 ⟨rfl, hb6⟩; have hb6' : Below w5.heap.size w5 w6 := ⟨hb6.os, hb6.tape, hb6.output, hb6.size, hb6.block⟩; have HO6 := Lib.hid (own_below HO5.out hb6'); have hd6 := blk_below hd5 hb6'; have hz6 : B ≤ w6.heap.size := Nat.le_trans hz5 hb6'.size; have HB6 := Lib.hid (HB5.out.trans (hb6'.mono hz5)); clear c0_5 c1_5 c2_5 c3_5 c4_5)
    | (at_builtin; refine wpList_addS rfl (.tmp 49) (.tmp 52) rfl B v5 ((((l ++ Ev.sign 6) ++ [32]) ++ Tg.word tg) ++ [32]) (quoteOf tx) rfl rfl ?o1 ?l1 ?b1 ?_; (case o1 => exact HO6.out); (case l1 => simp; omega); (case b1 => exact hz6); intro v7 w7 ho7 hk7; have hk7' : Kept B w6 w7 := ⟨⟨hk7.1.os, hk7.1.tape, hk7.1.output, hk7.1.size, hk7.1.block⟩, hk7.2⟩; have hd7 := hk7'.blk hd6 (by decide); have hz7 : B ≤ w7.heap.size := Nat.le_trans hz6 hk7'.size; have HB7 := Lib.hid (HB6.out.trans hk7'.1); have HO7 := Lib.hid ho7; clear ho7 hk7))
  go_ret
  exact lined _ _ _ _ _ _ HO7.out HB7.out HA.out

set_option maxHeartbeats 8000000 in
set_option maxRecDepth 100000 in
theorem add_012 (B : Nat) (v : Value) (l tg tx : List UInt8) (w : World) (hown : Own w B v l) (hB : B ≤ w.heap.size) (hl : l.length ≤ 100000000000) (ht : tg.length ≤ 50000) (htn : tg ≠ []) (htx : tx.length ≤ 50000) (hB5 : 5 ≤ B) (hE : Env w) :
    Calls Tryz.prog 19 #[v, .agg #[.int .i64 6, .string (str []), .string (str tg), .string (str tx), .bool true]] w fun e w' => Lined w B (l ++ (Ev.sign 6 ++ (([]) ++ (([32] ++ Tg.word tg) ++ ([32] ++ ([58] ++ quoteOf tx)))))) e w' := by
  obtain ⟨va, vc, rfl⟩ := own_slice hown
  obtain ⟨ANS, hA⟩ : ∃ ANS, l ++ (Ev.sign 6 ++ (([]) ++ (([32] ++ Tg.word tg) ++ ([32] ++ ([58] ++ quoteOf tx))))) = ANS := ⟨_, rfl⟩
  rw [hA]
  have HA : Hid (((((((l ++ Ev.sign 6) ++ [32]) ++ Tg.word tg) ++ [32]) ++ [58]) ++ quoteOf tx) = ANS) := by show _ = _; rw [← hA]; simp
  clear hA
  have hS : (w.alloc (.cells #[.int .i64 6, .string (str []), .string (str tg), .string (str tx), .bool true] 34)).cell? ⟨0, 6, none⟩ = some (.string (str (Ev.sign 6))) := (hE.below (bnew w _)).sign 6 (by omega)
  have HO := Lib.hid hown
  have HBW : Hid (Below B w (w.alloc (.cells #[.int .i64 6, .string (str []), .string (str tg), .string (str tx), .bool true] 34))) := (Below.refl B w).alloc hB _
  have HE := Lib.hid hE
  clear hown hE
  have hsl := sign_len 6
  have hwl := word_len tg
  have htemp := ba_isEmpty (str tg) (by rw [str_len]; exact List.length_pos_iff.2 htn)
  have htnil := ba_notnil (str tg) (by rw [str_len]; exact List.length_pos_iff.2 htn)
  have cW := Lib.hid (fun w => Tag.word_any (str tg) w (by rw [str_len]; omega))
  rw [str_dat] at cW
  have cQ := Lib.hid (fun w hE => quote_any (str tx) w (by rw [str_len]; omega) hE)
  rw [str_dat] at cQ
  have hql := quote_len tx
  rw [str_nil] at *
  go_enter Tryz.func19, Tryz.ntmps19
  go_wp2_with (first
    | (at_builtin; refine wpList_addS rfl (.tmp 5) (.tmp 9) rfl B (.slice va l.length vc) l (Ev.sign 6) rfl rfl ?o1 ?l1 ?b1 ?_; (case o1 => exact own_alloc HO.out _); (case l1 => omega); (case b1 => rw [World.size_alloc]; omega); intro v1 w1 ho1 hk1; have hd1 := hk1.blk (alloc_blk w _) (by decide); have c0_1 : w1.cell? ⟨w.heap.size, 0, none⟩ = some (.int .i64 6) := cell_blk hd1 0 _ rfl; have c1_1 : w1.cell? ⟨w.heap.size, 1, none⟩ = some (.string ⟨#[]⟩) := cell_blk hd1 1 _ rfl; have c2_1 : w1.cell? ⟨w.heap.size, 2, none⟩ = some (.string (str tg)) := cell_blk hd1 2 _ rfl; have c3_1 : w1.cell? ⟨w.heap.size, 3, none⟩ = some (.string (str tx)) := cell_blk hd1 3 _ rfl; have c4_1 : w1.cell? ⟨w.heap.size, 4, none⟩ = some (.bool true) := cell_blk hd1 4 _ rfl; have HO1 := Lib.hid ho1; have HB1 := Lib.hid (HBW.out.trans hk1.1); have hz1 : B ≤ w1.heap.size := Nat.le_trans hB (HB1.out.size); clear ho1 hk1 hS))
  have hz1' : B ≤ (w1.alloc (.cells #[.int .u8 32] 5)).heap.size := by rw [World.size_alloc]; omega
  go_region_held3 (fun w' => w'.cell? ⟨w.heap.size, 2, none⟩ = some (.string (str tg)))
    (first | go_keep | exact cell_blk hd4 2 _ rfl | exact cell_blk hd3 2 _ rfl | exact cell_blk hd2 2 _ rfl)
    (first
      | (go_at_call 35; refine (cW.out _).mono ?_; rintro e w3 ⟨rfl, hb3⟩; have hb3' : Below w2.heap.size w2 w3 := ⟨hb3.os, hb3.tape, hb3.output, hb3.size, hb3.block⟩; have HO3 := Lib.hid (own_below HO2.out hb3'); have hd3 := blk_below hd2 hb3'; have hz3 : B ≤ w3.heap.size := Nat.le_trans hz2 hb3'.size; have HB3 := Lib.hid (HB2.out.trans (hb3'.mono hz2)))
      | (refine step_addB (by rfl) (.tmp 30) (.tmp 31) (by rfl) B v1 (l ++ Ev.sign 6) 32 w1.heap.size _ (by rfl) (by rfl) (by exact alloc_blk w1 _) (by exact own_alloc HO1.out _) (by simp; omega) (by exact hz1') ?_; intro v2 w2 ho2 hk2; have hk2' : Kept B w1 w2 := ((Kept.refl B w1).alloc hz1 _).trans ⟨⟨hk2.1.os, hk2.1.tape, hk2.1.output, hk2.1.size, hk2.1.block⟩, hk2.2⟩; have hd2 := hk2'.blk hd1 (by decide); have hz2 : B ≤ w2.heap.size := Nat.le_trans hz1 hk2'.size; have HB2 := Lib.hid (HB1.out.trans hk2'.1); have HO2 := Lib.hid ho2)
      | (refine step_addS (by rfl) (.tmp 32) (.tmp 35) (by rfl) B v2 ((l ++ Ev.sign 6) ++ [32]) (Tg.word tg) (by rfl) (by rfl) (by exact HO3.out) (by simp; omega) (by exact hz3) ?_; intro v4 w4 ho4 hk4; have hk4' : Kept B w3 w4 := ⟨⟨hk4.1.os, hk4.1.tape, hk4.1.output, hk4.1.size, hk4.1.block⟩, hk4.2⟩; have hd4 := hk4'.blk hd3 (by decide); have hz4 : B ≤ w4.heap.size := Nat.le_trans hz3 hk4'.size; have HB4 := Lib.hid (HB3.out.trans hk4'.1); have HO4 := Lib.hid ho4))
  clear c0_1 c1_1 c2_1 c3_1 c4_1
  have c0_4 : w4.cell? ⟨w.heap.size, 0, none⟩ = some (.int .i64 6) := cell_blk hd4 0 _ rfl
  have c1_4 : w4.cell? ⟨w.heap.size, 1, none⟩ = some (.string ⟨#[]⟩) := cell_blk hd4 1 _ rfl
  have c2_4 : w4.cell? ⟨w.heap.size, 2, none⟩ = some (.string (str tg)) := cell_blk hd4 2 _ rfl
  have c3_4 : w4.cell? ⟨w.heap.size, 3, none⟩ = some (.string (str tx)) := cell_blk hd4 3 _ rfl
  have c4_4 : w4.cell? ⟨w.heap.size, 4, none⟩ = some (.bool true) := cell_blk hd4 4 _ rfl
  clear ho2 hk2 ho4 hk4 hk2' hk4'
  go_wp2_with (first
    | (at_builtin; refine wpList_addB rfl (.tmp 41) (.tmp 42) rfl B v4 (((l ++ Ev.sign 6) ++ [32]) ++ Tg.word tg) 32 w4.heap.size _ rfl rfl ?hg ?o1 ?l1 ?b1 ?_; (case hg => exact alloc_blk w4 _); (case o1 => exact own_alloc HO4.out _); (case l1 => simp; omega); (case b1 => rw [World.size_alloc]; omega); intro v5 w5 ho5 hk5; have hk5' : Kept B w4 w5 := ((Kept.refl B w4).alloc hz4 _).trans ⟨⟨hk5.1.os, hk5.1.tape, hk5.1.output, hk5.1.size, hk5.1.block⟩, hk5.2⟩; have hd5 := hk5'.blk hd4 (by decide); have hz5 : B ≤ w5.heap.size := Nat.le_trans hz4 hk5'.size; have HB5 := Lib.hid (HB4.out.trans hk5'.1); have HO5 := Lib.hid ho5; clear c0_4 c1_4 c2_4 c3_4 c4_4; have c0_5 : w5.cell? ⟨w.heap.size, 0, none⟩ = some (.int .i64 6) := cell_blk hd5 0 _ rfl; have c1_5 : w5.cell? ⟨w.heap.size, 1, none⟩ = some (.string ⟨#[]⟩) := cell_blk hd5 1 _ rfl; have c2_5 : w5.cell? ⟨w.heap.size, 2, none⟩ = some (.string (str tg)) := cell_blk hd5 2 _ rfl; have c3_5 : w5.cell? ⟨w.heap.size, 3, none⟩ = some (.string (str tx)) := cell_blk hd5 3 _ rfl; have c4_5 : w5.cell? ⟨w.heap.size, 4, none⟩ = some (.bool true) := cell_blk hd5 4 _ rfl; clear ho5 hk5)
    | (at_builtin; refine wpList_addB rfl (.tmp 46) (.tmp 47) rfl B v5 ((((l ++ Ev.sign 6) ++ [32]) ++ Tg.word tg) ++ [32]) 58 w5.heap.size _ rfl rfl ?hg ?o1 ?l1 ?b1 ?_; (case hg => exact alloc_blk w5 _); (case o1 => exact own_alloc HO5.out _); (case l1 => simp; omega); (case b1 => rw [World.size_alloc]; omega); intro v6 w6 ho6 hk6; have hk6' : Kept B w5 w6 := ((Kept.refl B w5).alloc hz5 _).trans ⟨⟨hk6.1.os, hk6.1.tape, hk6.1.output, hk6.1.size, hk6.1.block⟩, hk6.2⟩; have hd6 := hk6'.blk hd5 (by decide); have hz6 : B ≤ w6.heap.size := Nat.le_trans hz5 hk6'.size; have HB6 := Lib.hid (HB5.out.trans hk6'.1); have HO6 := Lib.hid ho6; clear c0_5 c1_5 c2_5 c3_5 c4_5; have c0_6 : w6.cell? ⟨w.heap.size, 0, none⟩ = some (.int .i64 6) := cell_blk hd6 0 _ rfl; have c1_6 : w6.cell? ⟨w.heap.size, 1, none⟩ = some (.string ⟨#[]⟩) := cell_blk hd6 1 _ rfl; have c2_6 : w6.cell? ⟨w.heap.size, 2, none⟩ = some (.string (str tg)) := cell_blk hd6 2 _ rfl; have c3_6 : w6.cell? ⟨w.heap.size, 3, none⟩ = some (.string (str tx)) := cell_blk hd6 3 _ rfl; have c4_6 : w6.cell? ⟨w.heap.size, 4, none⟩ = some (.bool true) := cell_blk hd6 4 _ rfl; clear ho6 hk6)
    | (go_at_call 36; refine (cQ.out _ (HE.out.kept hB5 HB6.out)).mono ?_; rintro e w7 ⟨rfl, hb7⟩; have hb7' : Below w6.heap.size w6 w7 := ⟨hb7.os, hb7.tape, hb7.output, hb7.size, hb7.block⟩; have HO7 := Lib.hid (own_below HO6.out hb7'); have hd7 := blk_below hd6 hb7'; have hz7 : B ≤ w7.heap.size := Nat.le_trans hz6 hb7'.size; have HB7 := Lib.hid (HB6.out.trans (hb7'.mono hz6)); clear c0_6 c1_6 c2_6 c3_6 c4_6)
    | (at_builtin; refine wpList_addS rfl (.tmp 49) (.tmp 52) rfl B v6 (((((l ++ Ev.sign 6) ++ [32]) ++ Tg.word tg) ++ [32]) ++ [58]) (quoteOf tx) rfl rfl ?o1 ?l1 ?b1 ?_; (case o1 => exact HO7.out); (case l1 => simp; omega); (case b1 => exact hz7); intro v8 w8 ho8 hk8; have hk8' : Kept B w7 w8 := ⟨⟨hk8.1.os, hk8.1.tape, hk8.1.output, hk8.1.size, hk8.1.block⟩, hk8.2⟩; have hd8 := hk8'.blk hd7 (by decide); have hz8 : B ≤ w8.heap.size := Nat.le_trans hz7 hk8'.size; have HB8 := Lib.hid (HB7.out.trans hk8'.1); have HO8 := Lib.hid ho8; clear ho8 hk8))
  go_ret
  exact lined _ _ _ _ _ _ HO8.out HB8.out HA.out

set_option maxHeartbeats 8000000 in
set_option maxRecDepth 100000 in
theorem add_100 (B : Nat) (v : Value) (l an tx : List UInt8) (pl : Bool) (k : Nat) (hk8 : k < 6) (w : World) (hown : Own w B v l) (hB : B ≤ w.heap.size) (hl : l.length ≤ 100000000000) (ha : an.length ≤ 50000) (han : an ≠ []) (hE : Env w) :
    Calls Tryz.prog 19 #[v, .agg #[.int .i64 k, .string (str an), .string (str []), .string (str tx), .bool pl]] w fun e w' => Lined w B (l ++ (Ev.sign k ++ (([32, 38] ++ an) ++ (([]) ++ ([]))))) e w' := by
  obtain ⟨va, vc, rfl⟩ := own_slice hown
  obtain ⟨ANS, hA⟩ : ∃ ANS, l ++ (Ev.sign k ++ (([32, 38] ++ an) ++ (([]) ++ ([])))) = ANS := ⟨_, rfl⟩
  rw [hA]
  have HA : Hid ((((l ++ Ev.sign k) ++ [32, 38]) ++ an) = ANS) := by show _ = _; rw [← hA]; simp
  clear hA
  have hS : (w.alloc (.cells #[.int .i64 k, .string (str an), .string (str []), .string (str tx), .bool pl] 34)).cell? ⟨0, k, none⟩ = some (.string (str (Ev.sign k))) := (hE.below (bnew w _)).sign k (by omega)
  have HO := Lib.hid hown
  have HBW : Hid (Below B w (w.alloc (.cells #[.int .i64 k, .string (str an), .string (str []), .string (str tx), .bool pl] 34))) := (Below.refl B w).alloc hB _
  clear hown hE
  have hsl := sign_len k
  have haemp := ba_isEmpty (str an) (by rw [str_len]; exact List.length_pos_iff.2 han)
  have hanil := ba_notnil (str an) (by rw [str_len]; exact List.length_pos_iff.2 han)
  have b7 : ((k : Int) == 7) = false := beq_eq_false_iff_ne.2 (by omega)
  have b6 : ((k : Int) != 6) = true := bne_iff_ne.2 (by omega)
  have hk1 : (k : Int) < 8 := by omega
  rw [str_nil] at *
  go_enter Tryz.func19, Tryz.ntmps19
  go_wp2_with (first
    | (at_builtin; refine wpList_addS rfl (.tmp 5) (.tmp 9) rfl B (.slice va l.length vc) l (Ev.sign k) rfl rfl ?o1 ?l1 ?b1 ?_; (case o1 => exact own_alloc HO.out _); (case l1 => omega); (case b1 => rw [World.size_alloc]; omega); intro v1 w1 ho1 hk1; have hd1 := hk1.blk (alloc_blk w _) (by decide); have c0_1 : w1.cell? ⟨w.heap.size, 0, none⟩ = some (.int .i64 k) := cell_blk hd1 0 _ rfl; have c1_1 : w1.cell? ⟨w.heap.size, 1, none⟩ = some (.string (str an)) := cell_blk hd1 1 _ rfl; have c2_1 : w1.cell? ⟨w.heap.size, 2, none⟩ = some (.string ⟨#[]⟩) := cell_blk hd1 2 _ rfl; have c3_1 : w1.cell? ⟨w.heap.size, 3, none⟩ = some (.string (str tx)) := cell_blk hd1 3 _ rfl; have c4_1 : w1.cell? ⟨w.heap.size, 4, none⟩ = some (.bool pl) := cell_blk hd1 4 _ rfl; have HO1 := Lib.hid ho1; have HB1 := Lib.hid (HBW.out.trans hk1.1); have hz1 : B ≤ w1.heap.size := Nat.le_trans hB (HB1.out.size); clear ho1 hk1 hS))
  go_region_held3 (fun w' => w'.cell? ⟨w.heap.size, 1, none⟩ = some (.string (str an)))
    (first | go_keep | exact cell_blk hd3 1 _ rfl | exact cell_blk hd2 1 _ rfl)
    (first
      | (refine step_addS (by rfl) (.tmp 22) _ (by rfl) B v1 (l ++ Ev.sign k) [32, 38] (by rfl) (by rfl) (by exact HO1.out) (by simp; omega) (by exact hz1) ?_; intro v2 w2 ho2 hk2; have hk2' : Kept B w1 w2 := ⟨⟨hk2.1.os, hk2.1.tape, hk2.1.output, hk2.1.size, hk2.1.block⟩, hk2.2⟩; have hd2 := hk2'.blk hd1 (by decide); have hz2 : B ≤ w2.heap.size := Nat.le_trans hz1 hk2'.size; have HB2 := Lib.hid (HB1.out.trans hk2'.1); have HO2 := Lib.hid ho2)
      | (refine step_addS (by rfl) (.tmp 23) (.tmp 25) (by rfl) B v2 ((l ++ Ev.sign k) ++ [32, 38]) an (by rfl) (by rfl) (by exact ho2) (by simp; omega) (by exact hz2) ?_; intro v3 w3 ho3 hk3; have hk3' : Kept B w2 w3 := ⟨⟨hk3.1.os, hk3.1.tape, hk3.1.output, hk3.1.size, hk3.1.block⟩, hk3.2⟩; have hd3 := hk3'.blk hd2 (by decide); have hz3 : B ≤ w3.heap.size := Nat.le_trans hz2 hk3'.size; have HB3 := Lib.hid (HB2.out.trans hk3'.1); have HO3 := Lib.hid ho3))
  clear c0_1 c1_1 c2_1 c3_1 c4_1
  have c0_3 : w3.cell? ⟨w.heap.size, 0, none⟩ = some (.int .i64 k) := cell_blk hd3 0 _ rfl
  have c1_3 : w3.cell? ⟨w.heap.size, 1, none⟩ = some (.string (str an)) := cell_blk hd3 1 _ rfl
  have c2_3 : w3.cell? ⟨w.heap.size, 2, none⟩ = some (.string ⟨#[]⟩) := cell_blk hd3 2 _ rfl
  have c3_3 : w3.cell? ⟨w.heap.size, 3, none⟩ = some (.string (str tx)) := cell_blk hd3 3 _ rfl
  have c4_3 : w3.cell? ⟨w.heap.size, 4, none⟩ = some (.bool pl) := cell_blk hd3 4 _ rfl
  clear ho2 hk2 ho3 hk3 hk2' hk3'
  go_wp2
  go_ret
  exact lined _ _ _ _ _ _ HO3.out HB3.out HA.out

set_option maxHeartbeats 8000000 in
set_option maxRecDepth 100000 in
theorem add_101 (B : Nat) (v : Value) (l an tx : List UInt8) (w : World) (hown : Own w B v l) (hB : B ≤ w.heap.size) (hl : l.length ≤ 100000000000) (ha : an.length ≤ 50000) (han : an ≠ []) (htx : tx.length ≤ 50000) (hB5 : 5 ≤ B) (hE : Env w) :
    Calls Tryz.prog 19 #[v, .agg #[.int .i64 6, .string (str an), .string (str []), .string (str tx), .bool false]] w fun e w' => Lined w B (l ++ (Ev.sign 6 ++ (([32, 38] ++ an) ++ (([]) ++ ([32] ++ ([] ++ quoteOf tx)))))) e w' := by
  obtain ⟨va, vc, rfl⟩ := own_slice hown
  obtain ⟨ANS, hA⟩ : ∃ ANS, l ++ (Ev.sign 6 ++ (([32, 38] ++ an) ++ (([]) ++ ([32] ++ ([] ++ quoteOf tx))))) = ANS := ⟨_, rfl⟩
  rw [hA]
  have HA : Hid ((((((l ++ Ev.sign 6) ++ [32, 38]) ++ an) ++ [32]) ++ quoteOf tx) = ANS) := by show _ = _; rw [← hA]; simp
  clear hA
  have hS : (w.alloc (.cells #[.int .i64 6, .string (str an), .string (str []), .string (str tx), .bool false] 34)).cell? ⟨0, 6, none⟩ = some (.string (str (Ev.sign 6))) := (hE.below (bnew w _)).sign 6 (by omega)
  have HO := Lib.hid hown
  have HBW : Hid (Below B w (w.alloc (.cells #[.int .i64 6, .string (str an), .string (str []), .string (str tx), .bool false] 34))) := (Below.refl B w).alloc hB _
  have HE := Lib.hid hE
  clear hown hE
  have hsl := sign_len 6
  have haemp := ba_isEmpty (str an) (by rw [str_len]; exact List.length_pos_iff.2 han)
  have hanil := ba_notnil (str an) (by rw [str_len]; exact List.length_pos_iff.2 han)
  have cQ := Lib.hid (fun w hE => quote_any (str tx) w (by rw [str_len]; omega) hE)
  rw [str_dat] at cQ
  have hql := quote_len tx
  rw [str_nil] at *
  go_enter Tryz.func19, Tryz.ntmps19
  go_wp2_with (first
    | (at_builtin; refine wpList_addS rfl (.tmp 5) (.tmp 9) rfl B (.slice va l.length vc) l (Ev.sign 6) rfl rfl ?o1 ?l1 ?b1 ?_; (case o1 => exact own_alloc HO.out _); (case l1 => omega); (case b1 => rw [World.size_alloc]; omega); intro v1 w1 ho1 hk1; have hd1 := hk1.blk (alloc_blk w _) (by decide); have c0_1 : w1.cell? ⟨w.heap.size, 0, none⟩ = some (.int .i64 6) := cell_blk hd1 0 _ rfl; have c1_1 : w1.cell? ⟨w.heap.size, 1, none⟩ = some (.string (str an)) := cell_blk hd1 1 _ rfl; have c2_1 : w1.cell? ⟨w.heap.size, 2, none⟩ = some (.string ⟨#[]⟩) := cell_blk hd1 2 _ rfl; have c3_1 : w1.cell? ⟨w.heap.size, 3, none⟩ = some (.string (str tx)) := cell_blk hd1 3 _ rfl; have c4_1 : w1.cell? ⟨w.heap.size, 4, none⟩ = some (.bool false) := cell_blk hd1 4 _ rfl; have HO1 := Lib.hid ho1; have HB1 := Lib.hid (HBW.out.trans hk1.1); have hz1 : B ≤ w1.heap.size := Nat.le_trans hB (HB1.out.size); clear ho1 hk1 hS))
  go_region_held3 (fun w' => w'.cell? ⟨w.heap.size, 1, none⟩ = some (.string (str an)))
    (first | go_keep | exact cell_blk hd3 1 _ rfl | exact cell_blk hd2 1 _ rfl)
    (first
      | (refine step_addS (by rfl) (.tmp 22) _ (by rfl) B v1 (l ++ Ev.sign 6) [32, 38] (by rfl) (by rfl) (by exact HO1.out) (by simp; omega) (by exact hz1) ?_; intro v2 w2 ho2 hk2; have hk2' : Kept B w1 w2 := ⟨⟨hk2.1.os, hk2.1.tape, hk2.1.output, hk2.1.size, hk2.1.block⟩, hk2.2⟩; have hd2 := hk2'.blk hd1 (by decide); have hz2 : B ≤ w2.heap.size := Nat.le_trans hz1 hk2'.size; have HB2 := Lib.hid (HB1.out.trans hk2'.1); have HO2 := Lib.hid ho2)
      | (refine step_addS (by rfl) (.tmp 23) (.tmp 25) (by rfl) B v2 ((l ++ Ev.sign 6) ++ [32, 38]) an (by rfl) (by rfl) (by exact ho2) (by simp; omega) (by exact hz2) ?_; intro v3 w3 ho3 hk3; have hk3' : Kept B w2 w3 := ⟨⟨hk3.1.os, hk3.1.tape, hk3.1.output, hk3.1.size, hk3.1.block⟩, hk3.2⟩; have hd3 := hk3'.blk hd2 (by decide); have hz3 : B ≤ w3.heap.size := Nat.le_trans hz2 hk3'.size; have HB3 := Lib.hid (HB2.out.trans hk3'.1); have HO3 := Lib.hid ho3))
  clear c0_1 c1_1 c2_1 c3_1 c4_1
  have c0_3 : w3.cell? ⟨w.heap.size, 0, none⟩ = some (.int .i64 6) := cell_blk hd3 0 _ rfl
  have c1_3 : w3.cell? ⟨w.heap.size, 1, none⟩ = some (.string (str an)) := cell_blk hd3 1 _ rfl
  have c2_3 : w3.cell? ⟨w.heap.size, 2, none⟩ = some (.string ⟨#[]⟩) := cell_blk hd3 2 _ rfl
  have c3_3 : w3.cell? ⟨w.heap.size, 3, none⟩ = some (.string (str tx)) := cell_blk hd3 3 _ rfl
  have c4_3 : w3.cell? ⟨w.heap.size, 4, none⟩ = some (.bool false) := cell_blk hd3 4 _ rfl
  clear ho2 hk2 ho3 hk3 hk2' hk3'
  go_wp2_with (first
    | (at_builtin; refine wpList_addB rfl (.tmp 41) (.tmp 42) rfl B v3 (((l ++ Ev.sign 6) ++ [32, 38]) ++ an) 32 w3.heap.size _ rfl rfl ?hg ?o1 ?l1 ?b1 ?_; (case hg => exact alloc_blk w3 _); (case o1 => exact own_alloc HO3.out _); (case l1 => simp; omega); (case b1 => rw [World.size_alloc]; omega); intro v4 w4 ho4 hk4; have hk4' : Kept B w3 w4 := ((Kept.refl B w3).alloc hz3 _).trans ⟨⟨hk4.1.os, hk4.1.tape, hk4.1.output, hk4.1.size, hk4.1.block⟩, hk4.2⟩; have hd4 := hk4'.blk hd3 (by decide); have hz4 : B ≤ w4.heap.size := Nat.le_trans hz3 hk4'.size; have HB4 := Lib.hid (HB3.out.trans hk4'.1); have HO4 := Lib.hid ho4; clear c0_3 c1_3 c2_3 c3_3 c4_3; have c0_4 : w4.cell? ⟨w.heap.size, 0, none⟩ = some (.int .i64 6) := cell_blk hd4 0 _ rfl; have c1_4 : w4.cell? ⟨w.heap.size, 1, none⟩ = some (.string (str an)) := cell_blk hd4 1 _ rfl; have c2_4 : w4.cell? ⟨w.heap.size, 2, none⟩ = some (.string ⟨#[]⟩) := cell_blk hd4 2 _ rfl; have c3_4 : w4.cell? ⟨w.heap.size, 3, none⟩ = some (.string (str tx)) := cell_blk hd4 3 _ rfl; have c4_4 : w4.cell? ⟨w.heap.size, 4, none⟩ = some (.bool false) := cell_blk hd4 4 _ rfl; clear ho4 hk4)
    | (go_at_call 36; refine (cQ.out _ (HE.out.kept hB5 HB4.out)).mono ?_; rintro e w5 ⟨rfl, hb5⟩; have hb5' : Below w4.heap.size w4 w5 := ⟨hb5.os, hb5.tape, hb5.output, hb5.size, hb5.block⟩; have HO5 := Lib.hid (own_below HO4.out hb5'); have hd5 := blk_below hd4 hb5'; have hz5 : B ≤ w5.heap.size := Nat.le_trans hz4 hb5'.size; have HB5 := Lib.hid (HB4.out.trans (hb5'.mono hz4)); clear c0_4 c1_4 c2_4 c3_4 c4_4)
    | (at_builtin; refine wpList_addS rfl (.tmp 49) (.tmp 52) rfl B v4 ((((l ++ Ev.sign 6) ++ [32, 38]) ++ an) ++ [32]) (quoteOf tx) rfl rfl ?o1 ?l1 ?b1 ?_; (case o1 => exact HO5.out); (case l1 => simp; omega); (case b1 => exact hz5); intro v6 w6 ho6 hk6; have hk6' : Kept B w5 w6 := ⟨⟨hk6.1.os, hk6.1.tape, hk6.1.output, hk6.1.size, hk6.1.block⟩, hk6.2⟩; have hd6 := hk6'.blk hd5 (by decide); have hz6 : B ≤ w6.heap.size := Nat.le_trans hz5 hk6'.size; have HB6 := Lib.hid (HB5.out.trans hk6'.1); have HO6 := Lib.hid ho6; clear ho6 hk6))
  go_ret
  exact lined _ _ _ _ _ _ HO6.out HB6.out HA.out

set_option maxHeartbeats 8000000 in
set_option maxRecDepth 100000 in
theorem add_102 (B : Nat) (v : Value) (l an tx : List UInt8) (w : World) (hown : Own w B v l) (hB : B ≤ w.heap.size) (hl : l.length ≤ 100000000000) (ha : an.length ≤ 50000) (han : an ≠ []) (htx : tx.length ≤ 50000) (hB5 : 5 ≤ B) (hE : Env w) :
    Calls Tryz.prog 19 #[v, .agg #[.int .i64 6, .string (str an), .string (str []), .string (str tx), .bool true]] w fun e w' => Lined w B (l ++ (Ev.sign 6 ++ (([32, 38] ++ an) ++ (([]) ++ ([32] ++ ([58] ++ quoteOf tx)))))) e w' := by
  obtain ⟨va, vc, rfl⟩ := own_slice hown
  obtain ⟨ANS, hA⟩ : ∃ ANS, l ++ (Ev.sign 6 ++ (([32, 38] ++ an) ++ (([]) ++ ([32] ++ ([58] ++ quoteOf tx))))) = ANS := ⟨_, rfl⟩
  rw [hA]
  have HA : Hid (((((((l ++ Ev.sign 6) ++ [32, 38]) ++ an) ++ [32]) ++ [58]) ++ quoteOf tx) = ANS) := by show _ = _; rw [← hA]; simp
  clear hA
  have hS : (w.alloc (.cells #[.int .i64 6, .string (str an), .string (str []), .string (str tx), .bool true] 34)).cell? ⟨0, 6, none⟩ = some (.string (str (Ev.sign 6))) := (hE.below (bnew w _)).sign 6 (by omega)
  have HO := Lib.hid hown
  have HBW : Hid (Below B w (w.alloc (.cells #[.int .i64 6, .string (str an), .string (str []), .string (str tx), .bool true] 34))) := (Below.refl B w).alloc hB _
  have HE := Lib.hid hE
  clear hown hE
  have hsl := sign_len 6
  have haemp := ba_isEmpty (str an) (by rw [str_len]; exact List.length_pos_iff.2 han)
  have hanil := ba_notnil (str an) (by rw [str_len]; exact List.length_pos_iff.2 han)
  have cQ := Lib.hid (fun w hE => quote_any (str tx) w (by rw [str_len]; omega) hE)
  rw [str_dat] at cQ
  have hql := quote_len tx
  rw [str_nil] at *
  go_enter Tryz.func19, Tryz.ntmps19
  go_wp2_with (first
    | (at_builtin; refine wpList_addS rfl (.tmp 5) (.tmp 9) rfl B (.slice va l.length vc) l (Ev.sign 6) rfl rfl ?o1 ?l1 ?b1 ?_; (case o1 => exact own_alloc HO.out _); (case l1 => omega); (case b1 => rw [World.size_alloc]; omega); intro v1 w1 ho1 hk1; have hd1 := hk1.blk (alloc_blk w _) (by decide); have c0_1 : w1.cell? ⟨w.heap.size, 0, none⟩ = some (.int .i64 6) := cell_blk hd1 0 _ rfl; have c1_1 : w1.cell? ⟨w.heap.size, 1, none⟩ = some (.string (str an)) := cell_blk hd1 1 _ rfl; have c2_1 : w1.cell? ⟨w.heap.size, 2, none⟩ = some (.string ⟨#[]⟩) := cell_blk hd1 2 _ rfl; have c3_1 : w1.cell? ⟨w.heap.size, 3, none⟩ = some (.string (str tx)) := cell_blk hd1 3 _ rfl; have c4_1 : w1.cell? ⟨w.heap.size, 4, none⟩ = some (.bool true) := cell_blk hd1 4 _ rfl; have HO1 := Lib.hid ho1; have HB1 := Lib.hid (HBW.out.trans hk1.1); have hz1 : B ≤ w1.heap.size := Nat.le_trans hB (HB1.out.size); clear ho1 hk1 hS))
  go_region_held3 (fun w' => w'.cell? ⟨w.heap.size, 1, none⟩ = some (.string (str an)))
    (first | go_keep | exact cell_blk hd3 1 _ rfl | exact cell_blk hd2 1 _ rfl)
    (first
      | (refine step_addS (by rfl) (.tmp 22) _ (by rfl) B v1 (l ++ Ev.sign 6) [32, 38] (by rfl) (by rfl) (by exact HO1.out) (by simp; omega) (by exact hz1) ?_; intro v2 w2 ho2 hk2; have hk2' : Kept B w1 w2 := ⟨⟨hk2.1.os, hk2.1.tape, hk2.1.output, hk2.1.size, hk2.1.block⟩, hk2.2⟩; have hd2 := hk2'.blk hd1 (by decide); have hz2 : B ≤ w2.heap.size := Nat.le_trans hz1 hk2'.size; have HB2 := Lib.hid (HB1.out.trans hk2'.1); have HO2 := Lib.hid ho2)
      | (refine step_addS (by rfl) (.tmp 23) (.tmp 25) (by rfl) B v2 ((l ++ Ev.sign 6) ++ [32, 38]) an (by rfl) (by rfl) (by exact ho2) (by simp; omega) (by exact hz2) ?_; intro v3 w3 ho3 hk3; have hk3' : Kept B w2 w3 := ⟨⟨hk3.1.os, hk3.1.tape, hk3.1.output, hk3.1.size, hk3.1.block⟩, hk3.2⟩; have hd3 := hk3'.blk hd2 (by decide); have hz3 : B ≤ w3.heap.size := Nat.le_trans hz2 hk3'.size; have HB3 := Lib.hid (HB2.out.trans hk3'.1); have HO3 := Lib.hid ho3))
  clear c0_1 c1_1 c2_1 c3_1 c4_1
  have c0_3 : w3.cell? ⟨w.heap.size, 0, none⟩ = some (.int .i64 6) := cell_blk hd3 0 _ rfl
  have c1_3 : w3.cell? ⟨w.heap.size, 1, none⟩ = some (.string (str an)) := cell_blk hd3 1 _ rfl
  have c2_3 : w3.cell? ⟨w.heap.size, 2, none⟩ = some (.string ⟨#[]⟩) := cell_blk hd3 2 _ rfl
  have c3_3 : w3.cell? ⟨w.heap.size, 3, none⟩ = some (.string (str tx)) := cell_blk hd3 3 _ rfl
  have c4_3 : w3.cell? ⟨w.heap.size, 4, none⟩ = some (.bool true) := cell_blk hd3 4 _ rfl
  clear ho2 hk2 ho3 hk3 hk2' hk3'
  go_wp2_with (first
    | (at_builtin; refine wpList_addB rfl (.tmp 41) (.tmp 42) rfl B v3 (((l ++ Ev.sign 6) ++ [32, 38]) ++ an) 32 w3.heap.size _ rfl rfl ?hg ?o1 ?l1 ?b1 ?_; (case hg => exact alloc_blk w3 _); (case o1 => exact own_alloc HO3.out _); (case l1 => simp; omega); (case b1 => rw [World.size_alloc]; omega); intro v4 w4 ho4 hk4; have hk4' : Kept B w3 w4 := ((Kept.refl B w3).alloc hz3 _).trans ⟨⟨hk4.1.os, hk4.1.tape, hk4.1.output, hk4.1.size, hk4.1.block⟩, hk4.2⟩; have hd4 := hk4'.blk hd3 (by decide); have hz4 : B ≤ w4.heap.size := Nat.le_trans hz3 hk4'.size; have HB4 := Lib.hid (HB3.out.trans hk4'.1); have HO4 := Lib.hid ho4; clear c0_3 c1_3 c2_3 c3_3 c4_3; have c0_4 : w4.cell? ⟨w.heap.size, 0, none⟩ = some (.int .i64 6) := cell_blk hd4 0 _ rfl; have c1_4 : w4.cell? ⟨w.heap.size, 1, none⟩ = some (.string (str an)) := cell_blk hd4 1 _ rfl; have c2_4 : w4.cell? ⟨w.heap.size, 2, none⟩ = some (.string ⟨#[]⟩) := cell_blk hd4 2 _ rfl; have c3_4 : w4.cell? ⟨w.heap.size, 3, none⟩ = some (.string (str tx)) := cell_blk hd4 3 _ rfl; have c4_4 : w4.cell? ⟨w.heap.size, 4, none⟩ = some (.bool true) := cell_blk hd4 4 _ rfl; clear ho4 hk4)
    | (at_builtin; refine wpList_addB rfl (.tmp 46) (.tmp 47) rfl B v4 ((((l ++ Ev.sign 6) ++ [32, 38]) ++ an) ++ [32]) 58 w4.heap.size _ rfl rfl ?hg ?o1 ?l1 ?b1 ?_; (case hg => exact alloc_blk w4 _); (case o1 => exact own_alloc HO4.out _); (case l1 => simp; omega); (case b1 => rw [World.size_alloc]; omega); intro v5 w5 ho5 hk5; have hk5' : Kept B w4 w5 := ((Kept.refl B w4).alloc hz4 _).trans ⟨⟨hk5.1.os, hk5.1.tape, hk5.1.output, hk5.1.size, hk5.1.block⟩, hk5.2⟩; have hd5 := hk5'.blk hd4 (by decide); have hz5 : B ≤ w5.heap.size := Nat.le_trans hz4 hk5'.size; have HB5 := Lib.hid (HB4.out.trans hk5'.1); have HO5 := Lib.hid ho5; clear c0_4 c1_4 c2_4 c3_4 c4_4; have c0_5 : w5.cell? ⟨w.heap.size, 0, none⟩ = some (.int .i64 6) := cell_blk hd5 0 _ rfl; have c1_5 : w5.cell? ⟨w.heap.size, 1, none⟩ = some (.string (str an)) := cell_blk hd5 1 _ rfl; have c2_5 : w5.cell? ⟨w.heap.size, 2, none⟩ = some (.string ⟨#[]⟩) := cell_blk hd5 2 _ rfl; have c3_5 : w5.cell? ⟨w.heap.size, 3, none⟩ = some (.string (str tx)) := cell_blk hd5 3 _ rfl; have c4_5 : w5.cell? ⟨w.heap.size, 4, none⟩ = some (.bool true) := cell_blk hd5 4 _ rfl; clear ho5 hk5)
    | (go_at_call 36; refine (cQ.out _ (HE.out.kept hB5 HB5.out)).mono ?_; rintro e w6 ⟨rfl, hb6⟩; have hb6' : Below w5.heap.size w5 w6 := ⟨hb6.os, hb6.tape, hb6.output, hb6.size, hb6.block⟩; have HO6 := Lib.hid (own_below HO5.out hb6'); have hd6 := blk_below hd5 hb6'; have hz6 : B ≤ w6.heap.size := Nat.le_trans hz5 hb6'.size; have HB6 := Lib.hid (HB5.out.trans (hb6'.mono hz5)); clear c0_5 c1_5 c2_5 c3_5 c4_5)
    | (at_builtin; refine wpList_addS rfl (.tmp 49) (.tmp 52) rfl B v5 (((((l ++ Ev.sign 6) ++ [32, 38]) ++ an) ++ [32]) ++ [58]) (quoteOf tx) rfl rfl ?o1 ?l1 ?b1 ?_; (case o1 => exact HO6.out); (case l1 => simp; omega); (case b1 => exact hz6); intro v7 w7 ho7 hk7; have hk7' : Kept B w6 w7 := ⟨⟨hk7.1.os, hk7.1.tape, hk7.1.output, hk7.1.size, hk7.1.block⟩, hk7.2⟩; have hd7 := hk7'.blk hd6 (by decide); have hz7 : B ≤ w7.heap.size := Nat.le_trans hz6 hk7'.size; have HB7 := Lib.hid (HB6.out.trans hk7'.1); have HO7 := Lib.hid ho7; clear ho7 hk7))
  go_ret
  exact lined _ _ _ _ _ _ HO7.out HB7.out HA.out

set_option maxHeartbeats 8000000 in
set_option maxRecDepth 100000 in
theorem add_110 (B : Nat) (v : Value) (l an tg tx : List UInt8) (pl : Bool) (k : Nat) (hk8 : k < 6) (w : World) (hown : Own w B v l) (hB : B ≤ w.heap.size) (hl : l.length ≤ 100000000000) (ha : an.length ≤ 50000) (han : an ≠ []) (ht : tg.length ≤ 50000) (htn : tg ≠ []) (hE : Env w) :
    Calls Tryz.prog 19 #[v, .agg #[.int .i64 k, .string (str an), .string (str tg), .string (str tx), .bool pl]] w fun e w' => Lined w B (l ++ (Ev.sign k ++ (([32, 38] ++ an) ++ (([32] ++ Tg.word tg) ++ ([]))))) e w' := by
  obtain ⟨va, vc, rfl⟩ := own_slice hown
  obtain ⟨ANS, hA⟩ : ∃ ANS, l ++ (Ev.sign k ++ (([32, 38] ++ an) ++ (([32] ++ Tg.word tg) ++ ([])))) = ANS := ⟨_, rfl⟩
  rw [hA]
  have HA : Hid ((((((l ++ Ev.sign k) ++ [32, 38]) ++ an) ++ [32]) ++ Tg.word tg) = ANS) := by show _ = _; rw [← hA]; simp
  clear hA
  have hS : (w.alloc (.cells #[.int .i64 k, .string (str an), .string (str tg), .string (str tx), .bool pl] 34)).cell? ⟨0, k, none⟩ = some (.string (str (Ev.sign k))) := (hE.below (bnew w _)).sign k (by omega)
  have HO := Lib.hid hown
  have HBW : Hid (Below B w (w.alloc (.cells #[.int .i64 k, .string (str an), .string (str tg), .string (str tx), .bool pl] 34))) := (Below.refl B w).alloc hB _
  clear hown hE
  have hsl := sign_len k
  have hwl := word_len tg
  have htemp := ba_isEmpty (str tg) (by rw [str_len]; exact List.length_pos_iff.2 htn)
  have htnil := ba_notnil (str tg) (by rw [str_len]; exact List.length_pos_iff.2 htn)
  have cW := Lib.hid (fun w => Tag.word_any (str tg) w (by rw [str_len]; omega))
  rw [str_dat] at cW
  have haemp := ba_isEmpty (str an) (by rw [str_len]; exact List.length_pos_iff.2 han)
  have hanil := ba_notnil (str an) (by rw [str_len]; exact List.length_pos_iff.2 han)
  have b7 : ((k : Int) == 7) = false := beq_eq_false_iff_ne.2 (by omega)
  have b6 : ((k : Int) != 6) = true := bne_iff_ne.2 (by omega)
  have hk1 : (k : Int) < 8 := by omega
  go_enter Tryz.func19, Tryz.ntmps19
  go_wp2_with (first
    | (at_builtin; refine wpList_addS rfl (.tmp 5) (.tmp 9) rfl B (.slice va l.length vc) l (Ev.sign k) rfl rfl ?o1 ?l1 ?b1 ?_; (case o1 => exact own_alloc HO.out _); (case l1 => omega); (case b1 => rw [World.size_alloc]; omega); intro v1 w1 ho1 hk1; have hd1 := hk1.blk (alloc_blk w _) (by decide); have c0_1 : w1.cell? ⟨w.heap.size, 0, none⟩ = some (.int .i64 k) := cell_blk hd1 0 _ rfl; have c1_1 : w1.cell? ⟨w.heap.size, 1, none⟩ = some (.string (str an)) := cell_blk hd1 1 _ rfl; have c2_1 : w1.cell? ⟨w.heap.size, 2, none⟩ = some (.string (str tg)) := cell_blk hd1 2 _ rfl; have c3_1 : w1.cell? ⟨w.heap.size, 3, none⟩ = some (.string (str tx)) := cell_blk hd1 3 _ rfl; have c4_1 : w1.cell? ⟨w.heap.size, 4, none⟩ = some (.bool pl) := cell_blk hd1 4 _ rfl; have HO1 := Lib.hid ho1; have HB1 := Lib.hid (HBW.out.trans hk1.1); have hz1 : B ≤ w1.heap.size := Nat.le_trans hB (HB1.out.size); clear ho1 hk1 hS))
  go_region_held3 (fun w' => w'.cell? ⟨w.heap.size, 1, none⟩ = some (.string (str an)))
    (first | go_keep | exact cell_blk hd3 1 _ rfl | exact cell_blk hd2 1 _ rfl)
    (first
      | (refine step_addS (by rfl) (.tmp 22) _ (by rfl) B v1 (l ++ Ev.sign k) [32, 38] (by rfl) (by rfl) (by exact HO1.out) (by simp; omega) (by exact hz1) ?_; intro v2 w2 ho2 hk2; have hk2' : Kept B w1 w2 := ⟨⟨hk2.1.os, hk2.1.tape, hk2.1.output, hk2.1.size, hk2.1.block⟩, hk2.2⟩; have hd2 := hk2'.blk hd1 (by decide); have hz2 : B ≤ w2.heap.size := Nat.le_trans hz1 hk2'.size; have HB2 := Lib.hid (HB1.out.trans hk2'.1); have HO2 := Lib.hid ho2)
      | (refine step_addS (by rfl) (.tmp 23) (.tmp 25) (by rfl) B v2 ((l ++ Ev.sign k) ++ [32, 38]) an (by rfl) (by rfl) (by exact ho2) (by simp; omega) (by exact hz2) ?_; intro v3 w3 ho3 hk3; have hk3' : Kept B w2 w3 := ⟨⟨hk3.1.os, hk3.1.tape, hk3.1.output, hk3.1.size, hk3.1.block⟩, hk3.2⟩; have hd3 := hk3'.blk hd2 (by decide); have hz3 : B ≤ w3.heap.size := Nat.le_trans hz2 hk3'.size; have HB3 := Lib.hid (HB2.out.trans hk3'.1); have HO3 := Lib.hid ho3))
  clear c0_1 c1_1 c2_1 c3_1 c4_1
  have c0_3 : w3.cell? ⟨w.heap.size, 0, none⟩ = some (.int .i64 k) := cell_blk hd3 0 _ rfl
  have c1_3 : w3.cell? ⟨w.heap.size, 1, none⟩ = some (.string (str an)) := cell_blk hd3 1 _ rfl
  have c2_3 : w3.cell? ⟨w.heap.size, 2, none⟩ = some (.string (str tg)) := cell_blk hd3 2 _ rfl
  have c3_3 : w3.cell? ⟨w.heap.size, 3, none⟩ = some (.string (str tx)) := cell_blk hd3 3 _ rfl
  have c4_3 : w3.cell? ⟨w.heap.size, 4, none⟩ = some (.bool pl) := cell_blk hd3 4 _ rfl
  clear ho2 hk2 ho3 hk3 hk2' hk3'
  go_wp2
  have hz3' : B ≤ (w3.alloc (.cells #[.int .u8 32] 5)).heap.size := by rw [World.size_alloc]; omega
  go_region_held3 (fun w' => w'.cell? ⟨w.heap.size, 2, none⟩ = some (.string (str tg)))
    (first | go_keep | exact cell_blk hd6 2 _ rfl | exact cell_blk hd5 2 _ rfl | exact cell_blk hd4 2 _ rfl)
    (first
      | (go_at_call 35; refine (cW.out _).mono ?_; rintro e w5 ⟨rfl, hb5⟩; have hb5' : Below w4.heap.size w4 w5 := ⟨hb5.os, hb5.tape, hb5.output, hb5.size, hb5.block⟩; have HO5 := Lib.hid (own_below HO4.out hb5'); have hd5 := blk_below hd4 hb5'; have hz5 : B ≤ w5.heap.size := Nat.le_trans hz4 hb5'.size; have HB5 := Lib.hid (HB4.out.trans (hb5'.mono hz4)))
      | (refine step_addB (by rfl) (.tmp 30) (.tmp 31) (by rfl) B v3 (((l ++ Ev.sign k) ++ [32, 38]) ++ an) 32 w3.heap.size _ (by rfl) (by rfl) (by exact alloc_blk w3 _) (by exact own_alloc HO3.out _) (by simp; omega) (by exact hz3') ?_; intro v4 w4 ho4 hk4; have hk4' : Kept B w3 w4 := ((Kept.refl B w3).alloc hz3 _).trans ⟨⟨hk4.1.os, hk4.1.tape, hk4.1.output, hk4.1.size, hk4.1.block⟩, hk4.2⟩; have hd4 := hk4'.blk hd3 (by decide); have hz4 : B ≤ w4.heap.size := Nat.le_trans hz3 hk4'.size; have HB4 := Lib.hid (HB3.out.trans hk4'.1); have HO4 := Lib.hid ho4)
      | (refine step_addS (by rfl) (.tmp 32) (.tmp 35) (by rfl) B v4 ((((l ++ Ev.sign k) ++ [32, 38]) ++ an) ++ [32]) (Tg.word tg) (by rfl) (by rfl) (by exact HO5.out) (by simp; omega) (by exact hz5) ?_; intro v6 w6 ho6 hk6; have hk6' : Kept B w5 w6 := ⟨⟨hk6.1.os, hk6.1.tape, hk6.1.output, hk6.1.size, hk6.1.block⟩, hk6.2⟩; have hd6 := hk6'.blk hd5 (by decide); have hz6 : B ≤ w6.heap.size := Nat.le_trans hz5 hk6'.size; have HB6 := Lib.hid (HB5.out.trans hk6'.1); have HO6 := Lib.hid ho6))
  clear c0_3 c1_3 c2_3 c3_3 c4_3
  have c0_6 : w6.cell? ⟨w.heap.size, 0, none⟩ = some (.int .i64 k) := cell_blk hd6 0 _ rfl
  have c1_6 : w6.cell? ⟨w.heap.size, 1, none⟩ = some (.string (str an)) := cell_blk hd6 1 _ rfl
  have c2_6 : w6.cell? ⟨w.heap.size, 2, none⟩ = some (.string (str tg)) := cell_blk hd6 2 _ rfl
  have c3_6 : w6.cell? ⟨w.heap.size, 3, none⟩ = some (.string (str tx)) := cell_blk hd6 3 _ rfl
  have c4_6 : w6.cell? ⟨w.heap.size, 4, none⟩ = some (.bool pl) := cell_blk hd6 4 _ rfl
  clear ho4 hk4 ho6 hk6 hk4' hk6'
  go_wp2
  go_ret
  exact lined _ _ _ _ _ _ HO6.out HB6.out HA.out

set_option maxHeartbeats 8000000 in
set_option maxRecDepth 100000 in
theorem add_111 (B : Nat) (v : Value) (l an tg tx : List UInt8) (w : World) (hown : Own w B v l) (hB : B ≤ w.heap.size) (hl : l.length ≤ 100000000000) (ha : an.length ≤ 50000) (han : an ≠ []) (ht : tg.length ≤ 50000) (htn : tg ≠ []) (htx : tx.length ≤ 50000) (hB5 : 5 ≤ B) (hE : Env w) :
    Calls Tryz.prog 19 #[v, .agg #[.int .i64 6, .string (str an), .string (str tg), .string (str tx), .bool false]] w fun e w' => Lined w B (l ++ (Ev.sign 6 ++ (([32, 38] ++ an) ++ (([32] ++ Tg.word tg) ++ ([32] ++ ([] ++ quoteOf tx)))))) e w' := by
  obtain ⟨va, vc, rfl⟩ := own_slice hown
  obtain ⟨ANS, hA⟩ : ∃ ANS, l ++ (Ev.sign 6 ++ (([32, 38] ++ an) ++ (([32] ++ Tg.word tg) ++ ([32] ++ ([] ++ quoteOf tx))))) = ANS := ⟨_, rfl⟩
  rw [hA]
  have HA : Hid ((((((((l ++ Ev.sign 6) ++ [32, 38]) ++ an) ++ [32]) ++ Tg.word tg) ++ [32]) ++ quoteOf tx) = ANS) := by show _ = _; rw [← hA]; simp
  clear hA
  have hS : (w.alloc (.cells #[.int .i64 6, .string (str an), .string (str tg), .string (str tx), .bool false] 34)).cell? ⟨0, 6, none⟩ = some (.string (str (Ev.sign 6))) := (hE.below (bnew w _)).sign 6 (by omega)
  have HO := Lib.hid hown
  have HBW : Hid (Below B w (w.alloc (.cells #[.int .i64 6, .string (str an), .string (str tg), .string (str tx), .bool false] 34))) := (Below.refl B w).alloc hB _
  have HE := Lib.hid hE
  clear hown hE
  have hsl := sign_len 6
  have hwl := word_len tg
  have htemp := ba_isEmpty (str tg) (by rw [str_len]; exact List.length_pos_iff.2 htn)
  have htnil := ba_notnil (str tg) (by rw [str_len]; exact List.length_pos_iff.2 htn)
  have cW := Lib.hid (fun w => Tag.word_any (str tg) w (by rw [str_len]; omega))
  rw [str_dat] at cW
  have haemp := ba_isEmpty (str an) (by rw [str_len]; exact List.length_pos_iff.2 han)
  have hanil := ba_notnil (str an) (by rw [str_len]; exact List.length_pos_iff.2 han)
  have cQ := Lib.hid (fun w hE => quote_any (str tx) w (by rw [str_len]; omega) hE)
  rw [str_dat] at cQ
  have hql := quote_len tx
  go_enter Tryz.func19, Tryz.ntmps19
  go_wp2_with (first
    | (at_builtin; refine wpList_addS rfl (.tmp 5) (.tmp 9) rfl B (.slice va l.length vc) l (Ev.sign 6) rfl rfl ?o1 ?l1 ?b1 ?_; (case o1 => exact own_alloc HO.out _); (case l1 => omega); (case b1 => rw [World.size_alloc]; omega); intro v1 w1 ho1 hk1; have hd1 := hk1.blk (alloc_blk w _) (by decide); have c0_1 : w1.cell? ⟨w.heap.size, 0, none⟩ = some (.int .i64 6) := cell_blk hd1 0 _ rfl; have c1_1 : w1.cell? ⟨w.heap.size, 1, none⟩ = some (.string (str an)) := cell_blk hd1 1 _ rfl; have c2_1 : w1.cell? ⟨w.heap.size, 2, none⟩ = some (.string (str tg)) := cell_blk hd1 2 _ rfl; have c3_1 : w1.cell? ⟨w.heap.size, 3, none⟩ = some (.string (str tx)) := cell_blk hd1 3 _ rfl; have c4_1 : w1.cell? ⟨w.heap.size, 4, none⟩ = some (.bool false) := cell_blk hd1 4 _ rfl; have HO1 := Lib.hid ho1; have HB1 := Lib.hid (HBW.out.trans hk1.1); have hz1 : B ≤ w1.heap.size := Nat.le_trans hB (HB1.out.size); clear ho1 hk1 hS))
  go_region_held3 (fun w' => w'.cell? ⟨w.heap.size, 1, none⟩ = some (.string (str an)))
    (first | go_keep | exact cell_blk hd3 1 _ rfl | exact cell_blk hd2 1 _ rfl)
    (first
      | (refine step_addS (by rfl) (.tmp 22) _ (by rfl) B v1 (l ++ Ev.sign 6) [32, 38] (by rfl) (by rfl) (by exact HO1.out) (by simp; omega) (by exact hz1) ?_; intro v2 w2 ho2 hk2; have hk2' : Kept B w1 w2 := ⟨⟨hk2.1.os, hk2.1.tape, hk2.1.output, hk2.1.size, hk2.1.block⟩, hk2.2⟩; have hd2 := hk2'.blk hd1 (by decide); have hz2 : B ≤ w2.heap.size := Nat.le_trans hz1 hk2'.size; have HB2 := Lib.hid (HB1.out.trans hk2'.1); have HO2 := Lib.hid ho2)
      | (refine step_addS (by rfl) (.tmp 23) (.tmp 25) (by rfl) B v2 ((l ++ Ev.sign 6) ++ [32, 38]) an (by rfl) (by rfl) (by exact ho2) (by simp; omega) (by exact hz2) ?_; intro v3 w3 ho3 hk3; have hk3' : Kept B w2 w3 := ⟨⟨hk3.1.os, hk3.1.tape, hk3.1.output, hk3.1.size, hk3.1.block⟩, hk3.2⟩; have hd3 := hk3'.blk hd2 (by decide); have hz3 : B ≤ w3.heap.size := Nat.le_trans hz2 hk3'.size; have HB3 := Lib.hid (HB2.out.trans hk3'.1); have HO3 := Lib.hid ho3))
  clear c0_1 c1_1 c2_1 c3_1 c4_1
  have c0_3 : w3.cell? ⟨w.heap.size, 0, none⟩ = some (.int .i64 6) := cell_blk hd3 0 _ rfl
  have c1_3 : w3.cell? ⟨w.heap.size, 1, none⟩ = some (.string (str an)) := cell_blk hd3 1 _ rfl
  have c2_3 : w3.cell? ⟨w.heap.size, 2, none⟩ = some (.string (str tg)) := cell_blk hd3 2 _ rfl
  have c3_3 : w3.cell? ⟨w.heap.size, 3, none⟩ = some (.string (str tx)) := cell_blk hd3 3 _ rfl
  have c4_3 : w3.cell? ⟨w.heap.size, 4, none⟩ = some (.bool false) := cell_blk hd3 4 _ rfl
  clear ho2 hk2 ho3 hk3 hk2' hk3'
  go_wp2
  have hz3' : B ≤ (w3.alloc (.cells #[.int .u8 32] 5)).heap.size := by rw [World.size_alloc]; omega
  go_region_held3 (fun w' => w'.cell? ⟨w.heap.size, 2, none⟩ = some (.string (str tg)))
    (first | go_keep | exact cell_blk hd6 2 _ rfl | exact cell_blk hd5 2 _ rfl | exact cell_blk hd4 2 _ rfl)
    (first
      | (go_at_call 35; refine (cW.out _).mono ?_; rintro e w5 ⟨rfl, hb5⟩; have hb5' : Below w4.heap.size w4 w5 := ⟨hb5.os, hb5.tape, hb5.output, hb5.size, hb5.block⟩; have HO5 := Lib.hid (own_below HO4.out hb5'); have hd5 := blk_below hd4 hb5'; have hz5 : B ≤ w5.heap.size := Nat.le_trans hz4 hb5'.size; have HB5 := Lib.hid (HB4.out.trans (hb5'.mono hz4)))
      | (refine step_addB (by rfl) (.tmp 30) (.tmp 31) (by rfl) B v3 (((l ++ Ev.sign 6) ++ [32, 38]) ++ an) 32 w3.heap.size _ (by rfl) (by rfl) (by exact alloc_blk w3 _) (by exact own_alloc HO3.out _) (by simp; omega) (by exact hz3') ?_; intro v4 w4 ho4 hk4; have hk4' : Kept B w3 w4 := ((Kept.refl B w3).alloc hz3 _).trans ⟨⟨hk4.1.os, hk4.1.tape, hk4.1.output, hk4.1.size, hk4.1.block⟩, hk4.2⟩; have hd4 := hk4'.blk hd3 (by decide); have hz4 : B ≤ w4.heap.size := Nat.le_trans hz3 hk4'.size; have HB4 := Lib.hid (HB3.out.trans hk4'.1); have HO4 := Lib.hid ho4)
      | (refine step_addS (by rfl) (.tmp 32) (.tmp 35) (by rfl) B v4 ((((l ++ Ev.sign 6) ++ [32, 38]) ++ an) ++ [32]) (Tg.word tg) (by rfl) (by rfl) (by exact HO5.out) (by simp; omega) (by exact hz5) ?_; intro v6 w6 ho6 hk6; have hk6' : Kept B w5 w6 := ⟨⟨hk6.1.os, hk6.1.tape, hk6.1.output, hk6.1.size, hk6.1.block⟩, hk6.2⟩; have hd6 := hk6'.blk hd5 (by decide); have hz6 : B ≤ w6.heap.size := Nat.le_trans hz5 hk6'.size; have HB6 := Lib.hid (HB5.out.trans hk6'.1); have HO6 := Lib.hid ho6))
  clear c0_3 c1_3 c2_3 c3_3 c4_3
  have c0_6 : w6.cell? ⟨w.heap.size, 0, none⟩ = some (.int .i64 6) := cell_blk hd6 0 _ rfl
  have c1_6 : w6.cell? ⟨w.heap.size, 1, none⟩ = some (.string (str an)) := cell_blk hd6 1 _ rfl
  have c2_6 : w6.cell? ⟨w.heap.size, 2, none⟩ = some (.string (str tg)) := cell_blk hd6 2 _ rfl
  have c3_6 : w6.cell? ⟨w.heap.size, 3, none⟩ = some (.string (str tx)) := cell_blk hd6 3 _ rfl
  have c4_6 : w6.cell? ⟨w.heap.size, 4, none⟩ = some (.bool false) := cell_blk hd6 4 _ rfl
  clear ho4 hk4 ho6 hk6 hk4' hk6'
  go_wp2_with (first
    | (at_builtin; refine wpList_addB rfl (.tmp 41) (.tmp 42) rfl B v6 (((((l ++ Ev.sign 6) ++ [32, 38]) ++ an) ++ [32]) ++ Tg.word tg) 32 w6.heap.size _ rfl rfl ?hg ?o1 ?l1 ?b1 ?_; (case hg => exact alloc_blk w6 _); (case o1 => exact own_alloc HO6.out _); (case l1 => simp; omega); (case b1 => rw [World.size_alloc]; omega); intro v7 w7 ho7 hk7; have hk7' : Kept B w6 w7 := ((Kept.refl B w6).alloc hz6 _).trans ⟨⟨hk7.1.os, hk7.1.tape, hk7.1.output, hk7.1.size, hk7.1.block⟩, hk7.2⟩; have hd7 := hk7'.blk hd6 (by decide); have hz7 : B ≤ w7.heap.size := Nat.le_trans hz6 hk7'.size; have HB7 := Lib.hid (HB6.out.trans hk7'.1); have HO7 := Lib.hid ho7; clear c0_6 c1_6 c2_6 c3_6 c4_6; have c0_7 : w7.cell? ⟨w.heap.size, 0, none⟩ = some (.int .i64 6) := cell_blk hd7 0 _ rfl; have c1_7 : w7.cell? ⟨w.heap.size, 1, none⟩ = some (.string (str an)) := cell_blk hd7 1 _ rfl; have c2_7 : w7.cell? ⟨w.heap.size, 2, none⟩ = some (.string (str tg)) := cell_blk hd7 2 _ rfl; have c3_7 : w7.cell? ⟨w.heap.size, 3, none⟩ = some (.string (str tx)) := cell_blk hd7 3 _ rfl; have c4_7 : w7.cell? ⟨w.heap.size, 4, none⟩ = some (.bool false) := cell_blk hd7 4 _ rfl; clear ho7 hk7)
    | (go_at_call 36; refine (cQ.out _ (HE.out.kept hB5 HB7.out)).mono ?_; rintro e w8 ⟨rfl, hb8⟩; have hb8' : Below w7.heap.size w7 w8 := ⟨hb8.os, hb8.tape, hb8.output, hb8.size, hb8.block⟩; have HO8 := Lib.hid (own_below HO7.out hb8'); have hd8 := blk_below hd7 hb8'; have hz8 : B ≤ w8.heap.size := Nat.le_trans hz7 hb8'.size; have HB8 := Lib.hid (HB7.out.trans (hb8'.mono hz7)); clear c0_7 c1_7 c2_7 c3_7 c4_7)
    | (at_builtin; refine wpList_addS rfl (.tmp 49) (.tmp 52) rfl B v7 ((((((l ++ Ev.sign 6) ++ [32, 38]) ++ an) ++ [32]) ++ Tg.word tg) ++ [32]) (quoteOf tx) rfl rfl ?o1 ?l1 ?b1 ?_; (case o1 => exact HO8.out); (case l1 => simp; omega); (case b1 => exact hz8); intro v9 w9 ho9 hk9; have hk9' : Kept B w8 w9 := ⟨⟨hk9.1.os, hk9.1.tape, hk9.1.output, hk9.1.size, hk9.1.block⟩, hk9.2⟩; have hd9 := hk9'.blk hd8 (by decide); have hz9 : B ≤ w9.heap.size := Nat.le_trans hz8 hk9'.size; have HB9 := Lib.hid (HB8.out.trans hk9'.1); have HO9 := Lib.hid ho9; clear ho9 hk9))
  go_ret
  exact lined _ _ _ _ _ _ HO9.out HB9.out HA.out

set_option maxHeartbeats 8000000 in
set_option maxRecDepth 100000 in
theorem add_112 (B : Nat) (v : Value) (l an tg tx : List UInt8) (w : World) (hown : Own w B v l) (hB : B ≤ w.heap.size) (hl : l.length ≤ 100000000000) (ha : an.length ≤ 50000) (han : an ≠ []) (ht : tg.length ≤ 50000) (htn : tg ≠ []) (htx : tx.length ≤ 50000) (hB5 : 5 ≤ B) (hE : Env w) :
    Calls Tryz.prog 19 #[v, .agg #[.int .i64 6, .string (str an), .string (str tg), .string (str tx), .bool true]] w fun e w' => Lined w B (l ++ (Ev.sign 6 ++ (([32, 38] ++ an) ++ (([32] ++ Tg.word tg) ++ ([32] ++ ([58] ++ quoteOf tx)))))) e w' := by
  obtain ⟨va, vc, rfl⟩ := own_slice hown
  obtain ⟨ANS, hA⟩ : ∃ ANS, l ++ (Ev.sign 6 ++ (([32, 38] ++ an) ++ (([32] ++ Tg.word tg) ++ ([32] ++ ([58] ++ quoteOf tx))))) = ANS := ⟨_, rfl⟩
  rw [hA]
  have HA : Hid (((((((((l ++ Ev.sign 6) ++ [32, 38]) ++ an) ++ [32]) ++ Tg.word tg) ++ [32]) ++ [58]) ++ quoteOf tx) = ANS) := by show _ = _; rw [← hA]; simp
  clear hA
  have hS : (w.alloc (.cells #[.int .i64 6, .string (str an), .string (str tg), .string (str tx), .bool true] 34)).cell? ⟨0, 6, none⟩ = some (.string (str (Ev.sign 6))) := (hE.below (bnew w _)).sign 6 (by omega)
  have HO := Lib.hid hown
  have HBW : Hid (Below B w (w.alloc (.cells #[.int .i64 6, .string (str an), .string (str tg), .string (str tx), .bool true] 34))) := (Below.refl B w).alloc hB _
  have HE := Lib.hid hE
  clear hown hE
  have hsl := sign_len 6
  have hwl := word_len tg
  have htemp := ba_isEmpty (str tg) (by rw [str_len]; exact List.length_pos_iff.2 htn)
  have htnil := ba_notnil (str tg) (by rw [str_len]; exact List.length_pos_iff.2 htn)
  have cW := Lib.hid (fun w => Tag.word_any (str tg) w (by rw [str_len]; omega))
  rw [str_dat] at cW
  have haemp := ba_isEmpty (str an) (by rw [str_len]; exact List.length_pos_iff.2 han)
  have hanil := ba_notnil (str an) (by rw [str_len]; exact List.length_pos_iff.2 han)
  have cQ := Lib.hid (fun w hE => quote_any (str tx) w (by rw [str_len]; omega) hE)
  rw [str_dat] at cQ
  have hql := quote_len tx
  go_enter Tryz.func19, Tryz.ntmps19
  go_wp2_with (first
    | (at_builtin; refine wpList_addS rfl (.tmp 5) (.tmp 9) rfl B (.slice va l.length vc) l (Ev.sign 6) rfl rfl ?o1 ?l1 ?b1 ?_; (case o1 => exact own_alloc HO.out _); (case l1 => omega); (case b1 => rw [World.size_alloc]; omega); intro v1 w1 ho1 hk1; have hd1 := hk1.blk (alloc_blk w _) (by decide); have c0_1 : w1.cell? ⟨w.heap.size, 0, none⟩ = some (.int .i64 6) := cell_blk hd1 0 _ rfl; have c1_1 : w1.cell? ⟨w.heap.size, 1, none⟩ = some (.string (str an)) := cell_blk hd1 1 _ rfl; have c2_1 : w1.cell? ⟨w.heap.size, 2, none⟩ = some (.string (str tg)) := cell_blk hd1 2 _ rfl; have c3_1 : w1.cell? ⟨w.heap.size, 3, none⟩ = some (.string (str tx)) := cell_blk hd1 3 _ rfl; have c4_1 : w1.cell? ⟨w.heap.size, 4, none⟩ = some (.bool true) := cell_blk hd1 4 _ rfl; have HO1 := Lib.hid ho1; have HB1 := Lib.hid (HBW.out.trans hk1.1); have hz1 : B ≤ w1.heap.size := Nat.le_trans hB (HB1.out.size); clear ho1 hk1 hS))
  go_region_held3 (fun w' => w'.cell? ⟨w.heap.size, 1, none⟩ = some (.string (str an)))
    (first | go_keep | exact cell_blk hd3 1 _ rfl | exact cell_blk hd2 1 _ rfl)
    (first
      | (refine step_addS (by rfl) (.tmp 22) _ (by rfl) B v1 (l ++ Ev.sign 6) [32, 38] (by rfl) (by rfl) (by exact HO1.out) (by simp; omega) (by exact hz1) ?_; intro v2 w2 ho2 hk2; have hk2' : Kept B w1 w2 := ⟨⟨hk2.1.os, hk2.1.tape, hk2.1.output, hk2.1.size, hk2.1.block⟩, hk2.2⟩; have hd2 := hk2'.blk hd1 (by decide); have hz2 : B ≤ w2.heap.size := Nat.le_trans hz1 hk2'.size; have HB2 := Lib.hid (HB1.out.trans hk2'.1); have HO2 := Lib.hid ho2)
      | (refine step_addS (by rfl) (.tmp 23) (.tmp 25) (by rfl) B v2 ((l ++ Ev.sign 6) ++ [32, 38]) an (by rfl) (by rfl) (by exact ho2) (by simp; omega) (by exact hz2) ?_; intro v3 w3 ho3 hk3; have hk3' : Kept B w2 w3 := ⟨⟨hk3.1.os, hk3.1.tape, hk3.1.output, hk3.1.size, hk3.1.block⟩, hk3.2⟩; have hd3 := hk3'.blk hd2 (by decide); have hz3 : B ≤ w3.heap.size := Nat.le_trans hz2 hk3'.size; have HB3 := Lib.hid (HB2.out.trans hk3'.1); have HO3 := Lib.hid ho3))
  clear c0_1 c1_1 c2_1 c3_1 c4_1
  have c0_3 : w3.cell? ⟨w.heap.size, 0, none⟩ = some (.int .i64 6) := cell_blk hd3 0 _ rfl
  have c1_3 : w3.cell? ⟨w.heap.size, 1, none⟩ = some (.string (str an)) := cell_blk hd3 1 _ rfl
  have c2_3 : w3.cell? ⟨w.heap.size, 2, none⟩ = some (.string (str tg)) := cell_blk hd3 2 _ rfl
  have c3_3 : w3.cell? ⟨w.heap.size, 3, none⟩ = some (.string (str tx)) := cell_blk hd3 3 _ rfl
  have c4_3 : w3.cell? ⟨w.heap.size, 4, none⟩ = some (.bool true) := cell_blk hd3 4 _ rfl
  clear ho2 hk2 ho3 hk3 hk2' hk3'
  go_wp2
  have hz3' : B ≤ (w3.alloc (.cells #[.int .u8 32] 5)).heap.size := by rw [World.size_alloc]; omega
  go_region_held3 (fun w' => w'.cell? ⟨w.heap.size, 2, none⟩ = some (.string (str tg)))
    (first | go_keep | exact cell_blk hd6 2 _ rfl | exact cell_blk hd5 2 _ rfl | exact cell_blk hd4 2 _ rfl)
    (first
      | (go_at_call 35; refine (cW.out _).mono ?_; rintro e w5 ⟨rfl, hb5⟩; have hb5' : Below w4.heap.size w4 w5 := ⟨hb5.os, hb5.tape, hb5.output, hb5.size, hb5.block⟩; have HO5 := Lib.hid (own_below HO4.out hb5'); have hd5 := blk_below hd4 hb5'; have hz5 : B ≤ w5.heap.size := Nat.le_trans hz4 hb5'.size; have HB5 := Lib.hid (HB4.out.trans (hb5'.mono hz4)))
      | (refine step_addB (by rfl) (.tmp 30) (.tmp 31) (by rfl) B v3 (((l ++ Ev.sign 6) ++ [32, 38]) ++ an) 32 w3.heap.size _ (by rfl) (by rfl) (by exact alloc_blk w3 _) (by exact own_alloc HO3.out _) (by simp; omega) (by exact hz3') ?_; intro v4 w4 ho4 hk4; have hk4' : Kept B w3 w4 := ((Kept.refl B w3).alloc hz3 _).trans ⟨⟨hk4.1.os, hk4.1.tape, hk4.1.output, hk4.1.size, hk4.1.block⟩, hk4.2⟩; have hd4 := hk4'.blk hd3 (by decide); have hz4 : B ≤ w4.heap.size := Nat.le_trans hz3 hk4'.size; have HB4 := Lib.hid (HB3.out.trans hk4'.1); have HO4 := Lib.hid ho4)
      | (refine step_addS (by rfl) (.tmp 32) (.tmp 35) (by rfl) B v4 ((((l ++ Ev.sign 6) ++ [32, 38]) ++ an) ++ [32]) (Tg.word tg) (by rfl) (by rfl) (by exact HO5.out) (by simp; omega) (by exact hz5) ?_; intro v6 w6 ho6 hk6; have hk6' : Kept B w5 w6 := ⟨⟨hk6.1.os, hk6.1.tape, hk6.1.output, hk6.1.size, hk6.1.block⟩, hk6.2⟩; have hd6 := hk6'.blk hd5 (by decide); have hz6 : B ≤ w6.heap.size := Nat.le_trans hz5 hk6'.size; have HB6 := Lib.hid (HB5.out.trans hk6'.1); have HO6 := Lib.hid ho6))
  clear c0_3 c1_3 c2_3 c3_3 c4_3
  have c0_6 : w6.cell? ⟨w.heap.size, 0, none⟩ = some (.int .i64 6) := cell_blk hd6 0 _ rfl
  have c1_6 : w6.cell? ⟨w.heap.size, 1, none⟩ = some (.string (str an)) := cell_blk hd6 1 _ rfl
  have c2_6 : w6.cell? ⟨w.heap.size, 2, none⟩ = some (.string (str tg)) := cell_blk hd6 2 _ rfl
  have c3_6 : w6.cell? ⟨w.heap.size, 3, none⟩ = some (.string (str tx)) := cell_blk hd6 3 _ rfl
  have c4_6 : w6.cell? ⟨w.heap.size, 4, none⟩ = some (.bool true) := cell_blk hd6 4 _ rfl
  clear ho4 hk4 ho6 hk6 hk4' hk6'
  go_wp2_with (first
    | (at_builtin; refine wpList_addB rfl (.tmp 41) (.tmp 42) rfl B v6 (((((l ++ Ev.sign 6) ++ [32, 38]) ++ an) ++ [32]) ++ Tg.word tg) 32 w6.heap.size _ rfl rfl ?hg ?o1 ?l1 ?b1 ?_; (case hg => exact alloc_blk w6 _); (case o1 => exact own_alloc HO6.out _); (case l1 => simp; omega); (case b1 => rw [World.size_alloc]; omega); intro v7 w7 ho7 hk7; have hk7' : Kept B w6 w7 := ((Kept.refl B w6).alloc hz6 _).trans ⟨⟨hk7.1.os, hk7.1.tape, hk7.1.output, hk7.1.size, hk7.1.block⟩, hk7.2⟩; have hd7 := hk7'.blk hd6 (by decide); have hz7 : B ≤ w7.heap.size := Nat.le_trans hz6 hk7'.size; have HB7 := Lib.hid (HB6.out.trans hk7'.1); have HO7 := Lib.hid ho7; clear c0_6 c1_6 c2_6 c3_6 c4_6; have c0_7 : w7.cell? ⟨w.heap.size, 0, none⟩ = some (.int .i64 6) := cell_blk hd7 0 _ rfl; have c1_7 : w7.cell? ⟨w.heap.size, 1, none⟩ = some (.string (str an)) := cell_blk hd7 1 _ rfl; have c2_7 : w7.cell? ⟨w.heap.size, 2, none⟩ = some (.string (str tg)) := cell_blk hd7 2 _ rfl; have c3_7 : w7.cell? ⟨w.heap.size, 3, none⟩ = some (.string (str tx)) := cell_blk hd7 3 _ rfl; have c4_7 : w7.cell? ⟨w.heap.size, 4, none⟩ = some (.bool true) := cell_blk hd7 4 _ rfl; clear ho7 hk7)
    | (at_builtin; refine wpList_addB rfl (.tmp 46) (.tmp 47) rfl B v7 ((((((l ++ Ev.sign 6) ++ [32, 38]) ++ an) ++ [32]) ++ Tg.word tg) ++ [32]) 58 w7.heap.size _ rfl rfl ?hg ?o1 ?l1 ?b1 ?_; (case hg => exact alloc_blk w7 _); (case o1 => exact own_alloc HO7.out _); (case l1 => simp; omega); (case b1 => rw [World.size_alloc]; omega); intro v8 w8 ho8 hk8; have hk8' : Kept B w7 w8 := ((Kept.refl B w7).alloc hz7 _).trans ⟨⟨hk8.1.os, hk8.1.tape, hk8.1.output, hk8.1.size, hk8.1.block⟩, hk8.2⟩; have hd8 := hk8'.blk hd7 (by decide); have hz8 : B ≤ w8.heap.size := Nat.le_trans hz7 hk8'.size; have HB8 := Lib.hid (HB7.out.trans hk8'.1); have HO8 := Lib.hid ho8; clear c0_7 c1_7 c2_7 c3_7 c4_7; have c0_8 : w8.cell? ⟨w.heap.size, 0, none⟩ = some (.int .i64 6) := cell_blk hd8 0 _ rfl; have c1_8 : w8.cell? ⟨w.heap.size, 1, none⟩ = some (.string (str an)) := cell_blk hd8 1 _ rfl; have c2_8 : w8.cell? ⟨w.heap.size, 2, none⟩ = some (.string (str tg)) := cell_blk hd8 2 _ rfl; have c3_8 : w8.cell? ⟨w.heap.size, 3, none⟩ = some (.string (str tx)) := cell_blk hd8 3 _ rfl; have c4_8 : w8.cell? ⟨w.heap.size, 4, none⟩ = some (.bool true) := cell_blk hd8 4 _ rfl; clear ho8 hk8)
    | (go_at_call 36; refine (cQ.out _ (HE.out.kept hB5 HB8.out)).mono ?_; rintro e w9 ⟨rfl, hb9⟩; have hb9' : Below w8.heap.size w8 w9 := ⟨hb9.os, hb9.tape, hb9.output, hb9.size, hb9.block⟩; have HO9 := Lib.hid (own_below HO8.out hb9'); have hd9 := blk_below hd8 hb9'; have hz9 : B ≤ w9.heap.size := Nat.le_trans hz8 hb9'.size; have HB9 := Lib.hid (HB8.out.trans (hb9'.mono hz8)); clear c0_8 c1_8 c2_8 c3_8 c4_8)
    | (at_builtin; refine wpList_addS rfl (.tmp 49) (.tmp 52) rfl B v8 (((((((l ++ Ev.sign 6) ++ [32, 38]) ++ an) ++ [32]) ++ Tg.word tg) ++ [32]) ++ [58]) (quoteOf tx) rfl rfl ?o1 ?l1 ?b1 ?_; (case o1 => exact HO9.out); (case l1 => simp; omega); (case b1 => exact hz9); intro v10 w10 ho10 hk10; have hk10' : Kept B w9 w10 := ⟨⟨hk10.1.os, hk10.1.tape, hk10.1.output, hk10.1.size, hk10.1.block⟩, hk10.2⟩; have hd10 := hk10'.blk hd9 (by decide); have hz10 : B ≤ w10.heap.size := Nat.le_trans hz9 hk10'.size; have HB10 := Lib.hid (HB9.out.trans hk10'.1); have HO10 := Lib.hid ho10; clear ho10 hk10))
  go_ret
  exact lined _ _ _ _ _ _ HO10.out HB10.out HA.out

/-- appendEvent, at every event -/
theorem appendEvent_any (B : Nat) (v : Value) (l : List UInt8) (x : Ev.E) (w : World) (hk0 : 0 ≤ x.kind) (hk8 : x.kind < 8) (hown : Own w B v l) (hB : B ≤ w.heap.size) (hl : l.length ≤ 100000000000) (ha : x.anchor.length ≤ 50000) (ht : x.tag.length ≤ 50000) (htx : x.text.length ≤ 50000) (hB5 : 5 ≤ B) (hE : Env w) :
    Calls Tryz.prog 19 #[v, .agg #[.int .i64 x.kind, .string (str x.anchor), .string (str x.tag), .string (str x.text), .bool x.plain]] w fun e w' => Lined w B (l ++ Ev.line x) e w' := by
  obtain ⟨kd, an, tg, tx, pl⟩ := x
  simp only at *
  obtain ⟨k, rfl⟩ : ∃ k : Nat, kd = k := ⟨kd.toNat, by omega⟩
  unfold Ev.line Ev.anchorW Ev.tagW Ev.textW
  simp only [Int.toNat_natCast]
  by_cases k7 : k = 7
  · subst k7
    exact addAlias B v l an tg tx pl w hown hB hl ha hE
  · rw [if_neg (show ¬ ((k : Int) = 7) by omega)]
    by_cases k6 : k = 6
    · subst k6
      rw [if_pos (show ((6 : Nat) : Int) = 6 from rfl)]
      cases an with
      | nil =>
        cases tg with
        | nil => cases pl <;> first | exact add_001 B v l tx w hown hB hl htx hB5 hE | exact add_002 B v l tx w hown hB hl htx hB5 hE
        | cons b t => cases pl <;> first | exact add_011 B v l (b :: t) tx w hown hB hl ht (by simp) htx hB5 hE | exact add_012 B v l (b :: t) tx w hown hB hl ht (by simp) htx hB5 hE
      | cons c s =>
        cases tg with
        | nil => cases pl <;> first | exact add_101 B v l (c :: s) tx w hown hB hl ha (by simp) htx hB5 hE | exact add_102 B v l (c :: s) tx w hown hB hl ha (by simp) htx hB5 hE
        | cons b t => cases pl <;> first | exact add_111 B v l (c :: s) (b :: t) tx w hown hB hl ha (by simp) ht (by simp) htx hB5 hE | exact add_112 B v l (c :: s) (b :: t) tx w hown hB hl ha (by simp) ht (by simp) htx hB5 hE
    · rw [if_neg (show ¬ ((k : Int) = 6) by omega)]
      cases an with
      | nil =>
        cases tg with
        | nil => exact add_000 B v l tx pl k (by omega) w hown hB hl hE
        | cons b t => exact add_010 B v l (b :: t) tx pl k (by omega) w hown hB hl ht (by simp) hE
      | cons c s =>
        cases tg with
        | nil => exact add_100 B v l (c :: s) tx pl k (by omega) w hown hB hl ha (by simp) hE
        | cons b t => exact add_110 B v l (c :: s) (b :: t) tx pl k (by omega) w hown hB hl ha (by simp) ht (by simp) hE
end Go.Proofs.YthkedlcmpibkjaaGreatDoor
