/-
  The walks of appendLine and Print.
-/
import Derived.Test.YtnlbnnnhmdjciaaDoorAn
import Derived.Test.YtnlbnnnhmdjciaaDoorEg
import Derived.Lib.ItoaLen
namespace Go.Proofs.YtnlbnnnhmdjciaaDoor
namespace Ar
def mark (k : Int) : UInt8 := if k = 0 then 61 else if k = 1 then 91 else 123
def kidW (k : Int) : List UInt8 := 32 :: Lib.itoa k
def headW (i : Nat) (x : Nd) : List UInt8 := Lib.itoa (i : Int) ++ ([32, mark x.kind, 32] ++ (Tg.word x.tag ++ if x.kind = 0 then 32 :: quoteOf x.text else []))
def line (i : Nat) (x : Nd) : List UInt8 := headW i x ++ (x.kids.flatMap kidW ++ [10])
/-- nodes as lines, numbered from a number on -/
def linesFrom : Nat → List Nd → List UInt8
  | _, [] => []
  | i, x :: t => line i x ++ linesFrom (i + 1) t
def print (g : List Nd) : List UInt8 := linesFrom 0 (normal g)
end Ar
open Go.RowKit

theorem itoa_len (k : Int) (h0 : -9223372036854775808 ≤ k) (h1 : k ≤ 9223372036854775807) : (Lib.itoa k).length ≤ 21 := by
  have := Lib.itoa_length_le k h0 h1
  omega
theorem Env.below4 {w : World} {B : Nat} (h : Env w) (hB : 4 ≤ B) : Lib.TabBelow Tryd.prog B w "internal/strconv.uint64pow10" .u64 Lib.pow10Tab := fun w' hb => (h.kept hB hb).pow
theorem mark_0 (w : World) : (Instr.index 9 (.string ⟨#[61, 91, 123]⟩) (.int .i64 0)).run Tryd.prog w = .ok (.int .u8 61) w := by kernel_rfl
theorem mark_1 (w : World) : (Instr.index 9 (.string ⟨#[61, 91, 123]⟩) (.int .i64 1)).run Tryd.prog w = .ok (.int .u8 91) w := by kernel_rfl
theorem mark_2 (w : World) : (Instr.index 9 (.string ⟨#[61, 91, 123]⟩) (.int .i64 2)).run Tryd.prog w = .ok (.int .u8 123) w := by kernel_rfl
theorem mark_at (k : Int) (h0 : 0 ≤ k) (h2 : k < 3) (w : World) : (Instr.index 9 (.string ⟨#[61, 91, 123]⟩) (.int .i64 k)).run Tryd.prog w = .ok (.int .u8 (Ar.mark k).toNat) w := by
  have : k = 0 ∨ k = 1 ∨ k = 2 := by omega
  rcases this with rfl | rfl | rfl
  · exact mark_0 w
  · exact mark_1 w
  · exact mark_2 w

theorem kept_below {B : Nat} {w w' : World} (hB : B ≤ w.heap.size) (hb : Below w.heap.size w w') : Kept B w w' := ⟨hb.mono hB, fun k _ h _ _ => (hb.block k (Array.getElem?_eq_some_iff.1 h).1).trans h⟩
theorem tword_len (l : List UInt8) : (Tg.word l).length ≤ l.length + 2 := by
  unfold Tg.word
  split
  · simp
  · split <;> simp

set_option maxHeartbeats 8000000 in
set_option maxRecDepth 100000 in
theorem line_scalar (B : Nat) (v : Value) (b : List UInt8) (i : Nat) (k : Int) (t s : List UInt8) (ks : List Int) (ka : Option Addr) (kc : Nat) (w : World) (hown : Own w B v b) (hki : RdI w B (.slice ka ks.length kc) ks) (hk0 : k = 0) (h0 : 0 ≤ k) (h3 : k < 3) (ht : t.length ≤ 50000) (hs : s.length ≤ 50000)
    (hkl : ks.length ≤ 1000000) (hkb : ∀ k ∈ ks, 0 ≤ k ∧ k ≤ 1000000) (hi : i ≤ 1000000) (hbl : b.length ≤ 100000000000) (hB4 : 4 ≤ B) (hB : B ≤ w.heap.size) (hE : Env w) :
    Calls Tryd.prog 27 #[v, .int .i64 i, .agg #[.int .i64 k, .string (str t), .string (str s), .slice ka ks.length kc]] w fun e w' => ∃ v', e = .returned v' ∧ Own w' B v' (b ++ Ar.line i ⟨k, t, s, ks⟩) ∧ Kept B w w' := by
  obtain ⟨ANS, hA⟩ : ∃ ANS, b ++ Ar.line i ⟨k, t, s, ks⟩ = ANS := ⟨_, rfl⟩
  rw [hA]
  have HA := Lib.hid hA
  clear hA
  have HO := Lib.hid hown
  have HE := Lib.hid hE
  have HKI := Lib.hid hki
  have HKB := Lib.hid hkb
  clear hown hE hki hkb
  have hkb : (k == 0) = true := beq_iff_eq.2 hk0
  have HK : (if k = 0 then (32 :: quoteOf s : List UInt8) else []) = 32 :: quoteOf s := if_pos hk0
  have hix := mark_at k h0 h3
  have hil := itoa_len (i : Int) (by omega) (by omega)
  have htl := tword_len t
  have hql := quote_len s
  have cQ := Lib.hid (fun w hE => quote_any (str s) w (by rw [str_len]; omega) hE)
  rw [str_dat] at cQ
  clear hk0
  go_enter Tryd.func27, Tryd.ntmps27
  go_wp2_with (first
    | (go_at_call 39; refine (Tryd.strconv_AppendInt_10 B b.length (i : Int) (by omega) (by omega) v (Lib.byteCells b) _ (own_alloc HO.out _) (by rw [World.size_alloc]; omega) (by omega) ((HE.out.below (bnew w _)).below4 hB4)).mono ?_; rintro e w1 ⟨v1, rfl, ho1', hb1, ho1x⟩; have ho1 : Own w1 B v1 (b ++ Lib.itoa i) := own_of_append ho1' (by simp) (by rw [Lib.byteCells_append]); have hk1 : Kept B (w.alloc (.cells #[.int .i64 k, .string (str t), .string (str s), .slice ka ks.length kc] 37)) w1 := ⟨hb1, ho1x⟩; have hd1 := hk1.blk (alloc_blk w _) (by decide); have KP1 := Lib.hid (((Kept.refl B w).alloc hB _).trans hk1); have hz1 : B ≤ w1.heap.size := Nat.le_trans hB KP1.out.size; have HO1 := Lib.hid ho1; clear ho1 ho1' hb1 ho1x hk1; have c0_1 : w1.cell? ⟨w.heap.size, 0, none⟩ = some (.int .i64 k) := cell_blk hd1 0 _ rfl; have c1_1 : w1.cell? ⟨w.heap.size, 1, none⟩ = some (.string (str t)) := cell_blk hd1 1 _ rfl; have c2_1 : w1.cell? ⟨w.heap.size, 2, none⟩ = some (.string (str s)) := cell_blk hd1 2 _ rfl; have c3_1 : w1.cell? ⟨w.heap.size, 3, none⟩ = some (.slice ka ks.length kc) := cell_blk hd1 3 _ rfl)
    | (at_builtin; refine wpList_addBs rfl (.tmp 12) (.tmp 16) rfl B v1 (b ++ Lib.itoa i) [32, Ar.mark k, 32] 3 w1.heap.size _ #[.int .u8 32, .int .u8 (Ar.mark k).toNat, .int .u8 32] rfl rfl rfl rfl ?hg2 ?o2 ?l2 ?b2 ?_; (case hg2 => exact alloc_blk w1 _); (case o2 => exact own_alloc HO1.out _); (case l2 => simp; omega); (case b2 => rw [World.size_alloc]; omega); intro v2 w2 ho2 hk2; have hk2' : Kept B w1 w2 := ((Kept.refl B w1).alloc hz1 _).trans ⟨⟨hk2.1.os, hk2.1.tape, hk2.1.output, hk2.1.size, hk2.1.block⟩, hk2.2⟩; have hd2 := hk2'.blk hd1 (by decide); have hz2 : B ≤ w2.heap.size := Nat.le_trans hz1 hk2'.size; have KP2 := Lib.hid (KP1.out.trans hk2'); have HO2 := Lib.hid ho2; clear ho2 hk2; have c0_2 : w2.cell? ⟨w.heap.size, 0, none⟩ = some (.int .i64 k) := cell_blk hd2 0 _ rfl; have c1_2 : w2.cell? ⟨w.heap.size, 1, none⟩ = some (.string (str t)) := cell_blk hd2 1 _ rfl; have c2_2 : w2.cell? ⟨w.heap.size, 2, none⟩ = some (.string (str s)) := cell_blk hd2 2 _ rfl; have c3_2 : w2.cell? ⟨w.heap.size, 3, none⟩ = some (.slice ka ks.length kc) := cell_blk hd2 3 _ rfl)
    | (go_at_call 40; refine (Tag.word_any (str t) _ (by rw [str_len]; omega)).mono ?_; rintro e w3 ⟨rfl, hb3⟩; rw [str_dat]; have hb3' : Below w2.heap.size w2 w3 := ⟨hb3.os, hb3.tape, hb3.output, hb3.size, hb3.block⟩; have ho3 : Own w3 B v2 ((b ++ Lib.itoa i) ++ [32, Ar.mark k, 32]) := own_below HO2.out hb3'; have hd3 := blk_below hd2 hb3'; have hz3 : B ≤ w3.heap.size := Nat.le_trans hz2 hb3'.size; have KP3 := Lib.hid (KP2.out.trans (kept_below hz2 hb3')); have HO3 := Lib.hid ho3; clear ho3 hb3; have c0_3 : w3.cell? ⟨w.heap.size, 0, none⟩ = some (.int .i64 k) := cell_blk hd3 0 _ rfl; have c1_3 : w3.cell? ⟨w.heap.size, 1, none⟩ = some (.string (str t)) := cell_blk hd3 1 _ rfl; have c2_3 : w3.cell? ⟨w.heap.size, 2, none⟩ = some (.string (str s)) := cell_blk hd3 2 _ rfl; have c3_3 : w3.cell? ⟨w.heap.size, 3, none⟩ = some (.slice ka ks.length kc) := cell_blk hd3 3 _ rfl)
    | (at_builtin; refine wpList_addS rfl (.tmp 18) (.tmp 21) rfl B v2 ((b ++ Lib.itoa i) ++ [32, Ar.mark k, 32]) (Tg.word t) rfl rfl ?o4 ?l4 ?b4 ?_; (case o4 => exact HO3.out); (case l4 => simp; omega); (case b4 => exact hz3); intro v4 w4 ho4 hk4; have hk4' : Kept B w3 w4 := ⟨⟨hk4.1.os, hk4.1.tape, hk4.1.output, hk4.1.size, hk4.1.block⟩, hk4.2⟩; have hd4 := hk4'.blk hd3 (by decide); have hz4 : B ≤ w4.heap.size := Nat.le_trans hz3 hk4'.size; have KP4 := Lib.hid (KP3.out.trans hk4'); have HO4 := Lib.hid ho4; clear ho4 hk4; have c0_4 : w4.cell? ⟨w.heap.size, 0, none⟩ = some (.int .i64 k) := cell_blk hd4 0 _ rfl; have c1_4 : w4.cell? ⟨w.heap.size, 1, none⟩ = some (.string (str t)) := cell_blk hd4 1 _ rfl; have c2_4 : w4.cell? ⟨w.heap.size, 2, none⟩ = some (.string (str s)) := cell_blk hd4 2 _ rfl; have c3_4 : w4.cell? ⟨w.heap.size, 3, none⟩ = some (.slice ka ks.length kc) := cell_blk hd4 3 _ rfl)
    | (at_builtin; refine wpList_addBs rfl (.tmp 26) (.tmp 27) rfl B v4 (((b ++ Lib.itoa i) ++ [32, Ar.mark k, 32]) ++ Tg.word t) [32] 1 w4.heap.size _ #[.int .u8 32] rfl rfl rfl rfl ?hg5 ?o5 ?l5 ?b5 ?_; (case hg5 => exact alloc_blk w4 _); (case o5 => exact own_alloc HO4.out _); (case l5 => simp; omega); (case b5 => rw [World.size_alloc]; omega); intro v5 w5 ho5 hk5; have hk5' : Kept B w4 w5 := ((Kept.refl B w4).alloc hz4 _).trans ⟨⟨hk5.1.os, hk5.1.tape, hk5.1.output, hk5.1.size, hk5.1.block⟩, hk5.2⟩; have hd5 := hk5'.blk hd4 (by decide); have hz5 : B ≤ w5.heap.size := Nat.le_trans hz4 hk5'.size; have KP5 := Lib.hid (KP4.out.trans hk5'); have HO5 := Lib.hid ho5; clear ho5 hk5; have c0_5 : w5.cell? ⟨w.heap.size, 0, none⟩ = some (.int .i64 k) := cell_blk hd5 0 _ rfl; have c1_5 : w5.cell? ⟨w.heap.size, 1, none⟩ = some (.string (str t)) := cell_blk hd5 1 _ rfl; have c2_5 : w5.cell? ⟨w.heap.size, 2, none⟩ = some (.string (str s)) := cell_blk hd5 2 _ rfl; have c3_5 : w5.cell? ⟨w.heap.size, 3, none⟩ = some (.slice ka ks.length kc) := cell_blk hd5 3 _ rfl)
    | (go_at_call 41; refine (cQ.out _ (HE.out.kept hB4 KP5.out.1)).mono ?_; rintro e w6 ⟨rfl, hb6⟩; have hb6' : Below w5.heap.size w5 w6 := ⟨hb6.os, hb6.tape, hb6.output, hb6.size, hb6.block⟩; have ho6 : Own w6 B v5 ((((b ++ Lib.itoa i) ++ [32, Ar.mark k, 32]) ++ Tg.word t) ++ [32]) := own_below HO5.out hb6'; have hd6 := blk_below hd5 hb6'; have hz6 : B ≤ w6.heap.size := Nat.le_trans hz5 hb6'.size; have KP6 := Lib.hid (KP5.out.trans (kept_below hz5 hb6')); have HO6 := Lib.hid ho6; clear ho6 hb6; have c0_6 : w6.cell? ⟨w.heap.size, 0, none⟩ = some (.int .i64 k) := cell_blk hd6 0 _ rfl; have c1_6 : w6.cell? ⟨w.heap.size, 1, none⟩ = some (.string (str t)) := cell_blk hd6 1 _ rfl; have c2_6 : w6.cell? ⟨w.heap.size, 2, none⟩ = some (.string (str s)) := cell_blk hd6 2 _ rfl; have c3_6 : w6.cell? ⟨w.heap.size, 3, none⟩ = some (.slice ka ks.length kc) := cell_blk hd6 3 _ rfl)
    | (at_builtin; refine wpList_addS rfl (.tmp 29) (.tmp 32) rfl B v5 ((((b ++ Lib.itoa i) ++ [32, Ar.mark k, 32]) ++ Tg.word t) ++ [32]) (quoteOf s) rfl rfl ?o7 ?l7 ?b7 ?_; (case o7 => exact HO6.out); (case l7 => simp; omega); (case b7 => exact hz6); intro v7 w7 ho7 hk7; have hk7' : Kept B w6 w7 := ⟨⟨hk7.1.os, hk7.1.tape, hk7.1.output, hk7.1.size, hk7.1.block⟩, hk7.2⟩; have hd7 := hk7'.blk hd6 (by decide); have hz7 : B ≤ w7.heap.size := Nat.le_trans hz6 hk7'.size; have KP7 := Lib.hid (KP6.out.trans hk7'); have HO7 := Lib.hid ho7; clear ho7 hk7; have c0_7 : w7.cell? ⟨w.heap.size, 0, none⟩ = some (.int .i64 k) := cell_blk hd7 0 _ rfl; have c1_7 : w7.cell? ⟨w.heap.size, 1, none⟩ = some (.string (str t)) := cell_blk hd7 1 _ rfl; have c2_7 : w7.cell? ⟨w.heap.size, 2, none⟩ = some (.string (str s)) := cell_blk hd7 2 _ rfl; have c3_7 : w7.cell? ⟨w.heap.size, 3, none⟩ = some (.slice ka ks.length kc) := cell_blk hd7 3 _ rfl))
  obtain ⟨vh, vg, rfl⟩ := own_form HO7.out
  have HZ : Hid ((((((b ++ Lib.itoa i) ++ [32, Ar.mark k, 32]) ++ Tg.word t) ++ [32]) ++ quoteOf s) ++ (ks.drop 0).flatMap Ar.kidW ++ [10] = ANS) := by
    show _ = _
    rw [List.drop_zero, ← HA.out]
    unfold Ar.line Ar.headW
    simp [HK]
  have HL : (((((b ++ Lib.itoa i) ++ [32, Ar.mark k, 32]) ++ Tg.word t) ++ [32]) ++ quoteOf s).length ≤ 100001000000 := by simp; omega
  generalize (((((b ++ Lib.itoa i) ++ [32, Ar.mark k, 32]) ++ Tg.word t) ++ [32]) ++ quoteOf s) = LL at *
  clear HA
  go_loopg [0, 37] ks.length (fun q ov p wr => ∃ (m : Nat) (bb : List UInt8), m ≤ ks.length ∧ q = ks.length - m ∧ p = .int .i64 m ∧ Own wr B ov bb ∧ Hid (bb ++ (ks.drop m).flatMap Ar.kidW ++ [10] = ANS) ∧ bb.length ≤ 100001000000 + 22 * m ∧ Kept B w wr ∧ B ≤ wr.heap.size)
  case atStart => exact ⟨0, LL, by omega, by omega, rfl, HO7.out, HZ, by omega, KP7.out, hz7⟩
  case round =>
    obtain ⟨m, bb, hm, rfl, rfl, hown, HK2, hbl2, hkp, hBr⟩ := hrel
    clear HZ
    obtain ⟨va, vc, rfl⟩ := own_form hown
    have HOw := Lib.hid hown
    have KPw := Lib.hid hkp
    clear hown hkp
    by_cases hlt : m < ks.length
    · have hK := HK2.out
      rw [List.drop_eq_getElem_cons hlt, List.flatMap_cons] at hK
      obtain ⟨_, _, hv, _, hcl⟩ := HKI.out.below KPw.out.1
      cases hv
      obtain ⟨kg, ko, rfl, _, hcl⟩ := hcl (by omega)
      have hkm := hcl m hlt
      have hkk := HKB.out _ (List.getElem_mem hlt)
      clear hcl HK2
      generalize ks[m] = kk at *
      obtain ⟨y, rfl⟩ : ∃ y : Nat, kk = (y : Int) := ⟨kk.toNat, by omega⟩
      have hil := itoa_len (y : Int) (by omega) (by omega)
      have HK3 : Hid (((bb ++ [32]) ++ Lib.itoa y) ++ (ks.drop (m + 1)).flatMap Ar.kidW ++ [10] = ANS) := by
        show _ = _
        rw [← hK]
        unfold Ar.kidW
        simp
      clear hK
      go_wp2_with (first
        | (at_builtin; refine wpList_addBs rfl (.tmp 41) (.tmp 42) rfl B (.slice va bb.length vc) bb [32] 1 wr.heap.size _ #[.int .u8 32] rfl rfl rfl rfl ?hg8 ?o8 ?l8 ?b8 ?_; (case hg8 => exact alloc_blk wr _); (case o8 => exact own_alloc HOw.out _); (case l8 => simp; omega); (case b8 => rw [World.size_alloc]; omega); intro v8 w8 ho8 hk8; have hk8' : Kept B wr w8 := ((Kept.refl B wr).alloc hBr _).trans ⟨⟨hk8.1.os, hk8.1.tape, hk8.1.output, hk8.1.size, hk8.1.block⟩, hk8.2⟩; have hz8 : B ≤ w8.heap.size := Nat.le_trans hBr hk8'.size; have KP8 := Lib.hid (KPw.out.trans hk8'); have HO8 := Lib.hid ho8; clear ho8 hk8))
      have hccl : (bb ++ [(32 : UInt8)]).length = bb.length + 1 := by simp
      generalize bb ++ [(32 : UInt8)] = cc at *
      refine (Tryd.strconv_AppendInt_10 B cc.length (y : Int) (by omega) (by omega) v8 (Lib.byteCells cc) _ HO8.out (by omega) (by omega) ((HE.out.kept hB4 KP8.out.1).below4 hB4)).mono ?_
      rintro e w9 ⟨v9, rfl, ho9', hb9, ho9x⟩
      have ho9 : Own w9 B v9 (cc ++ Lib.itoa y) := own_of_append ho9' (by simp) (by rw [Lib.byteCells_append])
      have hk9 : Kept B w8 w9 := ⟨⟨hb9.os, hb9.tape, hb9.output, hb9.size, hb9.block⟩, ho9x⟩
      have HO9 := Lib.hid ho9
      have KP9 := Lib.hid (KP8.out.trans hk9)
      have hz9 : B ≤ w9.heap.size := Nat.le_trans hz8 hk9.size
      clear ho9 ho9' hb9 ho9x hk9
      go_wp2
      go_roundg (ks.length - (m + 1))
      case measure => omega
      case rel => exact ⟨m + 1, _, by omega, rfl, by go_num, HO9.out, HK3, by simp; omega, KP9.out, hz9⟩
    · have hK := HK2.out
      rw [List.drop_eq_nil_of_le (by omega), List.flatMap_nil, List.append_nil] at hK
      clear HK2
      subst hK
      go_wp2_with (at_builtin; refine wpList_addBs rfl (.tmp 48) (.tmp 49) rfl B (.slice va bb.length vc) bb [10] 1 wr.heap.size _ #[.int .u8 10] rfl rfl rfl rfl ?hg8 ?o8 ?l8 ?b8 ?_; (case hg8 => exact alloc_blk wr _); (case o8 => exact own_alloc HOw.out _); (case l8 => simp; omega); (case b8 => rw [World.size_alloc]; omega); intro v8 w8 ho8 hk8; have hk8' : Kept B wr w8 := ((Kept.refl B wr).alloc hBr _).trans ⟨⟨hk8.1.os, hk8.1.tape, hk8.1.output, hk8.1.size, hk8.1.block⟩, hk8.2⟩)
      go_ret
      exact ⟨_, rfl, ho8, KPw.out.trans hk8'⟩

set_option maxHeartbeats 8000000 in
set_option maxRecDepth 100000 in
theorem line_other (B : Nat) (v : Value) (b : List UInt8) (i : Nat) (k : Int) (t s : List UInt8) (ks : List Int) (ka : Option Addr) (kc : Nat) (w : World) (hown : Own w B v b) (hki : RdI w B (.slice ka ks.length kc) ks) (hk0 : k ≠ 0) (h0 : 0 ≤ k) (h3 : k < 3) (ht : t.length ≤ 50000) (hs : s.length ≤ 50000)
    (hkl : ks.length ≤ 1000000) (hkb : ∀ k ∈ ks, 0 ≤ k ∧ k ≤ 1000000) (hi : i ≤ 1000000) (hbl : b.length ≤ 100000000000) (hB4 : 4 ≤ B) (hB : B ≤ w.heap.size) (hE : Env w) :
    Calls Tryd.prog 27 #[v, .int .i64 i, .agg #[.int .i64 k, .string (str t), .string (str s), .slice ka ks.length kc]] w fun e w' => ∃ v', e = .returned v' ∧ Own w' B v' (b ++ Ar.line i ⟨k, t, s, ks⟩) ∧ Kept B w w' := by
  obtain ⟨ANS, hA⟩ : ∃ ANS, b ++ Ar.line i ⟨k, t, s, ks⟩ = ANS := ⟨_, rfl⟩
  rw [hA]
  have HA := Lib.hid hA
  clear hA
  have HO := Lib.hid hown
  have HE := Lib.hid hE
  have HKI := Lib.hid hki
  have HKB := Lib.hid hkb
  clear hown hE hki hkb
  have hkb : (k == 0) = false := beq_eq_false_iff_ne.2 hk0
  have HK : (if k = 0 then (32 :: quoteOf s : List UInt8) else []) = [] := if_neg hk0
  have hix := mark_at k h0 h3
  have hil := itoa_len (i : Int) (by omega) (by omega)
  have htl := tword_len t
  have hql := quote_len s
  have cQ := Lib.hid (fun w hE => quote_any (str s) w (by rw [str_len]; omega) hE)
  rw [str_dat] at cQ
  clear hk0
  go_enter Tryd.func27, Tryd.ntmps27
  go_wp2_with (first
    | (go_at_call 39; refine (Tryd.strconv_AppendInt_10 B b.length (i : Int) (by omega) (by omega) v (Lib.byteCells b) _ (own_alloc HO.out _) (by rw [World.size_alloc]; omega) (by omega) ((HE.out.below (bnew w _)).below4 hB4)).mono ?_; rintro e w1 ⟨v1, rfl, ho1', hb1, ho1x⟩; have ho1 : Own w1 B v1 (b ++ Lib.itoa i) := own_of_append ho1' (by simp) (by rw [Lib.byteCells_append]); have hk1 : Kept B (w.alloc (.cells #[.int .i64 k, .string (str t), .string (str s), .slice ka ks.length kc] 37)) w1 := ⟨hb1, ho1x⟩; have hd1 := hk1.blk (alloc_blk w _) (by decide); have KP1 := Lib.hid (((Kept.refl B w).alloc hB _).trans hk1); have hz1 : B ≤ w1.heap.size := Nat.le_trans hB KP1.out.size; have HO1 := Lib.hid ho1; clear ho1 ho1' hb1 ho1x hk1; have c0_1 : w1.cell? ⟨w.heap.size, 0, none⟩ = some (.int .i64 k) := cell_blk hd1 0 _ rfl; have c1_1 : w1.cell? ⟨w.heap.size, 1, none⟩ = some (.string (str t)) := cell_blk hd1 1 _ rfl; have c2_1 : w1.cell? ⟨w.heap.size, 2, none⟩ = some (.string (str s)) := cell_blk hd1 2 _ rfl; have c3_1 : w1.cell? ⟨w.heap.size, 3, none⟩ = some (.slice ka ks.length kc) := cell_blk hd1 3 _ rfl)
    | (at_builtin; refine wpList_addBs rfl (.tmp 12) (.tmp 16) rfl B v1 (b ++ Lib.itoa i) [32, Ar.mark k, 32] 3 w1.heap.size _ #[.int .u8 32, .int .u8 (Ar.mark k).toNat, .int .u8 32] rfl rfl rfl rfl ?hg2 ?o2 ?l2 ?b2 ?_; (case hg2 => exact alloc_blk w1 _); (case o2 => exact own_alloc HO1.out _); (case l2 => simp; omega); (case b2 => rw [World.size_alloc]; omega); intro v2 w2 ho2 hk2; have hk2' : Kept B w1 w2 := ((Kept.refl B w1).alloc hz1 _).trans ⟨⟨hk2.1.os, hk2.1.tape, hk2.1.output, hk2.1.size, hk2.1.block⟩, hk2.2⟩; have hd2 := hk2'.blk hd1 (by decide); have hz2 : B ≤ w2.heap.size := Nat.le_trans hz1 hk2'.size; have KP2 := Lib.hid (KP1.out.trans hk2'); have HO2 := Lib.hid ho2; clear ho2 hk2; have c0_2 : w2.cell? ⟨w.heap.size, 0, none⟩ = some (.int .i64 k) := cell_blk hd2 0 _ rfl; have c1_2 : w2.cell? ⟨w.heap.size, 1, none⟩ = some (.string (str t)) := cell_blk hd2 1 _ rfl; have c2_2 : w2.cell? ⟨w.heap.size, 2, none⟩ = some (.string (str s)) := cell_blk hd2 2 _ rfl; have c3_2 : w2.cell? ⟨w.heap.size, 3, none⟩ = some (.slice ka ks.length kc) := cell_blk hd2 3 _ rfl)
    | (go_at_call 40; refine (Tag.word_any (str t) _ (by rw [str_len]; omega)).mono ?_; rintro e w3 ⟨rfl, hb3⟩; rw [str_dat]; have hb3' : Below w2.heap.size w2 w3 := ⟨hb3.os, hb3.tape, hb3.output, hb3.size, hb3.block⟩; have ho3 : Own w3 B v2 ((b ++ Lib.itoa i) ++ [32, Ar.mark k, 32]) := own_below HO2.out hb3'; have hd3 := blk_below hd2 hb3'; have hz3 : B ≤ w3.heap.size := Nat.le_trans hz2 hb3'.size; have KP3 := Lib.hid (KP2.out.trans (kept_below hz2 hb3')); have HO3 := Lib.hid ho3; clear ho3 hb3; have c0_3 : w3.cell? ⟨w.heap.size, 0, none⟩ = some (.int .i64 k) := cell_blk hd3 0 _ rfl; have c1_3 : w3.cell? ⟨w.heap.size, 1, none⟩ = some (.string (str t)) := cell_blk hd3 1 _ rfl; have c2_3 : w3.cell? ⟨w.heap.size, 2, none⟩ = some (.string (str s)) := cell_blk hd3 2 _ rfl; have c3_3 : w3.cell? ⟨w.heap.size, 3, none⟩ = some (.slice ka ks.length kc) := cell_blk hd3 3 _ rfl)
    | (at_builtin; refine wpList_addS rfl (.tmp 18) (.tmp 21) rfl B v2 ((b ++ Lib.itoa i) ++ [32, Ar.mark k, 32]) (Tg.word t) rfl rfl ?o4 ?l4 ?b4 ?_; (case o4 => exact HO3.out); (case l4 => simp; omega); (case b4 => exact hz3); intro v4 w4 ho4 hk4; have hk4' : Kept B w3 w4 := ⟨⟨hk4.1.os, hk4.1.tape, hk4.1.output, hk4.1.size, hk4.1.block⟩, hk4.2⟩; have hd4 := hk4'.blk hd3 (by decide); have hz4 : B ≤ w4.heap.size := Nat.le_trans hz3 hk4'.size; have KP4 := Lib.hid (KP3.out.trans hk4'); have HO4 := Lib.hid ho4; clear ho4 hk4; have c0_4 : w4.cell? ⟨w.heap.size, 0, none⟩ = some (.int .i64 k) := cell_blk hd4 0 _ rfl; have c1_4 : w4.cell? ⟨w.heap.size, 1, none⟩ = some (.string (str t)) := cell_blk hd4 1 _ rfl; have c2_4 : w4.cell? ⟨w.heap.size, 2, none⟩ = some (.string (str s)) := cell_blk hd4 2 _ rfl; have c3_4 : w4.cell? ⟨w.heap.size, 3, none⟩ = some (.slice ka ks.length kc) := cell_blk hd4 3 _ rfl))
  obtain ⟨vh, vg, rfl⟩ := own_form HO4.out
  have HZ : Hid ((((b ++ Lib.itoa i) ++ [32, Ar.mark k, 32]) ++ Tg.word t) ++ (ks.drop 0).flatMap Ar.kidW ++ [10] = ANS) := by
    show _ = _
    rw [List.drop_zero, ← HA.out]
    unfold Ar.line Ar.headW
    simp [HK]
  have HL : (((b ++ Lib.itoa i) ++ [32, Ar.mark k, 32]) ++ Tg.word t).length ≤ 100001000000 := by simp; omega
  generalize (((b ++ Lib.itoa i) ++ [32, Ar.mark k, 32]) ++ Tg.word t) = LL at *
  clear HA
  go_loopg [0, 37] ks.length (fun q ov p wr => ∃ (m : Nat) (bb : List UInt8), m ≤ ks.length ∧ q = ks.length - m ∧ p = .int .i64 m ∧ Own wr B ov bb ∧ Hid (bb ++ (ks.drop m).flatMap Ar.kidW ++ [10] = ANS) ∧ bb.length ≤ 100001000000 + 22 * m ∧ Kept B w wr ∧ B ≤ wr.heap.size)
  case atStart => exact ⟨0, LL, by omega, by omega, rfl, HO4.out, HZ, by omega, KP4.out, hz4⟩
  case round =>
    obtain ⟨m, bb, hm, rfl, rfl, hown, HK2, hbl2, hkp, hBr⟩ := hrel
    clear HZ
    obtain ⟨va, vc, rfl⟩ := own_form hown
    have HOw := Lib.hid hown
    have KPw := Lib.hid hkp
    clear hown hkp
    by_cases hlt : m < ks.length
    · have hK := HK2.out
      rw [List.drop_eq_getElem_cons hlt, List.flatMap_cons] at hK
      obtain ⟨_, _, hv, _, hcl⟩ := HKI.out.below KPw.out.1
      cases hv
      obtain ⟨kg, ko, rfl, _, hcl⟩ := hcl (by omega)
      have hkm := hcl m hlt
      have hkk := HKB.out _ (List.getElem_mem hlt)
      clear hcl HK2
      generalize ks[m] = kk at *
      obtain ⟨y, rfl⟩ : ∃ y : Nat, kk = (y : Int) := ⟨kk.toNat, by omega⟩
      have hil := itoa_len (y : Int) (by omega) (by omega)
      have HK3 : Hid (((bb ++ [32]) ++ Lib.itoa y) ++ (ks.drop (m + 1)).flatMap Ar.kidW ++ [10] = ANS) := by
        show _ = _
        rw [← hK]
        unfold Ar.kidW
        simp
      clear hK
      go_wp2_with (first
        | (at_builtin; refine wpList_addBs rfl (.tmp 41) (.tmp 42) rfl B (.slice va bb.length vc) bb [32] 1 wr.heap.size _ #[.int .u8 32] rfl rfl rfl rfl ?hg8 ?o8 ?l8 ?b8 ?_; (case hg8 => exact alloc_blk wr _); (case o8 => exact own_alloc HOw.out _); (case l8 => simp; omega); (case b8 => rw [World.size_alloc]; omega); intro v8 w8 ho8 hk8; have hk8' : Kept B wr w8 := ((Kept.refl B wr).alloc hBr _).trans ⟨⟨hk8.1.os, hk8.1.tape, hk8.1.output, hk8.1.size, hk8.1.block⟩, hk8.2⟩; have hz8 : B ≤ w8.heap.size := Nat.le_trans hBr hk8'.size; have KP8 := Lib.hid (KPw.out.trans hk8'); have HO8 := Lib.hid ho8; clear ho8 hk8))
      have hccl : (bb ++ [(32 : UInt8)]).length = bb.length + 1 := by simp
      generalize bb ++ [(32 : UInt8)] = cc at *
      refine (Tryd.strconv_AppendInt_10 B cc.length (y : Int) (by omega) (by omega) v8 (Lib.byteCells cc) _ HO8.out (by omega) (by omega) ((HE.out.kept hB4 KP8.out.1).below4 hB4)).mono ?_
      rintro e w9 ⟨v9, rfl, ho9', hb9, ho9x⟩
      have ho9 : Own w9 B v9 (cc ++ Lib.itoa y) := own_of_append ho9' (by simp) (by rw [Lib.byteCells_append])
      have hk9 : Kept B w8 w9 := ⟨⟨hb9.os, hb9.tape, hb9.output, hb9.size, hb9.block⟩, ho9x⟩
      have HO9 := Lib.hid ho9
      have KP9 := Lib.hid (KP8.out.trans hk9)
      have hz9 : B ≤ w9.heap.size := Nat.le_trans hz8 hk9.size
      clear ho9 ho9' hb9 ho9x hk9
      go_wp2
      go_roundg (ks.length - (m + 1))
      case measure => omega
      case rel => exact ⟨m + 1, _, by omega, rfl, by go_num, HO9.out, HK3, by simp; omega, KP9.out, hz9⟩
    · have hK := HK2.out
      rw [List.drop_eq_nil_of_le (by omega), List.flatMap_nil, List.append_nil] at hK
      clear HK2
      subst hK
      go_wp2_with (at_builtin; refine wpList_addBs rfl (.tmp 48) (.tmp 49) rfl B (.slice va bb.length vc) bb [10] 1 wr.heap.size _ #[.int .u8 10] rfl rfl rfl rfl ?hg8 ?o8 ?l8 ?b8 ?_; (case hg8 => exact alloc_blk wr _); (case o8 => exact own_alloc HOw.out _); (case l8 => simp; omega); (case b8 => rw [World.size_alloc]; omega); intro v8 w8 ho8 hk8; have hk8' : Kept B wr w8 := ((Kept.refl B wr).alloc hBr _).trans ⟨⟨hk8.1.os, hk8.1.tape, hk8.1.output, hk8.1.size, hk8.1.block⟩, hk8.2⟩)
      go_ret
      exact ⟨_, rfl, ho8, KPw.out.trans hk8'⟩
theorem appendLine_any (B : Nat) (v : Value) (b : List UInt8) (i : Nat) (x : Ar.Nd) (ka : Option Addr) (kc : Nat) (w : World) (hown : Own w B v b) (hki : RdI w B (.slice ka x.kids.length kc) x.kids) (h0 : 0 ≤ x.kind) (h3 : x.kind < 3) (ht : x.tag.length ≤ 50000) (hs : x.text.length ≤ 50000)
    (hkl : x.kids.length ≤ 1000000) (hkb : ∀ k ∈ x.kids, 0 ≤ k ∧ k ≤ 1000000) (hi : i ≤ 1000000) (hbl : b.length ≤ 100000000000) (hB4 : 4 ≤ B) (hB : B ≤ w.heap.size) (hE : Env w) :
    Calls Tryd.prog 27 #[v, .int .i64 i, ndV x ka kc] w fun e w' => ∃ v', e = .returned v' ∧ Own w' B v' (b ++ Ar.line i x) ∧ Kept B w w' := by
  obtain ⟨k, t, s, ks⟩ := x
  by_cases hk : k = 0
  · exact line_scalar B v b i k t s ks ka kc w hown hki hk h0 h3 ht hs hkl hkb hi hbl hB4 hB hE
  · exact line_other B v b i k t s ks ka kc w hown hki hk h0 h3 ht hs hkl hkb hi hbl hB4 hB hE
end Go.Proofs.YtnlbnnnhmdjciaaDoor
