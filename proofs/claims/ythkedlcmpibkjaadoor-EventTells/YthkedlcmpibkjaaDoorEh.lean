/-
  The walk of appendEvent.
-/
import Derived.Test.YthkedlcmpibkjaaDoorEg
namespace Go.Proofs.YthkedlcmpibkjaaDoor
open Go.RowKit

/-- what appendEvent leaves -/
def Lined (w : World) (B : Nat) (l : List UInt8) (e : Ending) (w' : World) : Prop := ∃ v', e = .returned v' ∧ Own w' B v' l ∧ Below B w w'
theorem lined (w : World) (B : Nat) (l m : List UInt8) (v' : Value) (w' : World) (h : Own w' B v' m) (hb : Below B w w') (he : m = l) : Lined w B l (.returned v') w' := by
  subst he; exact ⟨v', rfl, h, hb⟩
theorem own_drawn {w : World} {B : Nat} {v : Value} {l : List UInt8} (h : Own w B v l) (n : Nat) : Own (w.drewN n) B v l := h

set_option maxHeartbeats 4000000 in
set_option maxRecDepth 100000 in
theorem addAlias (B : Nat) (v : Value) (l an tg tx : List UInt8) (pl : Bool) (w : World) (hown : Own w B v l) (hB : B ≤ w.heap.size) (hl : l.length ≤ 100000000000) (ha : an.length ≤ 50000) (hE : Env w) :
    Calls Tryd.prog 28 #[v, .agg #[.int .i64 7, .string (str an), .string (str tg), .string (str tx), .bool pl]] w fun e w' => Lined w B (l ++ (Ev.sign 7 ++ ([32, 42] ++ an))) e w' := by
  obtain ⟨va, vc, rfl⟩ := own_slice hown
  obtain ⟨ANS, hA⟩ : ∃ ANS, l ++ (Ev.sign 7 ++ ([32, 42] ++ an)) = ANS := ⟨_, rfl⟩
  rw [hA]
  have HA : Hid (((l ++ Ev.sign 7) ++ [32, 42]) ++ an = ANS) := by show _ = _; rw [← hA]; simp
  clear hA
  have hS : (w.alloc (.cells #[.int .i64 7, .string (str an), .string (str tg), .string (str tx), .bool pl] 39)).cell? ⟨0, 7, none⟩ = some (.string (str (Ev.sign 7))) := (hE.below (bnew w _)).sign 7 (by decide)
  have HO := Lib.hid hown
  have HBW : Hid (Below B w (w.alloc (.cells #[.int .i64 7, .string (str an), .string (str tg), .string (str tx), .bool pl] 39))) := (Below.refl B w).alloc hB _
  clear hown hE
  have hsl := sign_len 7
  go_enter Tryd.func28, Tryd.ntmps28
  go_wp2_with (at_builtin; refine wpList_addS rfl (.tmp 5) (.tmp 9) rfl B (.slice va l.length vc) l (Ev.sign 7) rfl rfl ?o1 ?l1 ?b1 ?_; (case o1 => exact own_alloc HO.out _); (case l1 => omega); (case b1 => rw [World.size_alloc]; omega); intro v1 w1 ho1 hk1; have hd1 := hk1.blk (alloc_blk w _) (by decide); have c0 : w1.cell? ⟨w.heap.size, 0, none⟩ = some (.int .i64 7) := cell_blk hd1 0 _ rfl; have c1 : w1.cell? ⟨w.heap.size, 1, none⟩ = some (.string (str an)) := cell_blk hd1 1 _ rfl; have HO1 := Lib.hid ho1; have HD1 := Lib.hid hd1; have HB1 := Lib.hid (HBW.out.trans hk1.1); have hz1 : B ≤ w1.heap.size := Nat.le_trans hB (HB1.out.size); clear ho1 hk1 hd1)
  clear hS
  have hlen : (l ++ Ev.sign 7).length ≤ 100000000004 := by rw [List.length_append]; omega
  go_region_held3 (fun w' => w'.cell? ⟨w.heap.size, 1, none⟩ = some (.string (str an)))
    (first | go_keep | exact cell_blk hd3 1 _ rfl | exact cell_blk hd2 1 _ rfl)
    (first
      | (refine step_addS (by rfl) (.tmp 14) _ (by rfl) B v1 (l ++ Ev.sign 7) [32, 42] (by rfl) (by rfl) (by exact HO1.out) (by simp; omega) (by exact hz1) ?_; intro v2 w2 ho2 hk2; have hk2' : Kept B w1 w2 := ⟨⟨hk2.1.os, hk2.1.tape, hk2.1.output, hk2.1.size, hk2.1.block⟩, hk2.2⟩; have hd2 := hk2'.blk HD1.out (by decide); have hz2 : B ≤ w2.heap.size := Nat.le_trans hz1 hk2'.size)
      | (refine step_addS (by rfl) (.tmp 15) (.tmp 17) (by rfl) B v2 ((l ++ Ev.sign 7) ++ [32, 42]) an (by rfl) (by rfl) (by exact ho2) (by simp; omega) (by exact hz2) ?_; intro v3 w3 ho3 hk3; have hk3' : Kept B w2 w3 := ⟨⟨hk3.1.os, hk3.1.tape, hk3.1.output, hk3.1.size, hk3.1.block⟩, hk3.2⟩; have hd3 := hk3'.blk hd2 (by decide)))
  go_wp2
  go_ret
  exact lined _ _ _ _ _ _ ho3 ((HB1.out.trans hk2'.1).trans hk3'.1) HA.out
end Go.Proofs.YthkedlcmpibkjaaDoor
