/-
  The laws' 'alive': answers that the document fixes. (Written by gen_aq.py.)
-/
import Derived.Test.YtnlbnnnhmdjciaaDoorAp
namespace Go.Proofs.YtnlbnnnhmdjciaaDoor
def alA : List Ar.Nd := [⟨2, [109, 97, 112], [], [1, 0]⟩, ⟨0, [115, 116, 114], [97], []⟩]
def alB : List Ar.Nd := [⟨2, [109, 97, 112], [], [1, 0, 1, 0]⟩, ⟨0, [115, 116, 114], [97], []⟩]
theorem al_right : Ar.right alA = true := by kernel_rfl
theorem al_rightB : Ar.right alB = false := by kernel_rfl
theorem al_twice : Ar.twice alB = true := by kernel_rfl
theorem al_order : Ar.order alA = [0, 1] := by kernel_rfl
theorem al_ins : Ar.ins alA = [1, 1] := by kernel_rfl
theorem al_same : Ar.same alA alA = true := by kernel_rfl
theorem al_normal : Ar.normal alA = alA := by kernel_rfl
theorem al_print : Ar.print alA = [48, 32, 123, 32, 33, 33, 109, 97, 112, 32, 49, 32, 48, 10, 49, 32, 61, 32, 33, 33, 115, 116, 114, 32, 34, 97, 34, 10] := by kernel_rfl
theorem al_fine : ∀ x ∈ alA, Fine x := by
  intro x hx
  unfold alA at hx
  simp only [List.mem_cons, List.not_mem_nil, or_false] at hx
  rcases hx with rfl | rfl <;> exact ⟨by decide, by decide, by decide⟩
theorem al_fineB : ∀ x ∈ alB, Fine x := by
  intro x hx
  unfold alB at hx
  simp only [List.mem_cons, List.not_mem_nil, or_false] at hx
  rcases hx with rfl | rfl <;> exact ⟨by decide, by decide, by decide⟩
theorem al_small : ∀ x ∈ alA, x.tag.length ≤ 50000 ∧ x.text.length ≤ 50000 := by
  intro x hx
  unfold alA at hx
  simp only [List.mem_cons, List.not_mem_nil, or_false] at hx
  rcases hx with rfl | rfl <;> exact ⟨by decide, by decide⟩
open Go.RowKit Go.Maps
theorem rdA {W : World} {D K : Nat} (h : W.heap[D]? = some (.cells #[.int .i64 2, .string ⟨#[109, 97, 112]⟩, .string ⟨#[]⟩, .slice (some ⟨K, 0, none⟩) 2 2, .int .i64 0, .string ⟨#[115, 116, 114]⟩, .string ⟨#[97]⟩, .slice none 0 0] 37)) (hk : W.heap[K]? = some (.cells #[.int .i64 1, .int .i64 0] 3)) : RdG W W.heap.size (.slice (some ⟨D, 0, none⟩) 2 2) alA := by
  refine ⟨_, 2, rfl, Nat.le_refl _, fun _ => ⟨D, rfl, (Array.getElem?_eq_some_iff.1 h).1, fun j hj => ?_⟩⟩
  have hj' : j < 2 := hj
  have : j = 0 ∨ j = 1 := by omega
  rcases this with rfl | rfl
  · exact ⟨cell_blk h _ _ rfl, cell_blk h _ _ rfl, cell_blk h _ _ rfl, _, 2, cell_blk h _ _ rfl, _, 2, rfl, Nat.le_refl _, fun _ => ⟨K, 0, rfl, (Array.getElem?_eq_some_iff.1 hk).1, fun i hi => by
      have hi' : i < 2 := hi
      have : i = 0 ∨ i = 1 := by omega
      rcases this with rfl | rfl <;> exact cell_blk hk _ _ rfl⟩⟩
  · exact ⟨cell_blk h _ _ rfl, cell_blk h _ _ rfl, cell_blk h _ _ rfl, none, 0, cell_blk h _ _ rfl, none, 0, rfl, Nat.le_refl _, fun h => absurd h (Nat.lt_irrefl 0)⟩
theorem rdB {W : World} {D K : Nat} (h : W.heap[D]? = some (.cells #[.int .i64 2, .string ⟨#[109, 97, 112]⟩, .string ⟨#[]⟩, .slice (some ⟨K, 0, none⟩) 4 4, .int .i64 0, .string ⟨#[115, 116, 114]⟩, .string ⟨#[97]⟩, .slice none 0 0] 37)) (hk : W.heap[K]? = some (.cells #[.int .i64 1, .int .i64 0, .int .i64 1, .int .i64 0] 3)) : RdG W W.heap.size (.slice (some ⟨D, 0, none⟩) 2 2) alB := by
  refine ⟨_, 2, rfl, Nat.le_refl _, fun _ => ⟨D, rfl, (Array.getElem?_eq_some_iff.1 h).1, fun j hj => ?_⟩⟩
  have hj' : j < 2 := hj
  have : j = 0 ∨ j = 1 := by omega
  rcases this with rfl | rfl
  · exact ⟨cell_blk h _ _ rfl, cell_blk h _ _ rfl, cell_blk h _ _ rfl, _, 4, cell_blk h _ _ rfl, _, 4, rfl, Nat.le_refl _, fun _ => ⟨K, 0, rfl, (Array.getElem?_eq_some_iff.1 hk).1, fun i hi => by
      have hi' : i < 4 := hi
      have : i = 0 ∨ i = 1 ∨ i = 2 ∨ i = 3 := by omega
      rcases this with rfl | rfl | rfl | rfl <;> exact cell_blk hk _ _ rfl⟩⟩
  · exact ⟨cell_blk h _ _ rfl, cell_blk h _ _ rfl, cell_blk h _ _ rfl, none, 0, cell_blk h _ _ rfl, none, 0, rfl, Nat.le_refl _, fun h => absurd h (Nat.lt_irrefl 0)⟩
theorem al_worlds (w : World) : Below w.heap.size w ((((w.alloc (.cells #[.int .i64 1, .int .i64 0] 3)).alloc (.cells #[.int .i64 2, .string ⟨#[109, 97, 112]⟩, .string ⟨#[]⟩, .slice (some ⟨w.heap.size, 0, none⟩) 2 2, .int .i64 0, .string ⟨#[115, 116, 114]⟩, .string ⟨#[97]⟩, .slice none 0 0] 37)).alloc (.cells #[.int .i64 1, .int .i64 0, .int .i64 1, .int .i64 0] 3)).alloc (.cells #[.int .i64 2, .string ⟨#[109, 97, 112]⟩, .string ⟨#[]⟩, .slice (some ⟨w.heap.size + 1 + 1, 0, none⟩) 4 4, .int .i64 0, .string ⟨#[115, 116, 114]⟩, .string ⟨#[97]⟩, .slice none 0 0] 37)) ∧ RdG ((((w.alloc (.cells #[.int .i64 1, .int .i64 0] 3)).alloc (.cells #[.int .i64 2, .string ⟨#[109, 97, 112]⟩, .string ⟨#[]⟩, .slice (some ⟨w.heap.size, 0, none⟩) 2 2, .int .i64 0, .string ⟨#[115, 116, 114]⟩, .string ⟨#[97]⟩, .slice none 0 0] 37)).alloc (.cells #[.int .i64 1, .int .i64 0, .int .i64 1, .int .i64 0] 3)).alloc (.cells #[.int .i64 2, .string ⟨#[109, 97, 112]⟩, .string ⟨#[]⟩, .slice (some ⟨w.heap.size + 1 + 1, 0, none⟩) 4 4, .int .i64 0, .string ⟨#[115, 116, 114]⟩, .string ⟨#[97]⟩, .slice none 0 0] 37)) ((((w.alloc (.cells #[.int .i64 1, .int .i64 0] 3)).alloc (.cells #[.int .i64 2, .string ⟨#[109, 97, 112]⟩, .string ⟨#[]⟩, .slice (some ⟨w.heap.size, 0, none⟩) 2 2, .int .i64 0, .string ⟨#[115, 116, 114]⟩, .string ⟨#[97]⟩, .slice none 0 0] 37)).alloc (.cells #[.int .i64 1, .int .i64 0, .int .i64 1, .int .i64 0] 3)).alloc (.cells #[.int .i64 2, .string ⟨#[109, 97, 112]⟩, .string ⟨#[]⟩, .slice (some ⟨w.heap.size + 1 + 1, 0, none⟩) 4 4, .int .i64 0, .string ⟨#[115, 116, 114]⟩, .string ⟨#[97]⟩, .slice none 0 0] 37)).heap.size (.slice (some ⟨w.heap.size + 1, 0, none⟩) 2 2) alA ∧ RdG ((((w.alloc (.cells #[.int .i64 1, .int .i64 0] 3)).alloc (.cells #[.int .i64 2, .string ⟨#[109, 97, 112]⟩, .string ⟨#[]⟩, .slice (some ⟨w.heap.size, 0, none⟩) 2 2, .int .i64 0, .string ⟨#[115, 116, 114]⟩, .string ⟨#[97]⟩, .slice none 0 0] 37)).alloc (.cells #[.int .i64 1, .int .i64 0, .int .i64 1, .int .i64 0] 3)).alloc (.cells #[.int .i64 2, .string ⟨#[109, 97, 112]⟩, .string ⟨#[]⟩, .slice (some ⟨w.heap.size + 1 + 1, 0, none⟩) 4 4, .int .i64 0, .string ⟨#[115, 116, 114]⟩, .string ⟨#[97]⟩, .slice none 0 0] 37)) ((((w.alloc (.cells #[.int .i64 1, .int .i64 0] 3)).alloc (.cells #[.int .i64 2, .string ⟨#[109, 97, 112]⟩, .string ⟨#[]⟩, .slice (some ⟨w.heap.size, 0, none⟩) 2 2, .int .i64 0, .string ⟨#[115, 116, 114]⟩, .string ⟨#[97]⟩, .slice none 0 0] 37)).alloc (.cells #[.int .i64 1, .int .i64 0, .int .i64 1, .int .i64 0] 3)).alloc (.cells #[.int .i64 2, .string ⟨#[109, 97, 112]⟩, .string ⟨#[]⟩, .slice (some ⟨w.heap.size + 1 + 1, 0, none⟩) 4 4, .int .i64 0, .string ⟨#[115, 116, 114]⟩, .string ⟨#[97]⟩, .slice none 0 0] 37)).heap.size (.slice (some ⟨w.heap.size + 1 + 1 + 1, 0, none⟩) 2 2) alB := by
  have b1 := bnew w (.cells #[.int .i64 1, .int .i64 0] 3)
  have b2 := bnew (w.alloc (.cells #[.int .i64 1, .int .i64 0] 3)) (.cells #[.int .i64 2, .string ⟨#[109, 97, 112]⟩, .string ⟨#[]⟩, .slice (some ⟨w.heap.size, 0, none⟩) 2 2, .int .i64 0, .string ⟨#[115, 116, 114]⟩, .string ⟨#[97]⟩, .slice none 0 0] 37)
  have b3 := bnew ((w.alloc (.cells #[.int .i64 1, .int .i64 0] 3)).alloc (.cells #[.int .i64 2, .string ⟨#[109, 97, 112]⟩, .string ⟨#[]⟩, .slice (some ⟨w.heap.size, 0, none⟩) 2 2, .int .i64 0, .string ⟨#[115, 116, 114]⟩, .string ⟨#[97]⟩, .slice none 0 0] 37)) (.cells #[.int .i64 1, .int .i64 0, .int .i64 1, .int .i64 0] 3)
  have b4 := bnew (((w.alloc (.cells #[.int .i64 1, .int .i64 0] 3)).alloc (.cells #[.int .i64 2, .string ⟨#[109, 97, 112]⟩, .string ⟨#[]⟩, .slice (some ⟨w.heap.size, 0, none⟩) 2 2, .int .i64 0, .string ⟨#[115, 116, 114]⟩, .string ⟨#[97]⟩, .slice none 0 0] 37)).alloc (.cells #[.int .i64 1, .int .i64 0, .int .i64 1, .int .i64 0] 3)) (.cells #[.int .i64 2, .string ⟨#[109, 97, 112]⟩, .string ⟨#[]⟩, .slice (some ⟨w.heap.size + 1 + 1, 0, none⟩) 4 4, .int .i64 0, .string ⟨#[115, 116, 114]⟩, .string ⟨#[97]⟩, .slice none 0 0] 37)
  have p1 := alloc_blk w (.cells #[.int .i64 1, .int .i64 0] 3)
  have p2 := alloc_blk (w.alloc (.cells #[.int .i64 1, .int .i64 0] 3)) (.cells #[.int .i64 2, .string ⟨#[109, 97, 112]⟩, .string ⟨#[]⟩, .slice (some ⟨w.heap.size, 0, none⟩) 2 2, .int .i64 0, .string ⟨#[115, 116, 114]⟩, .string ⟨#[97]⟩, .slice none 0 0] 37)
  have p3 := alloc_blk ((w.alloc (.cells #[.int .i64 1, .int .i64 0] 3)).alloc (.cells #[.int .i64 2, .string ⟨#[109, 97, 112]⟩, .string ⟨#[]⟩, .slice (some ⟨w.heap.size, 0, none⟩) 2 2, .int .i64 0, .string ⟨#[115, 116, 114]⟩, .string ⟨#[97]⟩, .slice none 0 0] 37)) (.cells #[.int .i64 1, .int .i64 0, .int .i64 1, .int .i64 0] 3)
  have p4 := alloc_blk (((w.alloc (.cells #[.int .i64 1, .int .i64 0] 3)).alloc (.cells #[.int .i64 2, .string ⟨#[109, 97, 112]⟩, .string ⟨#[]⟩, .slice (some ⟨w.heap.size, 0, none⟩) 2 2, .int .i64 0, .string ⟨#[115, 116, 114]⟩, .string ⟨#[97]⟩, .slice none 0 0] 37)).alloc (.cells #[.int .i64 1, .int .i64 0, .int .i64 1, .int .i64 0] 3)) (.cells #[.int .i64 2, .string ⟨#[109, 97, 112]⟩, .string ⟨#[]⟩, .slice (some ⟨w.heap.size + 1 + 1, 0, none⟩) 4 4, .int .i64 0, .string ⟨#[115, 116, 114]⟩, .string ⟨#[97]⟩, .slice none 0 0] 37)
  rw [World.size_alloc] at p2
  rw [World.size_alloc, World.size_alloc] at p3
  rw [World.size_alloc, World.size_alloc, World.size_alloc] at p4
  exact ⟨bthen (bthen (bthen b1 b2) b3) b4, rdA (blk_below (blk_below p2 b3) b4) (blk_below (blk_below (blk_below p1 b2) b3) b4), rdB p4 (blk_below p3 b4)⟩

set_option maxHeartbeats 8000000 in
set_option maxRecDepth 100000 in
theorem arAlive_any (w : World) (hE : Env w) :
    Calls Tryd.prog 8 #[] w fun e w' => e = .returned (.bool true) ∧ Below w.heap.size w w' := by
  obtain ⟨hb0, hA, hB⟩ := al_worlds w
  have hE0 := hE.below hb0
  have R1 := Lib.hid (fun W (hb : Below ((((w.alloc (.cells #[.int .i64 1, .int .i64 0] 3)).alloc (.cells #[.int .i64 2, .string ⟨#[109, 97, 112]⟩, .string ⟨#[]⟩, .slice (some ⟨w.heap.size, 0, none⟩) 2 2, .int .i64 0, .string ⟨#[115, 116, 114]⟩, .string ⟨#[97]⟩, .slice none 0 0] 37)).alloc (.cells #[.int .i64 1, .int .i64 0, .int .i64 1, .int .i64 0] 3)).alloc (.cells #[.int .i64 2, .string ⟨#[109, 97, 112]⟩, .string ⟨#[]⟩, .slice (some ⟨w.heap.size + 1 + 1, 0, none⟩) 4 4, .int .i64 0, .string ⟨#[115, 116, 114]⟩, .string ⟨#[97]⟩, .slice none 0 0] 37)).heap.size ((((w.alloc (.cells #[.int .i64 1, .int .i64 0] 3)).alloc (.cells #[.int .i64 2, .string ⟨#[109, 97, 112]⟩, .string ⟨#[]⟩, .slice (some ⟨w.heap.size, 0, none⟩) 2 2, .int .i64 0, .string ⟨#[115, 116, 114]⟩, .string ⟨#[97]⟩, .slice none 0 0] 37)).alloc (.cells #[.int .i64 1, .int .i64 0, .int .i64 1, .int .i64 0] 3)).alloc (.cells #[.int .i64 2, .string ⟨#[109, 97, 112]⟩, .string ⟨#[]⟩, .slice (some ⟨w.heap.size + 1 + 1, 0, none⟩) 4 4, .int .i64 0, .string ⟨#[115, 116, 114]⟩, .string ⟨#[97]⟩, .slice none 0 0] 37)) W) => order_any (.slice (some ⟨w.heap.size + 1, 0, none⟩) 2 2) alA W ((hA.below hb).mono hb.size) (by decide) al_fine (hE0.below hb))
  have R2 := Lib.hid (fun W (hb : Below ((((w.alloc (.cells #[.int .i64 1, .int .i64 0] 3)).alloc (.cells #[.int .i64 2, .string ⟨#[109, 97, 112]⟩, .string ⟨#[]⟩, .slice (some ⟨w.heap.size, 0, none⟩) 2 2, .int .i64 0, .string ⟨#[115, 116, 114]⟩, .string ⟨#[97]⟩, .slice none 0 0] 37)).alloc (.cells #[.int .i64 1, .int .i64 0, .int .i64 1, .int .i64 0] 3)).alloc (.cells #[.int .i64 2, .string ⟨#[109, 97, 112]⟩, .string ⟨#[]⟩, .slice (some ⟨w.heap.size + 1 + 1, 0, none⟩) 4 4, .int .i64 0, .string ⟨#[115, 116, 114]⟩, .string ⟨#[97]⟩, .slice none 0 0] 37)).heap.size ((((w.alloc (.cells #[.int .i64 1, .int .i64 0] 3)).alloc (.cells #[.int .i64 2, .string ⟨#[109, 97, 112]⟩, .string ⟨#[]⟩, .slice (some ⟨w.heap.size, 0, none⟩) 2 2, .int .i64 0, .string ⟨#[115, 116, 114]⟩, .string ⟨#[97]⟩, .slice none 0 0] 37)).alloc (.cells #[.int .i64 1, .int .i64 0, .int .i64 1, .int .i64 0] 3)).alloc (.cells #[.int .i64 2, .string ⟨#[109, 97, 112]⟩, .string ⟨#[]⟩, .slice (some ⟨w.heap.size + 1 + 1, 0, none⟩) 4 4, .int .i64 0, .string ⟨#[115, 116, 114]⟩, .string ⟨#[97]⟩, .slice none 0 0] 37)) W) => ins_any (.slice (some ⟨w.heap.size + 1, 0, none⟩) 2 2) alA W ((hA.below hb).mono hb.size) (by decide) al_fine (hE0.below hb))
  have R3 := Lib.hid (fun W (hb : Below ((((w.alloc (.cells #[.int .i64 1, .int .i64 0] 3)).alloc (.cells #[.int .i64 2, .string ⟨#[109, 97, 112]⟩, .string ⟨#[]⟩, .slice (some ⟨w.heap.size, 0, none⟩) 2 2, .int .i64 0, .string ⟨#[115, 116, 114]⟩, .string ⟨#[97]⟩, .slice none 0 0] 37)).alloc (.cells #[.int .i64 1, .int .i64 0, .int .i64 1, .int .i64 0] 3)).alloc (.cells #[.int .i64 2, .string ⟨#[109, 97, 112]⟩, .string ⟨#[]⟩, .slice (some ⟨w.heap.size + 1 + 1, 0, none⟩) 4 4, .int .i64 0, .string ⟨#[115, 116, 114]⟩, .string ⟨#[97]⟩, .slice none 0 0] 37)).heap.size ((((w.alloc (.cells #[.int .i64 1, .int .i64 0] 3)).alloc (.cells #[.int .i64 2, .string ⟨#[109, 97, 112]⟩, .string ⟨#[]⟩, .slice (some ⟨w.heap.size, 0, none⟩) 2 2, .int .i64 0, .string ⟨#[115, 116, 114]⟩, .string ⟨#[97]⟩, .slice none 0 0] 37)).alloc (.cells #[.int .i64 1, .int .i64 0, .int .i64 1, .int .i64 0] 3)).alloc (.cells #[.int .i64 2, .string ⟨#[109, 97, 112]⟩, .string ⟨#[]⟩, .slice (some ⟨w.heap.size + 1 + 1, 0, none⟩) 4 4, .int .i64 0, .string ⟨#[115, 116, 114]⟩, .string ⟨#[97]⟩, .slice none 0 0] 37)) W) => right_any (.slice (some ⟨w.heap.size + 1, 0, none⟩) 2 2) alA W ((hA.below hb).mono hb.size) (by decide) al_fine (hE0.below hb))
  have R4 := Lib.hid (fun W (hb : Below ((((w.alloc (.cells #[.int .i64 1, .int .i64 0] 3)).alloc (.cells #[.int .i64 2, .string ⟨#[109, 97, 112]⟩, .string ⟨#[]⟩, .slice (some ⟨w.heap.size, 0, none⟩) 2 2, .int .i64 0, .string ⟨#[115, 116, 114]⟩, .string ⟨#[97]⟩, .slice none 0 0] 37)).alloc (.cells #[.int .i64 1, .int .i64 0, .int .i64 1, .int .i64 0] 3)).alloc (.cells #[.int .i64 2, .string ⟨#[109, 97, 112]⟩, .string ⟨#[]⟩, .slice (some ⟨w.heap.size + 1 + 1, 0, none⟩) 4 4, .int .i64 0, .string ⟨#[115, 116, 114]⟩, .string ⟨#[97]⟩, .slice none 0 0] 37)).heap.size ((((w.alloc (.cells #[.int .i64 1, .int .i64 0] 3)).alloc (.cells #[.int .i64 2, .string ⟨#[109, 97, 112]⟩, .string ⟨#[]⟩, .slice (some ⟨w.heap.size, 0, none⟩) 2 2, .int .i64 0, .string ⟨#[115, 116, 114]⟩, .string ⟨#[97]⟩, .slice none 0 0] 37)).alloc (.cells #[.int .i64 1, .int .i64 0, .int .i64 1, .int .i64 0] 3)).alloc (.cells #[.int .i64 2, .string ⟨#[109, 97, 112]⟩, .string ⟨#[]⟩, .slice (some ⟨w.heap.size + 1 + 1, 0, none⟩) 4 4, .int .i64 0, .string ⟨#[115, 116, 114]⟩, .string ⟨#[97]⟩, .slice none 0 0] 37)) W) => right_any (.slice (some ⟨w.heap.size + 1 + 1 + 1, 0, none⟩) 2 2) alB W ((hB.below hb).mono hb.size) (by decide) al_fineB (hE0.below hb))
  have R5 := Lib.hid (fun W (hb : Below ((((w.alloc (.cells #[.int .i64 1, .int .i64 0] 3)).alloc (.cells #[.int .i64 2, .string ⟨#[109, 97, 112]⟩, .string ⟨#[]⟩, .slice (some ⟨w.heap.size, 0, none⟩) 2 2, .int .i64 0, .string ⟨#[115, 116, 114]⟩, .string ⟨#[97]⟩, .slice none 0 0] 37)).alloc (.cells #[.int .i64 1, .int .i64 0, .int .i64 1, .int .i64 0] 3)).alloc (.cells #[.int .i64 2, .string ⟨#[109, 97, 112]⟩, .string ⟨#[]⟩, .slice (some ⟨w.heap.size + 1 + 1, 0, none⟩) 4 4, .int .i64 0, .string ⟨#[115, 116, 114]⟩, .string ⟨#[97]⟩, .slice none 0 0] 37)).heap.size ((((w.alloc (.cells #[.int .i64 1, .int .i64 0] 3)).alloc (.cells #[.int .i64 2, .string ⟨#[109, 97, 112]⟩, .string ⟨#[]⟩, .slice (some ⟨w.heap.size, 0, none⟩) 2 2, .int .i64 0, .string ⟨#[115, 116, 114]⟩, .string ⟨#[97]⟩, .slice none 0 0] 37)).alloc (.cells #[.int .i64 1, .int .i64 0, .int .i64 1, .int .i64 0] 3)).alloc (.cells #[.int .i64 2, .string ⟨#[109, 97, 112]⟩, .string ⟨#[]⟩, .slice (some ⟨w.heap.size + 1 + 1, 0, none⟩) 4 4, .int .i64 0, .string ⟨#[115, 116, 114]⟩, .string ⟨#[97]⟩, .slice none 0 0] 37)) W) => twice_any (.slice (some ⟨w.heap.size + 1 + 1 + 1, 0, none⟩) 2 2) alB W ((hB.below hb).mono hb.size) (by decide) al_fineB)
  have R6 := Lib.hid (fun W (hb : Below ((((w.alloc (.cells #[.int .i64 1, .int .i64 0] 3)).alloc (.cells #[.int .i64 2, .string ⟨#[109, 97, 112]⟩, .string ⟨#[]⟩, .slice (some ⟨w.heap.size, 0, none⟩) 2 2, .int .i64 0, .string ⟨#[115, 116, 114]⟩, .string ⟨#[97]⟩, .slice none 0 0] 37)).alloc (.cells #[.int .i64 1, .int .i64 0, .int .i64 1, .int .i64 0] 3)).alloc (.cells #[.int .i64 2, .string ⟨#[109, 97, 112]⟩, .string ⟨#[]⟩, .slice (some ⟨w.heap.size + 1 + 1, 0, none⟩) 4 4, .int .i64 0, .string ⟨#[115, 116, 114]⟩, .string ⟨#[97]⟩, .slice none 0 0] 37)).heap.size ((((w.alloc (.cells #[.int .i64 1, .int .i64 0] 3)).alloc (.cells #[.int .i64 2, .string ⟨#[109, 97, 112]⟩, .string ⟨#[]⟩, .slice (some ⟨w.heap.size, 0, none⟩) 2 2, .int .i64 0, .string ⟨#[115, 116, 114]⟩, .string ⟨#[97]⟩, .slice none 0 0] 37)).alloc (.cells #[.int .i64 1, .int .i64 0, .int .i64 1, .int .i64 0] 3)).alloc (.cells #[.int .i64 2, .string ⟨#[109, 97, 112]⟩, .string ⟨#[]⟩, .slice (some ⟨w.heap.size + 1 + 1, 0, none⟩) 4 4, .int .i64 0, .string ⟨#[115, 116, 114]⟩, .string ⟨#[97]⟩, .slice none 0 0] 37)) W) => same_any (.slice (some ⟨w.heap.size + 1, 0, none⟩) 2 2) (.slice (some ⟨w.heap.size + 1, 0, none⟩) 2 2) alA alA W ((hA.below hb).mono hb.size) ((hA.below hb).mono hb.size) (by decide) (by decide) al_fine al_fine (hE0.below hb))
  have R7 := Lib.hid (fun W (hb : Below ((((w.alloc (.cells #[.int .i64 1, .int .i64 0] 3)).alloc (.cells #[.int .i64 2, .string ⟨#[109, 97, 112]⟩, .string ⟨#[]⟩, .slice (some ⟨w.heap.size, 0, none⟩) 2 2, .int .i64 0, .string ⟨#[115, 116, 114]⟩, .string ⟨#[97]⟩, .slice none 0 0] 37)).alloc (.cells #[.int .i64 1, .int .i64 0, .int .i64 1, .int .i64 0] 3)).alloc (.cells #[.int .i64 2, .string ⟨#[109, 97, 112]⟩, .string ⟨#[]⟩, .slice (some ⟨w.heap.size + 1 + 1, 0, none⟩) 4 4, .int .i64 0, .string ⟨#[115, 116, 114]⟩, .string ⟨#[97]⟩, .slice none 0 0] 37)).heap.size ((((w.alloc (.cells #[.int .i64 1, .int .i64 0] 3)).alloc (.cells #[.int .i64 2, .string ⟨#[109, 97, 112]⟩, .string ⟨#[]⟩, .slice (some ⟨w.heap.size, 0, none⟩) 2 2, .int .i64 0, .string ⟨#[115, 116, 114]⟩, .string ⟨#[97]⟩, .slice none 0 0] 37)).alloc (.cells #[.int .i64 1, .int .i64 0, .int .i64 1, .int .i64 0] 3)).alloc (.cells #[.int .i64 2, .string ⟨#[109, 97, 112]⟩, .string ⟨#[]⟩, .slice (some ⟨w.heap.size + 1 + 1, 0, none⟩) 4 4, .int .i64 0, .string ⟨#[115, 116, 114]⟩, .string ⟨#[97]⟩, .slice none 0 0] 37)) W) => normal_any (.slice (some ⟨w.heap.size + 1, 0, none⟩) 2 2) alA W ((hA.below hb).mono hb.size) (by decide) al_fine (hE0.below hb))
  have R8 := Lib.hid (fun W (hb : Below ((((w.alloc (.cells #[.int .i64 1, .int .i64 0] 3)).alloc (.cells #[.int .i64 2, .string ⟨#[109, 97, 112]⟩, .string ⟨#[]⟩, .slice (some ⟨w.heap.size, 0, none⟩) 2 2, .int .i64 0, .string ⟨#[115, 116, 114]⟩, .string ⟨#[97]⟩, .slice none 0 0] 37)).alloc (.cells #[.int .i64 1, .int .i64 0, .int .i64 1, .int .i64 0] 3)).alloc (.cells #[.int .i64 2, .string ⟨#[109, 97, 112]⟩, .string ⟨#[]⟩, .slice (some ⟨w.heap.size + 1 + 1, 0, none⟩) 4 4, .int .i64 0, .string ⟨#[115, 116, 114]⟩, .string ⟨#[97]⟩, .slice none 0 0] 37)).heap.size ((((w.alloc (.cells #[.int .i64 1, .int .i64 0] 3)).alloc (.cells #[.int .i64 2, .string ⟨#[109, 97, 112]⟩, .string ⟨#[]⟩, .slice (some ⟨w.heap.size, 0, none⟩) 2 2, .int .i64 0, .string ⟨#[115, 116, 114]⟩, .string ⟨#[97]⟩, .slice none 0 0] 37)).alloc (.cells #[.int .i64 1, .int .i64 0, .int .i64 1, .int .i64 0] 3)).alloc (.cells #[.int .i64 2, .string ⟨#[109, 97, 112]⟩, .string ⟨#[]⟩, .slice (some ⟨w.heap.size + 1 + 1, 0, none⟩) 4 4, .int .i64 0, .string ⟨#[115, 116, 114]⟩, .string ⟨#[97]⟩, .slice none 0 0] 37)) W) => print_any (.slice (some ⟨w.heap.size + 1, 0, none⟩) 2 2) alA W ((hA.below hb).mono hb.size) (by decide) al_fine al_small (hE0.below hb))
  rw [al_order] at R1
  rw [al_ins] at R2
  rw [al_right] at R3
  rw [al_rightB] at R4
  rw [al_twice] at R5
  rw [al_same] at R6
  rw [al_normal] at R7
  rw [al_print] at R8
  have HB0 := Lib.hid hb0
  clear hE hE0 hA hB hb0
  go_enter Tryd.func8, Tryd.ntmps8
  go_wp2_with fail
  refine (R1.out _ (Below.refl _ _)).mono ?_
  rintro e w1 ⟨⟨u1, rfl, hu1⟩, hb1⟩
  obtain ⟨a1, c1, rfl, _, hcl1⟩ := hu1
  obtain ⟨g1, o1, rfl, hg1, hcl1⟩ := hcl1 (by decide)
  have x1 := hcl1 1 (by decide)
  have X1 : Hid (w1.cell? ⟨g1, o1 + 1, none⟩ = some (.int .i64 1)) := x1
  have HB1 := Lib.hid hb1
  clear hcl1 x1 hb1
  go_wp2_with fail
  refine (R2.out _ HB1.out).mono ?_
  rintro e w2 ⟨⟨u2, rfl, hu2⟩, hb2⟩
  obtain ⟨a2, c2, rfl, _, hcl2⟩ := hu2
  obtain ⟨g2, o2, rfl, hg2, hcl2⟩ := hcl2 (by decide)
  have x2 := hcl2 0 (by decide)
  have X2 : Hid (w2.cell? ⟨g2, o2 + 0, none⟩ = some (.int .i64 1)) := x2
  have X1 := Lib.hid ((hb2.cell (p := ⟨g1, o1 + 1, none⟩) hg1).trans X1.out)
  have HB2 := Lib.hid (bthen HB1.out hb2)
  have hs12 := hb2.size
  clear hcl2 x2 hb2 HB1
  go_wp2_with fail
  refine (R3.out _ HB2.out).mono ?_
  rintro e w3 ⟨rfl, hb3⟩
  have HB3 := Lib.hid (bthen HB2.out hb3)
  go_wp2_with fail
  refine (R4.out _ HB3.out).mono ?_
  rintro e w4 ⟨rfl, hb4⟩
  have HB4 := Lib.hid (bthen HB3.out hb4)
  go_wp2_with fail
  refine (R5.out _ HB4.out).mono ?_
  rintro e w5 ⟨rfl, hb5⟩
  have HB5 := Lib.hid (bthen HB4.out hb5)
  have y1 : w5.cell? ⟨g1, o1 + 1, none⟩ = some (.int .i64 1) := ((bthen (bthen hb3 hb4) hb5).cell (p := ⟨g1, o1 + 1, none⟩) (Nat.lt_of_lt_of_le hg1 hs12)).trans X1.out
  have y2 : w5.cell? ⟨g2, o2, none⟩ = some (.int .i64 1) := ((bthen (bthen hb3 hb4) hb5).cell (p := ⟨g2, o2 + 0, none⟩) hg2).trans X2.out
  go_wp2_with fail
  refine (R6.out _ HB5.out).mono ?_
  rintro e w6 ⟨rfl, hb6⟩
  have HB6 := Lib.hid (bthen HB5.out hb6)
  go_wp2_with fail
  refine (R7.out _ HB6.out).mono ?_
  rintro e w7 ⟨⟨u7, rfl, hu7⟩, hb7⟩
  obtain ⟨a7, c7, rfl⟩ := hu7.form
  have HB7 := Lib.hid (bthen HB6.out hb7)
  clear hu7
  go_wp2_with fail
  refine (R8.out _ HB7.out).mono ?_
  rintro e w8 ⟨rfl, hb8⟩
  have HB8 := Lib.hid (bthen HB7.out hb8)
  have e8 : ((str [48, 32, 123, 32, 33, 33, 109, 97, 112, 32, 49, 32, 48, 10, 49, 32, 61, 32, 33, 33, 115, 116, 114, 32, 34, 97, 34, 10]).toList == [48, 32, 123, 32, 33, 33, 109, 97, 112, 32, 49, 32, 48, 10, 49, 32, 61, 32, 33, 33, 115, 116, 114, 32, 34, 97, 34, 10]) = true := by rw [Lib.toList_data, str_dat]; simp
  go_wp2
  go_ret
  exact ⟨rfl, bthen HB0.out HB8.out⟩
end Go.Proofs.YtnlbnnnhmdjciaaDoor
