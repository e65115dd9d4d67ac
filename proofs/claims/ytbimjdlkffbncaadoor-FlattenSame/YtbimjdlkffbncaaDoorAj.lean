/-
  The walk of arena.Order.
-/
import Derived.Test.YtbimjdlkffbncaaDoorAi
import Derived.Laws.EntriesVeiled
namespace Go.Proofs.YtbimjdlkffbncaaDoor
open Go.RowKit Go.Maps
def nats (met : List Nat) : List Int := met.map (fun (n : Nat) => (n : Int))
theorem nats_len (met : List Nat) : (nats met).length = met.length := by unfold nats; rw [List.length_map]
theorem row_rdI {w : World} {T : Nat} {v : Value} {ks : List Int} (h : w.ownsRow T 3 1 v ks.length (ks.map (Value.int .i64))) : RdI w w.heap.size v ks := by
  obtain ⟨a, c, rfl⟩ := own_form h
  rcases h.2 with ⟨e, h0⟩ | ⟨g, cap, cur, e, hB, hg, hnc, hm, hsz, ht⟩
  · simp only [Value.slice.injEq] at e
    obtain ⟨rfl, _, rfl⟩ := e
    have : ks = [] := List.eq_nil_of_length_eq_zero h0
    subst this
    exact ⟨none, 0, rfl, Nat.le_refl _, fun h => absurd h (by simp)⟩
  · simp only [Value.slice.injEq] at e
    obtain ⟨rfl, _, rfl⟩ := e
    refine ⟨_, c, rfl, hnc, fun _ => ⟨g, 0, rfl, (Array.getElem?_eq_some_iff.1 hg).1, fun j hj => ?_⟩⟩
    rw [Nat.zero_add]
    refine cell_blk hg j _ ?_
    have h1 : (cur.toList.take (ks.length * 1))[j]? = (ks.map (Value.int .i64))[j]? := by rw [ht]
    rw [List.getElem?_take, if_pos (by omega), List.getElem?_map, List.getElem?_eq_getElem hj] at h1
    rw [← Array.getElem?_toList]; exact h1

set_option maxHeartbeats 4000000 in
set_option maxRecDepth 100000 in
theorem order_any (v : Value) (g : List Ar.Nd) (w : World) (hg : RdG w w.heap.size v g) (hgl : g.length ≤ 1000000) (hfi : ∀ x ∈ g, Fine x) (hE : Env w) :
    Calls Tryd.prog 53 #[v] w fun e w' => (∃ u, e = .returned u ∧ RdI w' w'.heap.size u (nats (Ar.order g))) ∧ Below w.heap.size w w' := by
  obtain ⟨ga, gc, rfl, hgc, hgx⟩ := hg
  have hG : RdG w w.heap.size (.slice ga g.length gc) g := ⟨ga, gc, rfl, hgc, hgx⟩
  have b0 := bnew w (.cells #[.slice ga g.length gc] 45)
  have cR := right_any (.slice ga g.length gc) g (w.alloc (.cells #[.slice ga g.length gc] 45)) ((hG.below b0).mono b0.size) hgl hfi (hE.below b0)
  have HG := Lib.hid hG
  clear hgx hG
  unfold Ar.order
  cases hr : Ar.right g
  · rw [hr] at cR
    have cR := Lib.hid cR
    rw [if_neg (by decide)]
    go_enter Tryd.func53, Tryd.ntmps53
    go_wp2_with (go_at_call 21; refine cR.out.mono ?_; rintro e w1 ⟨rfl, hb1⟩)
    go_ret
    exact ⟨⟨_, rfl, none, 0, rfl, Nat.le_refl _, fun h => absurd h (by simp [nats])⟩, b0.trans (hb1.mono b0.size)⟩
  · rw [hr] at cR
    have cR := Lib.hid cR
    rw [if_pos rfl]
    obtain ⟨hl0, hl2⟩ := right_len hr
    have hkids : Ar.Kids g := right_kids hr
    clear hr
    have hm4 := made4 g.length (by omega)
    have gb := alloc_blk w (.cells #[.slice ga g.length gc] 45)
    have G0 := Lib.hid gb
    clear gb
    have HKI := Lib.hid hkids
    clear hkids
    go_enter Tryd.func53, Tryd.ntmps53
    go_wp2_with (first
      | (go_at_call 21; refine cR.out.mono ?_; rintro e w1 ⟨rfl, hb1⟩; have q4 : ∀ o, (w1.alloc o).cell? ⟨w.heap.size, 0, none⟩ = some (.slice ga g.length gc) := fun o => cell_blk (blk_below (blk_below G0.out hb1) (bnew w1 o)) 0 _ rfl))
    have hs1 := hb1.size
    rw [World.size_alloc] at hs1
    have FIN : ∀ (A B C D : Obj), A = .cells #[.slice none 0 0] 62 → B = .cells (cellsB g.length []) 4 → C = .cells #[.slice (some ⟨w1.heap.size + 1, 0, none⟩) g.length g.length] 108 →
        D = .cells #[.func (.func 89) #[] #[.pointer (some ⟨w1.heap.size + 1 + 1, 0, none⟩), .pointer (some ⟨w1.heap.size, 0, none⟩), .pointer (some ⟨w.heap.size, 0, none⟩), .pointer (some ⟨w1.heap.size + 1 + 1 + 1, 0, none⟩)]] 109 →
        Calls Tryd.prog 89 #[.int .i64 ((0 : Nat) : Int), .pointer (some ⟨w1.heap.size + 1 + 1, 0, none⟩), .pointer (some ⟨w1.heap.size, 0, none⟩), .pointer (some ⟨w.heap.size, 0, none⟩), .pointer (some ⟨w1.heap.size + 1 + 1 + 1, 0, none⟩)] ((((w1.alloc A).alloc B).alloc C).alloc D)
          fun e w' => e = .returned (.tuple #[]) ∧ DfsAt w' ga gc g.length (w1.heap.size + 1) (w1.heap.size + 1 + 1) w1.heap.size w.heap.size (w1.heap.size + 1 + 1 + 1) (w1.heap.size + 1 + 1 + 1 + 1) (Ar.meet (g.length + 1) g 0 []) ∧ Below w.heap.size w w' := by
      intro A B C D hA hB hC hD
      have pB := alloc_blk (w1.alloc A) B
      have pC := alloc_blk ((w1.alloc A).alloc B) C
      have pD := alloc_blk (((w1.alloc A).alloc B).alloc C) D
      rw [World.size_alloc] at pB
      rw [World.size_alloc, World.size_alloc] at pC
      rw [World.size_alloc, World.size_alloc, World.size_alloc] at pD
      have pA := blk_below (blk_below (blk_below (alloc_blk w1 A) (bnew (w1.alloc A) B)) (bnew ((w1.alloc A).alloc B) C)) (bnew (((w1.alloc A).alloc B).alloc C) D)
      have pB := blk_below (blk_below pB (bnew ((w1.alloc A).alloc B) C)) (bnew (((w1.alloc A).alloc B).alloc C) D)
      have pC := blk_below pC (bnew (((w1.alloc A).alloc B).alloc C) D)
      have bb := bthen (bthen (bthen (bnew w1 A) (bnew (w1.alloc A) B)) (bnew ((w1.alloc A).alloc B) C)) (bnew (((w1.alloc A).alloc B).alloc C) D)
      have bw : Below w.heap.size w ((((w1.alloc A).alloc B).alloc C).alloc D) := (b0.trans (hb1.mono b0.size)).trans (bb.mono (by omega))
      have pG := blk_below (blk_below G0.out hb1) bb
      subst hA hB hC hD
      have hN0 : Ar.NB g.length [] := ⟨List.nodup_nil, fun x hx => absurd hx List.not_mem_nil⟩
      refine (meet_any g ga gc g.length (w1.heap.size + 1) (w1.heap.size + 1 + 1) w1.heap.size w.heap.size (w1.heap.size + 1 + 1 + 1) (w1.heap.size + 1 + 1 + 1 + 1) rfl hl2 hgc HKI.out hfi (by omega) (by omega) (by omega) (by omega) (by omega) (by omega) (by omega) (by omega) (by omega) (by omega) (by omega) (by omega) (by omega) (by omega)
        (g.length + 1) 0 [] _ hl0 ⟨pC, pB, ⟨_, pA, World.ownsRow_nil _ _ _ _⟩, pG, pD⟩ hN0 (by simp) (by rw [World.size_alloc, World.size_alloc, World.size_alloc, World.size_alloc]; exact Nat.le_refl _) (HG.out.below bw)).mono ?_
      rintro e w5 ⟨rfl, hD, hB⟩
      exact ⟨rfl, hD, bw.trans hB⟩
    refine (FIN _ _ _ _ rfl rfl rfl rfl).mono ?_
    rintro e w5 ⟨rfl, ⟨_, _, ⟨v, p1, hrow⟩, _, _⟩, hB5⟩
    obtain ⟨va, vc, rfl⟩ := own_form hrow
    have c5 := cell_blk p1 0 _ rfl
    rw [← nats_len] at hrow
    have hrd := row_rdI (ks := nats _) hrow
    rw [nats_len] at hrd
    go_wp2
    go_ret
    exact ⟨⟨_, rfl, hrd⟩, hB5⟩
end Go.Proofs.YtbimjdlkffbncaaDoor
