/-
  Walk of lex.wordAt.
-/
import Derived.Test.YtmhakkahclbbjaaGreatDoorLi
namespace Go.Proofs.YtmhakkahclbbjaaGreatDoor
open Go.RowKit

def wordV (x : Lx.Wd) : Value := .agg #[.int .i64 x.kind, .string (str x.text), .int .i64 x.at_]
def wordE : Except Nat (Lx.Wd × Nat) → Ending
  | .ok (x, n) => .returned (.tuple #[wordV x, .int .i64 n, .int .i64 0])
  | .error e => .returned (.tuple #[.agg #[.int .i64 0, .string ⟨#[]⟩, .int .i64 0], .int .i64 0, .int .i64 e])

theorem bthen {a b c : World} (h : Below a.heap.size a b) (k : Below b.heap.size b c) : Below a.heap.size a c := h.trans (k.mono h.size)
theorem bnew (w : World) (o : Obj) : Below w.heap.size w (w.alloc o) := (Below.refl _ w).alloc (Nat.le_refl _) o
theorem blk_kept {w w1 w2 : World} {c : Array Value} {t : TypeId} (h1 : Below (w.alloc (.cells c t)).heap.size (w.alloc (.cells c t)) w1) (h2 : Below w1.heap.size w1 w2) : w2.heap[w.heap.size]? = some (.cells c t (0, 0)) := by
  have e : (w.alloc (.cells c t)).heap[w.heap.size]? = some (.cells c t (0, 0)) := by show (w.heap.push _)[w.heap.size]? = _; simp
  have hlt : w.heap.size < (w.alloc (.cells c t)).heap.size := by rw [World.size_alloc]; omega
  rw [h2.block _ (Nat.lt_of_lt_of_le hlt h1.size), h1.block _ hlt, e]
theorem cell_blk {w : World} {b : Nat} {c : Array Value} {t : TypeId} {fr : Nat × Nat} (h : w.heap[b]? = some (.cells c t fr)) (i : Nat) (v : Value) (hi : c[i]? = some v) : w.cell? ⟨b, i, none⟩ = some v := by
  simp [World.cell?, h, hi]
theorem frozen_blk {w : World} {b : Nat} {c : Array Value} {t : TypeId} (h : w.heap[b]? = some (.cells c t (0, 0))) (i : Nat) : w.frozen? ⟨b, i, none⟩ = false := by
  simp [World.frozen?, h]

set_option maxHeartbeats 2000000 in
theorem wordAt_any (s : ByteArray) (k : Nat) (d : Bool) (w : World) (hs : s.size ≤ 50000) (hk : k < s.size) (hb : Lx.isB (s.data.toList.getD k 0) 32 = false) (hE : Env w) :
    Calls Tryz.prog 66 #[.string s, .int .i64 k, .bool d] w fun e w' => e = wordE (Lx.wordAt s.data.toList k d) ∧ Below w.heap.size w w' := by
  unfold Lx.wordAt
  obtain ⟨r, hr⟩ : ∃ r, s.extract k s.size = r := ⟨_, rfl⟩
  have hrd : r.data.toList = s.data.toList.drop k := by rw [← hr]; exact Lib.extract_to_end s k
  have hrs : r.size = s.size - k := by rw [Lib.size_eq, hrd, List.length_drop, ← Lib.size_eq]
  have h0 : 0 < r.size := by omega
  have hb0 : Lx.isB r[0] 32 = false := by
    rw [← Lx.getD_at r 0 h0, hrd, List.getD_eq_getElem?_getD, List.getElem?_drop, Nat.add_zero, ← List.getD_eq_getElem?_getD]; exact hb
  rw [← hrd]
  have hw0 : Env (w.alloc (.cells #[.int .i64 0, .string ⟨#[]⟩, .int .i64 0] 32)) := hE.below ((Below.refl _ w).alloc (Nat.le_refl _) _)
  simp only
  rw [Lx.getD_at r 0 h0]
  clear hrd hb
  by_cases h9 : Lx.isB r[0] 9 = true
  · rw [if_pos h9]
    have b9 : ((r[0].toNat : Int) == 9) = true := h9
    clear h9 hb0 hE hw0
    go_enter Tryz.func66, Tryz.ntmps66
    go_wp2
    refine bodyPost_ret (v := .tuple #[.agg #[.int .i64 0, .string ⟨#[]⟩, .int .i64 0], .int .i64 0, .int .i64 8]) (by simp [results, go_sem]) rfl ?_
    exact ⟨rfl, (Below.refl _ _).alloc (Nat.le_refl _) _⟩
  · rw [if_neg h9]
    have b9 : ((r[0].toNat : Int) == 9) = false := by simpa [Lx.isB] using h9
    clear h9
    have cK := fun w => kind_any r d w (by omega) h0
    have hK := Lx.kindOf_le r.data.toList d
    generalize Lx.kindOf r.data.toList d = K at *
    have cZ := fun w => size_any r K w (by omega) h0 hK
    have hZ := Lx.sizeOf_le r.data.toList K (by rw [ba_len]; exact h0) (fun _ => by rw [Lx.getD_at r 0 h0]; exact hb0)
    rw [ba_len] at hZ
    generalize Lx.sizeOf r.data.toList K = Z at *
    obtain ⟨z, e⟩ := Z
    simp only at hZ ⊢
    unfold pairI at cZ
    simp only at cZ
    have HK := Lib.hid cK
    have HZ := Lib.hid cZ
    clear cK cZ hb0
    by_cases he : e = 0
    · subst he
      rw [if_pos rfl]
      obtain ⟨hz1, hz2⟩ := hZ rfl
      obtain ⟨t, ht⟩ : ∃ t, r.extract 0 z = t := ⟨_, rfl⟩
      have htd : t.data.toList = r.data.toList.take z := by rw [← ht]; exact Tag.ext_take r z
      have hts : t.size = z := by rw [Lib.size_eq, htd, List.length_take, ← Lib.size_eq]; omega
      have cT := fun w hE => wtext_any t K w (by omega) (by omega) hK hE
      rw [htd] at cT
      generalize Lx.wtext (r.data.toList.take z) K = T at *
      obtain ⟨x, f⟩ := T
      unfold strI at cT
      simp only at cT ⊢
      have HT := Lib.hid cT
      clear cT htd hZ
      have HE := Lib.hid hw0
      clear hE hw0
      by_cases hf : f = 0
      · subst hf
        rw [if_pos rfl]
        go_enter Tryz.func66, Tryz.ntmps66
        go_wp2_with (first
          | (go_at_call 89; refine (HK.out _).mono ?_; rintro e w' ⟨rfl, rfl⟩)
          | (go_at_call 90; refine (HZ.out _).mono ?_; rintro e w1 ⟨rfl, hb1⟩)
          | (go_at_call 91; refine (HT.out _ (HE.out.below hb1)).mono ?_; rintro e w2 ⟨rfl, hb2⟩; have hk2 := blk_kept hb1 hb2; have f0 := frozen_blk hk2 0; have f1 := frozen_blk hk2 1; have f2 := frozen_blk hk2 2; have c0 := cell_blk hk2 0 (.int .i64 0) rfl; have c1 := cell_blk hk2 1 (.string ⟨#[]⟩) rfl; have c2 := cell_blk hk2 2 (.int .i64 0) rfl; clear hk2))
        refine bodyPost_ret (v := .tuple #[wordV ⟨K, x, k⟩, .int .i64 z, .int .i64 0]) (by simp [results, wordV, go_sem, c0, c1, c2]) rfl ?_
        exact ⟨rfl, (((bthen (bthen (bnew w _) hb1) hb2).setCell (p := ⟨w.heap.size, 0, none⟩) (Nat.le_refl _) _).setCell (p := ⟨w.heap.size, 1, none⟩) (Nat.le_refl _) _).setCell (p := ⟨w.heap.size, 2, none⟩) (Nat.le_refl _) _⟩
      · rw [if_neg hf]
        have bf : ((f : Int) != 0) = true := bne_iff_ne.2 (by omega)
        go_enter Tryz.func66, Tryz.ntmps66
        go_wp2_with (first
          | (go_at_call 89; refine (HK.out _).mono ?_; rintro e w' ⟨rfl, rfl⟩)
          | (go_at_call 90; refine (HZ.out _).mono ?_; rintro e w1 ⟨rfl, hb1⟩)
          | (go_at_call 91; refine (HT.out _ (HE.out.below hb1)).mono ?_; rintro e w2 ⟨rfl, hb2⟩; have hk2 := blk_kept hb1 hb2; have f0 := frozen_blk hk2 0; have f1 := frozen_blk hk2 1; have f2 := frozen_blk hk2 2; have c0 := cell_blk hk2 0 (.int .i64 0) rfl; have c1 := cell_blk hk2 1 (.string ⟨#[]⟩) rfl; have c2 := cell_blk hk2 2 (.int .i64 0) rfl; clear hk2))
        refine bodyPost_ret (v := .tuple #[.agg #[.int .i64 0, .string ⟨#[]⟩, .int .i64 0], .int .i64 0, .int .i64 f]) (by simp [results, go_sem, c0, c1, c2]) rfl ?_
        exact ⟨rfl, (((bthen (bthen (bnew w _) hb1) hb2).setCell (p := ⟨w.heap.size, 0, none⟩) (Nat.le_refl _) _).setCell (p := ⟨w.heap.size, 1, none⟩) (Nat.le_refl _) _).setCell (p := ⟨w.heap.size, 2, none⟩) (Nat.le_refl _) _⟩
    · rw [if_neg he]
      have be : ((e : Int) != 0) = true := bne_iff_ne.2 (by omega)
      go_enter Tryz.func66, Tryz.ntmps66
      go_wp2_with (first
        | (go_at_call 89; refine (HK.out _).mono ?_; rintro e w' ⟨rfl, rfl⟩)
        | (go_at_call 90; refine (HZ.out _).mono ?_; rintro e w1 ⟨rfl, hb1⟩; have hk2 := blk_kept hb1 (Below.refl _ _); have f0 := frozen_blk hk2 0; have f1 := frozen_blk hk2 1; have f2 := frozen_blk hk2 2; have c0 := cell_blk hk2 0 (.int .i64 0) rfl; have c1 := cell_blk hk2 1 (.string ⟨#[]⟩) rfl; have c2 := cell_blk hk2 2 (.int .i64 0) rfl; clear hk2))
      refine bodyPost_ret (v := .tuple #[.agg #[.int .i64 0, .string ⟨#[]⟩, .int .i64 0], .int .i64 0, .int .i64 e]) (by simp [results, go_sem, c0, c1, c2]) rfl ?_
      exact ⟨rfl, (((bthen (bnew w _) hb1).setCell (p := ⟨w.heap.size, 0, none⟩) (Nat.le_refl _) _).setCell (p := ⟨w.heap.size, 1, none⟩) (Nat.le_refl _) _).setCell (p := ⟨w.heap.size, 2, none⟩) (Nat.le_refl _) _⟩
end Go.Proofs.YtmhakkahclbbjaaGreatDoor
