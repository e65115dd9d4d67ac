/-
  The pieces of a text: mathematics, and the walk of lines.piecesOf.
-/
import Derived.Test.YtmhakkahclbbjaaGreatDoorLq
import Derived.Lib.IndexLaws
namespace Go.Proofs.YtmhakkahclbbjaaGreatDoor
namespace Lx
/-- what stands between bytes 10 -/
def pieces : List UInt8 → List (List UInt8)
  | [] => [[]]
  | b :: t => if b = 10 then [] :: pieces t else match pieces t with
    | [] => [[b]]
    | p :: ps => (b :: p) :: ps
theorem pieces_ne (l : List UInt8) : pieces l ≠ [] := by
  cases l with
  | nil => simp [pieces]
  | cons b t =>
    unfold pieces
    split
    · simp
    · split <;> simp
theorem index10 (b : UInt8) (t : List UInt8) : Lib.index (b :: t) [10] = if b = 10 then 0 else if Lib.index t [10] = -1 then -1 else Lib.index t [10] + 1 := by
  rw [Lib.index_one, Lib.index_one]
  by_cases h : b = 10
  · subst h; rw [if_pos rfl]; simp [Lib.indexByte]
  · rw [if_neg h]
    have : Lib.indexByte (b :: t) 10 = if b == 10 then 0 else if Lib.indexByte t 10 == -1 then -1 else Lib.indexByte t 10 + 1 := rfl
    rw [this, if_neg (by simpa using h)]
    by_cases h2 : Lib.indexByte t 10 = -1
    · rw [h2]; rfl
    · rw [if_neg (by simpa using h2), if_neg h2]
theorem index_ge (l : List UInt8) : Lib.index l [10] = -1 ∨ ∃ i : Nat, Lib.index l [10] = i := by
  induction l with
  | nil => left; rw [Lib.index_one]; rfl
  | cons b t ih =>
    rw [index10]
    by_cases h : b = 10
    · right; exact ⟨0, by rw [if_pos h]; rfl⟩
    · rw [if_neg h]
      rcases ih with h2 | ⟨i, hi⟩
      · left; rw [if_pos h2]
      · right; refine ⟨i + 1, ?_⟩; rw [hi, if_neg (by omega)]; omega
theorem splitK_hit (k i : Nat) (s : List UInt8) (h : Lib.index s [10] = i) : Lib.splitK [10] 0 (k + 1) s = s.take i :: Lib.splitK [10] 0 k (s.drop (i + 1)) := by
  have hm : ¬ (Lib.index s [10] == -1) = true := fun e => by have := beq_iff_eq.1 e; omega
  have e : (Lib.index s [10]).toNat = i := by omega
  rw [Lib.splitK, if_neg hm, e]; rfl
theorem splitK_miss (k : Nat) (s : List UInt8) (h : Lib.index s [10] = -1) : Lib.splitK [10] 0 k s = [s] := by
  cases k with
  | zero => rfl
  | succ k => rw [Lib.splitK, if_pos (by rw [h]; rfl)]
theorem split_pieces (l : List UInt8) : Lib.split l [10] = pieces l := by
  induction l with
  | nil =>
    unfold Lib.split
    rw [splitK_miss _ _ (by rw [Lib.index_one]; rfl)]; rfl
  | cons b t ih =>
    unfold Lib.split at ih ⊢
    unfold pieces
    by_cases h : b = 10
    · rw [if_pos h]
      have hi : Lib.index (b :: t) [10] = ((0 : Nat) : Int) := by rw [index10, if_pos h]; rfl
      rw [Lib.count_hit (by simp) hi, Nat.add_comm, splitK_hit _ 0 _ hi]
      simp only [List.length_cons, List.length_nil, Nat.zero_add, List.drop_succ_cons, List.drop_zero, List.take_zero]
      rw [ih]
    · rw [if_neg h]
      rcases index_ge t with h2 | ⟨i, hi⟩
      · have hs : Lib.index (b :: t) [10] = -1 := by rw [index10, if_neg h, if_pos h2]
        rw [splitK_miss _ _ h2] at ih
        rw [splitK_miss _ _ hs, ← ih]
      · have hs : Lib.index (b :: t) [10] = ((i + 1 : Nat) : Int) := by rw [index10, if_neg h, hi, if_neg (by omega)]; omega
        rw [Lib.count_hit (by simp) hi, Nat.add_comm, splitK_hit _ i _ hi] at ih
        rw [Lib.count_hit (by simp) hs, Nat.add_comm, splitK_hit _ (i + 1) _ hs, ← ih]
        simp
theorem pieces_len (l : List UInt8) : (pieces l).length ≤ l.length + 1 := by
  induction l with
  | nil => simp [pieces]
  | cons b t ih =>
    unfold pieces
    split
    · simp only [List.length_cons]; omega
    · split
      · simp
      · rename_i h; rw [h] at ih; simp only [List.length_cons] at ih ⊢; omega
theorem pieces_short (l : List UInt8) : ∀ p ∈ pieces l, p.length ≤ l.length := by
  induction l with
  | nil => simp [pieces]
  | cons b t ih =>
    unfold pieces
    split
    · intro p hp
      rcases List.mem_cons.1 hp with rfl | hp
      · simp
      · have := ih p hp; simp only [List.length_cons]; omega
    · split
      · intro p hp; simp only [List.mem_cons, List.not_mem_nil, or_false] at hp; subst hp; simp
      · rename_i q qs h
        rw [h] at ih
        intro p hp
        rcases List.mem_cons.1 hp with rfl | hp
        · have := ih q (by simp); simp only [List.length_cons]; omega
        · have := ih p (by simp [hp]); simp only [List.length_cons]; omega
end Lx
open Go.RowKit

/-- all pieces lie in one block -/
def PiecesAt (w : World) (g : Nat) (ps : List ByteArray) : Prop := w.heap[g]? = some (.cells (ps.map Value.string).toArray 9 (0, 0))
theorem PiecesAt.rd {w : World} {g : Nat} {ps : List ByteArray} (h : PiecesAt w g ps) (o : Nat) : RdS w w.heap.size (some ⟨g, o, none⟩) (ps.drop o) := fun _ => by
  refine ⟨g, o, rfl, (Array.getElem?_eq_some_iff.1 h).1, fun j hj => ?_⟩
  rw [List.length_drop] at hj
  refine cell_blk h (o + j) _ ?_
  simp [List.getElem?_eq_getElem (show o + j < ps.length by omega)]
theorem PiecesAt.below {w w' : World} {g : Nat} {ps : List ByteArray} (h : PiecesAt w g ps) (hb : Below w.heap.size w w') : PiecesAt w' g ps :=
  (hb.block g (Array.getElem?_eq_some_iff.1 h).1).trans h

set_option maxHeartbeats 1000000 in
theorem pieces_any (s : ByteArray) (w : World) (hs : s.size ≤ 1000000) (hE : Env w) :
    Calls Tryz.prog 20 #[.string s] w fun e w' => ∃ ps, byts ps = Lx.pieces s.data.toList ∧ e = .returned (.slice (some ⟨w.heap.size, 0, none⟩) ps.length ps.length) ∧ PiecesAt w' w.heap.size ps ∧ Below w.heap.size w w' := by
  obtain ⟨m, hm⟩ := hE.maxl
  have cS := Tryz.strings_Split s ⟨#[10]⟩ m w (by omega) hm (by decide)
  obtain ⟨ps, hps⟩ : ∃ ps, Lib.splitB ⟨#[10]⟩ 0 (Lib.countB s ⟨#[10]⟩) s = ps := ⟨_, rfl⟩
  have hb : byts ps = Lx.pieces s.data.toList := by
    rw [← Lx.split_pieces, ← hps]
    exact Lib.splitB_data ⟨#[10]⟩ 0 _ s
  have hl : Lib.countB s ⟨#[10]⟩ + 1 = ps.length := by
    rw [← hps]; exact (Lib.splitB_all ⟨#[10]⟩ (by decide) 0 _ s rfl).symm
  rw [hps, hl] at cS
  have CS := Lib.hid cS
  clear cS hm hE hps hl
  go_enter Tryz.func20, Tryz.ntmps20
  go_wp2_with (go_at_call 41; refine CS.out.mono ?_; rintro e w' ⟨rfl, rfl⟩)
  go_ret
  refine ⟨ps, hb, rfl, ?_, bnew w _⟩
  show (w.heap.push _)[w.heap.size]? = _
  simp
end Go.Proofs.YtmhakkahclbbjaaGreatDoor
