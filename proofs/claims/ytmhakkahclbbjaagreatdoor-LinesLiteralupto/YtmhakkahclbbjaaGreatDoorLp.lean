/-
  Walks of lines: lineOf, hasBar, saysSomething.
-/
import Derived.Test.YtmhakkahclbbjaaGreatDoorLo
import Derived.Test.YtmhakkahclbbjaaGreatDoorLl
namespace Go.Proofs.YtmhakkahclbbjaaGreatDoor
namespace Lx
structure Ln where
  mark : Nat
  indent : Nat
  words : List Wd
  text : List UInt8
/-- what a piece tells, without the text below its bar -/
def lineOf (p : List UInt8) : Except Nat Ln :=
  if markOf p = 0 then (match Lx.words p with
    | .error e => .error e
    | .ok ws => .ok ⟨0, blanks p, ws, []⟩) else .ok ⟨markOf p, 0, [], []⟩
def lastBar (ws : List Wd) : Bool := match ws.getLast? with
  | some x => decide (x.kind = 13)
  | none => false
def says (x : Ln) : Bool := decide (x.mark ≠ 0) || !x.words.isEmpty
theorem lineOf_err (p : List UInt8) (e : Nat) (h : lineOf p = .error e) : e ≠ 0 := by
  unfold lineOf at h
  split at h
  · split at h
    · rename_i he; cases h; exact words_err _ _ he
    · cases h
  · cases h
theorem lineOf_text (p : List UInt8) (x : Ln) (h : lineOf p = .ok x) : x.text = [] ∧ x.indent ≤ p.length := by
  unfold lineOf at h
  split at h
  · split at h
    · cases h
    · cases h; exact ⟨rfl, blanks_le p⟩
  · cases h; exact ⟨rfl, Nat.zero_le _⟩
end Lx
open Go.RowKit

/-- lineOf's answer as Go gives it -/
def LineR (B : Nat) : Except Nat Lx.Ln → Ending → World → Prop
  | .ok x, e, w' => ∃ v, e = .returned (.tuple #[.agg #[.int .i64 x.mark, .int .i64 x.indent, v, .string (str x.text)], .int .i64 0]) ∧ OwnW w' B v x.words
  | .error n, e, _ => e = .returned (.tuple #[.agg #[.int .i64 0, .int .i64 0, .slice none 0 0, .string ⟨#[]⟩], .int .i64 n])

theorem setCell_other (w : World) (p : Addr) (u : Value) (k : Nat) (h : k ≠ p.block) : (w.setCell p u).heap[k]? = w.heap[k]? := by
  unfold World.setCell
  simp only
  rw [Array.getElem?_modify, if_neg (fun e => h e.symm)]
theorem row_setCell {w : World} {B e z n : Nat} {v : Value} {xs : List Value} (h : w.ownsRow B e z v n xs) (p : Addr) (u : Value) (hp : v.ownBlock ≠ some p.block) : (w.setCell p u).ownsRow B e z v n xs := by
  obtain ⟨h1, h2⟩ := h
  refine ⟨h1, ?_⟩
  rcases h2 with h2 | ⟨g, cap, cur, hv, hB, hh, hr⟩
  · exact .inl h2
  · refine .inr ⟨g, cap, cur, hv, hB, ?_, hr⟩
    rw [setCell_other _ _ _ _ (fun e => hp (by rw [hv, ← e]; rfl))]; exact hh
theorem own_slice {w : World} {B e z n : Nat} {v : Value} {xs : List Value} (h : w.ownsRow B e z v n xs) : ∃ a cap, v = .slice a n cap := by
  rcases h.2 with ⟨rfl, rfl⟩ | ⟨g, cap, cur, rfl, _⟩
  · exact ⟨none, 0, rfl⟩
  · exact ⟨_, cap, rfl⟩
theorem row_base {w : World} {B B' e z n : Nat} {v : Value} {xs : List Value} (h : w.ownsRow B e z v n xs) (hB : B' ≤ B) : w.ownsRow B' e z v n xs := by
  obtain ⟨h1, h2⟩ := h
  refine ⟨h1, ?_⟩
  rcases h2 with h2 | ⟨g, cap, cur, hv, hB2, hr⟩
  · exact .inl h2
  · exact .inr ⟨g, cap, cur, hv, by omega, hr⟩

set_option maxHeartbeats 2000000 in
theorem lineOf_any (s : ByteArray) (w : World) (hs : s.size ≤ 50000) (hE : Env w) :
    Calls Tryz.prog 21 #[.string s] w fun e w' => LineR w.heap.size (Lx.lineOf s.data.toList) e w' ∧ Below w.heap.size w w' := by
  have cM := Lib.hid (fun w => mark_any s w (by omega))
  unfold Lx.lineOf
  generalize Lx.markOf s.data.toList = M at *
  by_cases hM : M = 0
  · subst hM
    rw [if_pos rfl]
    have cW := words_any s (w.alloc (.cells #[.int .i64 0, .int .i64 0, .slice none 0 0, .string ⟨#[]⟩] 30)) hs (hE.below (bnew w _))
    have cI := Lib.hid (fun w => indent_any s w (by omega))
    clear hE
    cases hw : Lx.words s.data.toList with
    | error n =>
      rw [hw] at cW
      have hn := Lx.words_err _ _ hw
      have bn : ((n : Int) != 0) = true := bne_iff_ne.2 (by omega)
      have CW := Lib.hid cW
      clear cW hw
      go_enter Tryz.func21, Tryz.ntmps21
      go_wp2_with (first
        | (go_at_call 42; refine (cM.out _).mono ?_; rintro e w' ⟨rfl, rfl⟩)
        | (go_at_call 43; refine CW.out.mono ?_; rintro e w1 ⟨hr, hb1⟩; obtain rfl := hr; have hk2 := blk_kept hb1 (Below.refl _ _); have f0 := frozen_blk hk2 0; have f1 := frozen_blk hk2 1; have f2 := frozen_blk hk2 2; have f3 := frozen_blk hk2 3; have c0 := cell_blk hk2 0 (.int .i64 0) rfl; have c1 := cell_blk hk2 1 (.int .i64 0) rfl; have c2 := cell_blk hk2 2 (.slice none 0 0) rfl; have c3 := cell_blk hk2 3 (.string ⟨#[]⟩) rfl; clear hk2))
      refine bodyPost_ret (v := .tuple #[.agg #[.int .i64 0, .int .i64 0, .slice none 0 0, .string ⟨#[]⟩], .int .i64 n]) (by simp [results, go_sem, c0, c1, c2, c3]) rfl ?_
      exact ⟨rfl, ((((bthen (bnew w _) hb1).setCell (p := ⟨w.heap.size, 0, none⟩) (Nat.le_refl _) _).setCell (p := ⟨w.heap.size, 1, none⟩) (Nat.le_refl _) _).setCell (p := ⟨w.heap.size, 2, none⟩) (Nat.le_refl _) _).setCell (p := ⟨w.heap.size, 3, none⟩) (Nat.le_refl _) _⟩
    | ok ws =>
      rw [hw] at cW
      have CW := Lib.hid cW
      clear cW hw
      go_enter Tryz.func21, Tryz.ntmps21
      go_wp2_with (first
        | (go_at_call 42; refine (cM.out _).mono ?_; rintro e w' ⟨rfl, rfl⟩)
        | (go_at_call 43; refine CW.out.mono ?_; rintro e w1 ⟨⟨v, rfl, hown⟩, hb1⟩; obtain ⟨va, vc, rfl⟩ := own_slice hown; have hk2 := blk_kept hb1 (Below.refl _ _); have f0 := frozen_blk hk2 0; have f1 := frozen_blk hk2 1; have f2 := frozen_blk hk2 2; have f3 := frozen_blk hk2 3; have c0 := cell_blk hk2 0 (.int .i64 0) rfl; have c1 := cell_blk hk2 1 (.int .i64 0) rfl; have c2 := cell_blk hk2 2 (.slice none 0 0) rfl; have c3 := cell_blk hk2 3 (.string ⟨#[]⟩) rfl; clear hk2)
        | (go_at_call 18; refine (cI.out _).mono ?_; rintro e w' ⟨rfl, rfl⟩))
      refine bodyPost_ret (v := .tuple #[.agg #[.int .i64 0, .int .i64 (Lx.blanks s.data.toList : Nat), .slice va ws.length vc, .string ⟨#[]⟩], .int .i64 0]) (by simp [results, go_sem, c0, c1, c2, c3]) rfl ?_
      have hne : (Value.slice va ws.length vc).ownBlock ≠ some w.heap.size := fun e => by
        have := (World.ownsRow.lt hown _ e).1
        rw [World.size_alloc] at this; omega
      refine ⟨⟨_, rfl, ?_⟩, ((((bthen (bnew w _) hb1).setCell (p := ⟨w.heap.size, 0, none⟩) (Nat.le_refl _) _).setCell (p := ⟨w.heap.size, 1, none⟩) (Nat.le_refl _) _).setCell (p := ⟨w.heap.size, 2, none⟩) (Nat.le_refl _) _).setCell (p := ⟨w.heap.size, 3, none⟩) (Nat.le_refl _) _⟩
      exact row_setCell (row_setCell (row_setCell (row_setCell (row_base hown (by rw [World.size_alloc]; omega)) _ _ hne) _ _ hne) _ _ hne) _ _ hne
  · rw [if_neg hM]
    have bM : ((M : Int) != 0) = true := bne_iff_ne.2 (by omega)
    clear hE
    go_enter Tryz.func21, Tryz.ntmps21
    go_wp2_with (go_at_call 42; refine (cM.out _).mono ?_; rintro e w' ⟨rfl, rfl⟩)
    refine bodyPost_ret (v := .tuple #[.agg #[.int .i64 M, .int .i64 0, .slice none 0 0, .string ⟨#[]⟩], .int .i64 0]) (by simp [results, go_sem]) rfl ?_
    exact ⟨⟨_, rfl, World.ownsRow_nil _ _ _ _⟩, bnew w _⟩
end Go.Proofs.YtmhakkahclbbjaaGreatDoor
