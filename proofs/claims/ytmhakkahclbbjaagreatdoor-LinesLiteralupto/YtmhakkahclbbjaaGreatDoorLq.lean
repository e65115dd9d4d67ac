/-
  Walks of lines: hasBar, saysSomething.
-/
import Derived.Test.YtmhakkahclbbjaaGreatDoorLp
namespace Go.Proofs.YtmhakkahclbbjaaGreatDoor
open Go.RowKit

theorem wordCells_at (ws : List Lx.Wd) (j : Nat) (h : j < ws.length) : (wordCells ws)[j * 3]? = some (.int .i64 (ws[j]).kind) ∧ (wordCells ws)[j * 3 + 1]? = some (.string (str (ws[j]).text)) ∧ (wordCells ws)[j * 3 + 2]? = some (.int .i64 (ws[j]).at_) := by
  induction ws generalizing j with
  | nil => simp at h
  | cons x t ih =>
    have e : wordCells (x :: t) = [.int .i64 x.kind, .string (str x.text), .int .i64 x.at_] ++ wordCells t := rfl
    cases j with
    | zero => rw [e]; simp
    | succ j =>
      have := ih j (by simp only [List.length_cons] at h; omega)
      rw [e]
      rw [List.getElem?_append_right (by simp; omega), List.getElem?_append_right (by simp; omega), List.getElem?_append_right (by simp; omega)]
      simp only [List.length_cons, List.length_nil]
      rw [show (j + 1) * 3 - (0 + 1 + 1 + 1) = j * 3 by omega, show (j + 1) * 3 + 1 - (0 + 1 + 1 + 1) = j * 3 + 1 by omega, show (j + 1) * 3 + 2 - (0 + 1 + 1 + 1) = j * 3 + 2 by omega]
      exact this
/-- the cells of words -/
theorem OwnW.cells {w : World} {B : Nat} {a : Option Addr} {n c : Nat} {ws : List Lx.Wd} (h : OwnW w B (.slice a n c) ws) (hn : 0 < ws.length) : n = ws.length ∧ n ≤ c ∧ ∃ g, a = some ⟨g, 0, none⟩ ∧ g < w.heap.size ∧ ∀ (j : Nat) (hj : j < ws.length), w.cell? ⟨g, j * 3, none⟩ = some (.int .i64 (ws[j]).kind) ∧ w.cell? ⟨g, j * 3 + 1, none⟩ = some (.string (str (ws[j]).text)) ∧ w.cell? ⟨g, j * 3 + 2, none⟩ = some (.int .i64 (ws[j]).at_) := by
  have h' := h
  rcases h.2 with ⟨e, h0⟩ | ⟨g, cap, cur, e, hB, hh, hnc, hr⟩
  · omega
  · cases e
    refine ⟨rfl, hnc, g, rfl, (Array.getElem?_eq_some_iff.1 hh).1, fun j hj => ?_⟩
    have hc := World.ownsRow.cells h' (g := g) rfl
    have hadd : ∀ k, (⟨g, 0, none⟩ : Addr).add k = ⟨g, k, none⟩ := fun k => by unfold Addr.add; split <;> simp_all
    obtain ⟨h1, h2, h3⟩ := wordCells_at ws j hj
    have a1 := hc _ _ h1
    have a2 := hc _ _ h2
    have a3 := hc _ _ h3
    rw [hadd] at a1 a2 a3
    exact ⟨a1, a2, a3⟩

theorem own_len {w : World} {B e z n : Nat} {v : Value} {xs : List Value} (h : w.ownsRow B e z v n xs) : n ≤ 9223372036854775807 := by
  rcases h.2 with ⟨_, h0⟩ | ⟨g, cap, cur, _, _, _, hnc, hm, _⟩
  · omega
  · unfold maxLen at hm; omega

set_option maxHeartbeats 1000000 in
theorem hasBar_any (m i : Nat) (v : Value) (t : ByteArray) (ws : List Lx.Wd) (B : Nat) (w : World) (hown : OwnW w B v ws) :
    Calls Tryz.prog 22 #[.agg #[.int .i64 m, .int .i64 i, v, .string t]] w fun e w' => e = .returned (.bool (Lx.lastBar ws)) ∧ Below w.heap.size w w' := by
  have hn := own_len hown
  obtain ⟨va, vc, rfl⟩ := own_slice hown
  by_cases h0 : ws.length = 0
  · have hw : ws = [] := List.eq_nil_of_length_eq_zero h0
    subst hw
    go_enter Tryz.func22, Tryz.ntmps22
    go_wp2
    go_ret
    exact ⟨rfl, bnew w _⟩
  · obtain ⟨_, hnc, g, rfl, hg, hc⟩ := hown.cells (by omega)
    obtain ⟨k, hk⟩ : ∃ k, ws.length = k + 1 := ⟨ws.length - 1, by omega⟩
    have c0 := (hc k (by omega)).1
    have hl : Lx.lastBar ws = decide ((ws[k]'(by omega)).kind = 13) := by
      unfold Lx.lastBar
      rw [List.getLast?_eq_getElem?, show ws.length - 1 = k by omega, List.getElem?_eq_getElem (by omega)]
    rw [hl]
    have hki : (((ws[k]'(by omega)).kind : Int) == 13) = decide ((ws[k]'(by omega)).kind = 13) := by rw [Bool.eq_iff_iff]; simp; omega
    generalize (ws[k]'(by omega)).kind = K at *
    rw [hk] at hnc ⊢
    rw [← hki]
    have c0' : ∀ o, (w.alloc o).cell? ⟨g, k * 3, none⟩ = some (.int .i64 K) := fun o => by rw [← c0]; exact (bnew w o).cell (p := ⟨g, k * 3, none⟩) hg
    clear hc hown hl hki c0
    have e1 : ((k + 1 : Nat) : Int) - 1 = (k : Int) := by omega
    go_enter Tryz.func22, Tryz.ntmps22
    go_wp2
    go_ret
    exact ⟨rfl, bnew w _⟩

set_option maxHeartbeats 1000000 in
theorem says_any (m i : Nat) (v : Value) (t : ByteArray) (ws : List Lx.Wd) (B : Nat) (w : World) (hown : OwnW w B v ws) :
    Calls Tryz.prog 25 #[.agg #[.int .i64 m, .int .i64 i, v, .string t]] w fun e w' => e = .returned (.bool (decide (m ≠ 0) || !ws.isEmpty)) ∧ Below w.heap.size w w' := by
  have hn := own_len hown
  obtain ⟨va, vc, rfl⟩ := own_slice hown
  have he : ws.isEmpty = decide (ws.length = 0) := by cases ws <;> simp
  rw [he]
  clear he hown
  generalize ws.length = n at *
  by_cases hm : m = 0
  · subst hm
    go_enter Tryz.func25, Tryz.ntmps25
    go_wp2
    go_ret
    exact ⟨ret_bool (by rw [Bool.eq_iff_iff]; simp; omega), bnew w _⟩
  · have bm : ((m : Int) != 0) = true := bne_iff_ne.2 (by omega)
    go_enter Tryz.func25, Tryz.ntmps25
    go_wp2
    go_ret
    exact ⟨ret_bool (by simp [hm]), bnew w _⟩
end Go.Proofs.YtmhakkahclbbjaaGreatDoor
