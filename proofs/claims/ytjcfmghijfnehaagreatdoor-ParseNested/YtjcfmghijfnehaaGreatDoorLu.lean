/-
  What the laws' 'alive' asks: answers that the document fixes.
-/
import Derived.Test.YtjcfmghijfnehaaGreatDoorLt
namespace Go.Proofs.YtjcfmghijfnehaaGreatDoor
open Go.RowKit

theorem lineCells_at (ps : List (Lx.Ln × Value)) (j : Nat) (h : j < ps.length) : (lineCells ps)[j * 4]? = some (.int .i64 (ps[j]).1.mark) ∧ (lineCells ps)[j * 4 + 1]? = some (.int .i64 (ps[j]).1.indent) ∧ (lineCells ps)[j * 4 + 2]? = some (ps[j]).2 ∧ (lineCells ps)[j * 4 + 3]? = some (.string (str (ps[j]).1.text)) := by
  induction ps generalizing j with
  | nil => simp at h
  | cons x t ih =>
    have e : lineCells (x :: t) = [.int .i64 x.1.mark, .int .i64 x.1.indent, x.2, .string (str x.1.text)] ++ lineCells t := rfl
    cases j with
    | zero => rw [e]; simp
    | succ j =>
      have := ih j (by simp only [List.length_cons] at h; omega)
      rw [e]
      rw [List.getElem?_append_right (by simp; omega), List.getElem?_append_right (by simp; omega), List.getElem?_append_right (by simp; omega), List.getElem?_append_right (by simp; omega)]
      simp only [List.length_cons, List.length_nil]
      rw [show (j + 1) * 4 - (0 + 1 + 1 + 1 + 1) = j * 4 by omega, show (j + 1) * 4 + 1 - (0 + 1 + 1 + 1 + 1) = j * 4 + 1 by omega, show (j + 1) * 4 + 2 - (0 + 1 + 1 + 1 + 1) = j * 4 + 2 by omega, show (j + 1) * 4 + 3 - (0 + 1 + 1 + 1 + 1) = j * 4 + 3 by omega]
      exact this
/-- the cells of lines -/
theorem OwnL.cells {w : World} {B : Nat} {v : Value} {ls : List Lx.Ln} (h : OwnL w B v ls) (hn : 0 < ls.length) : ∃ g c, v = .slice (some ⟨g, 0, none⟩) ls.length c ∧ ls.length ≤ c ∧ g < w.heap.size ∧ ∀ (j : Nat) (hj : j < ls.length), w.cell? ⟨g, j * 4, none⟩ = some (.int .i64 (ls[j]).mark) ∧ w.cell? ⟨g, j * 4 + 1, none⟩ = some (.int .i64 (ls[j]).indent) ∧ (∃ a c, w.cell? ⟨g, j * 4 + 2, none⟩ = some (.slice a (ls[j]).words.length c) ∧ OwnW w B (.slice a (ls[j]).words.length c) (ls[j]).words) ∧ w.cell? ⟨g, j * 4 + 3, none⟩ = some (.string (str (ls[j]).text)) := by
  obtain ⟨ps, h1, h2, h3⟩ := h
  subst h1
  rw [List.length_map] at hn h2
  have h2' := h2
  rcases h2.2 with ⟨e, h0⟩ | ⟨g, cap, cur, e, hB, hh, hnc, hr⟩
  · omega
  · subst e
    refine ⟨g, cap, by rw [List.length_map], by rw [List.length_map]; exact hnc, (Array.getElem?_eq_some_iff.1 hh).1, fun j hj => ?_⟩
    rw [List.length_map] at hj
    have hc := World.ownsRow.cells h2' (g := g) rfl
    have hadd : ∀ k, (⟨g, 0, none⟩ : Addr).add k = ⟨g, k, none⟩ := fun k => by unfold Addr.add; split <;> simp_all
    obtain ⟨e0, e1, e2, e3⟩ := lineCells_at ps j hj
    have a0 := hc _ _ e0
    have a1 := hc _ _ e1
    have a2 := hc _ _ e2
    have a3 := hc _ _ e3
    rw [hadd] at a0 a1 a2 a3
    rw [List.getElem_map]
    have hw := h3 ps[j] (List.getElem_mem hj)
    obtain ⟨a, c, hv⟩ := own_slice hw
    refine ⟨a0, a1, ⟨a, c, by rw [← hv]; exact a2, by rw [← hv]; exact hw⟩, a3⟩

def alA : List UInt8 := [97, 58, 32, 124, 10, 32, 32, 98, 10, 10, 32, 32, 32, 99, 10, 45, 45, 45, 10]
def alB : List UInt8 := [97, 58, 32, 124, 10, 32, 32, 32, 98, 10, 32, 32, 99, 10]
theorem al1 : Lx.read alA = .ok [⟨0, 0, [⟨0, [97], 0⟩, ⟨11, [], 1⟩, ⟨13, [], 3⟩], [98, 10, 10, 32, 99, 10]⟩, ⟨1, 0, [], []⟩] := by kernel_rfl
theorem al2 : Lx.read alB = .error 9 := by kernel_rfl

/-- what is read of the first text -/
def AliveA (e : Ending) (w' : World) : Prop := ∃ g c a k, e = .returned (.tuple #[.slice (some ⟨g, 0, none⟩) 2 c, .int .i64 0]) ∧ 2 ≤ c ∧ g < w'.heap.size ∧ w'.cell? ⟨g, 2, none⟩ = some (.slice a 3 k) ∧ w'.cell? ⟨g, 3, none⟩ = some (.string ⟨#[98, 10, 10, 32, 99, 10]⟩) ∧ w'.cell? ⟨g, 4, none⟩ = some (.int .i64 1)
theorem readA (w : World) (hE : Env w) : Calls Tryz.prog 26 #[.string ⟨#[97, 58, 32, 124, 10, 32, 32, 98, 10, 10, 32, 32, 32, 99, 10, 45, 45, 45, 10]⟩] w fun e w' => AliveA e w' ∧ Below w.heap.size w w' := by
  have c1 := readLoop (str alA) w (by decide) hE
  have e1 : (str alA).data.toList = alA := rfl
  rw [e1, al1] at c1
  refine c1.mono ?_
  rintro e w1 ⟨⟨v, rfl, hv⟩, hb1⟩
  refine ⟨?_, hb1⟩
  obtain ⟨g, c, rfl, hc, hg, hcl⟩ := hv.cells (by decide)
  obtain ⟨_, _, ⟨a0, k0, d2, _⟩, d3⟩ := hcl 0 (by decide)
  obtain ⟨d4, _⟩ := hcl 1 (by decide)
  exact ⟨g, c, a0, k0, rfl, hc, hg, d2, d3, d4⟩
theorem readB (w : World) (hE : Env w) : Calls Tryz.prog 26 #[.string ⟨#[97, 58, 32, 124, 10, 32, 32, 32, 98, 10, 32, 32, 99, 10]⟩] w fun e w' => e = .returned (.tuple #[.slice none 0 0, .int .i64 9]) ∧ Below w.heap.size w w' := by
  have c1 := readLoop (str alB) w (by decide) hE
  have e1 : (str alB).data.toList = alB := rfl
  rw [e1, al2] at c1
  exact c1

end Go.Proofs.YtjcfmghijfnehaaGreatDoor
