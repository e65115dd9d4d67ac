/-
  Walks of the document's table and letter.
-/
import Derived.Test.YtlfmaeodkghbbaaDoorRf
namespace Go.Proofs.YtlfmaeodkghbbaaDoor
open Go.RowKit

/-- the document's table -/
def refTab : List (Nat × Nat) := [(0, 48), (7, 97), (8, 98), (9, 116), (10, 110), (11, 118), (12, 102), (13, 114), (27, 101), (34, 34), (92, 92), (133, 78), (160, 95), (8232, 76), (8233, 80)]
def rch (k : Nat) : Nat := (refTab.getD k (0, 0)).1
def rlt (k : Nat) : Nat := (refTab.getD k (0, 0)).2
theorem rch_lt : ∀ k : Fin 15, rch k.val < 10000 := by decide
theorem rlt_lt : ∀ k : Fin 15, rlt k.val < 256 := by decide
def refCells : List Value := refTab.flatMap fun p => [.int .i64 (p.1 : Nat), .int .i64 (p.2 : Nat)]
theorem refCells_at (k : Nat) (h : k < 15) : refCells[k * 2]? = some (.int .i64 (rch k : Nat)) ∧ refCells[k * 2 + 1]? = some (.int .i64 (rlt k : Nat)) :=
  match k, h with
  | 0, _ => ⟨rfl, rfl⟩
  | 1, _ => ⟨rfl, rfl⟩
  | 2, _ => ⟨rfl, rfl⟩
  | 3, _ => ⟨rfl, rfl⟩
  | 4, _ => ⟨rfl, rfl⟩
  | 5, _ => ⟨rfl, rfl⟩
  | 6, _ => ⟨rfl, rfl⟩
  | 7, _ => ⟨rfl, rfl⟩
  | 8, _ => ⟨rfl, rfl⟩
  | 9, _ => ⟨rfl, rfl⟩
  | 10, _ => ⟨rfl, rfl⟩
  | 11, _ => ⟨rfl, rfl⟩
  | 12, _ => ⟨rfl, rfl⟩
  | 13, _ => ⟨rfl, rfl⟩
  | 14, _ => ⟨rfl, rfl⟩
  | _ + 15, h => absurd h (by omega)
/-- the table lies in a block -/
def TabAt (w : World) (g : Nat) : Prop := ∀ k, k < 15 → w.cell? ⟨g, k * 2, none⟩ = some (.int .i64 (rch k : Nat)) ∧ w.cell? ⟨g, k * 2 + 1, none⟩ = some (.int .i64 (rlt k : Nat))
theorem tab_new (w : World) : TabAt (w.alloc (.cells refCells.toArray 72)) w.heap.size := by
  intro k hk
  have h := refCells_at k hk
  have h1 := cells_of_new w 72 refCells (k * 2) _ h.1
  have h2 := cells_of_new w 72 refCells (k * 2 + 1) _ h.2
  have e : ∀ j : Nat, (⟨w.heap.size, 0, none⟩ : Addr).add j = ⟨w.heap.size, j, none⟩ := by intro j; unfold Addr.add; split <;> simp_all
  rw [e] at h1 h2
  exact ⟨h1, h2⟩

set_option maxHeartbeats 1000000 in
set_option maxRecDepth 100000 in
theorem table_any (w : World) :
    Calls Tryd.prog 59 #[] w fun e w' => e = .returned (.slice (some ⟨w.heap.size, 0, none⟩) 15 15) ∧ TabAt w' w.heap.size ∧ Below w.heap.size w w' := by
  go_enter Tryd.func59, Tryd.ntmps59
  go_wp2
  go_ret
  exact ⟨rfl, tab_new w, (Below.refl _ w).alloc (Nat.le_refl _) _⟩

theorem find_same (A B : List (Nat × Nat)) (f : Nat × Nat → Nat) (hAB : ∀ p ∈ A, p ∈ B) (hBA : ∀ p ∈ B, p ∈ A) (hf : ∀ p ∈ A, ∀ q ∈ A, f p = f q → p = q) (r : Nat) :
    A.find? (fun p => f p == r) = B.find? (fun p => f p == r) := by
  cases ha : A.find? (fun p => f p == r) with
  | none =>
    symm
    rw [List.find?_eq_none] at ha ⊢
    exact fun p hp => ha p (hBA p hp)
  | some p =>
    have hp := List.mem_of_find?_eq_some ha
    have hpr := List.find?_some ha
    cases hb : B.find? (fun p => f p == r) with
    | none =>
      rw [List.find?_eq_none] at hb
      exact absurd hpr (hb p (hAB p hp))
    | some q =>
      have hq := List.mem_of_find?_eq_some hb
      have hqr := List.find?_some hb
      have := hf p hp q (hBA q hq) (by rw [beq_iff_eq] at hpr hqr; omega)
      rw [this]

def rnameFrom (k r : Nat) : Option Nat := ((refTab.drop k).find? fun p => p.1 == r).map (·.2)
theorem rname_eq (r : Nat) : rnameFrom 0 r = nameOf r := by
  unfold rnameFrom nameOf nameFrom
  congr 1
  exact find_same refTab namedTab (·.1) (by decide) (by decide) (by decide) r
theorem rnameFrom_step (k r : Nat) (h : k < 15) : rnameFrom k r = if rch k = r then some (rlt k) else rnameFrom (k + 1) r := by
  unfold rnameFrom rch rlt
  have : refTab.drop k = refTab.getD k (0, 0) :: refTab.drop (k + 1) := by
    have hl : k < refTab.length := h
    rw [List.drop_eq_getElem_cons hl]; simp [List.getD, hl]
  rw [this, List.find?_cons]
  generalize refTab.getD k (0, 0) = x
  by_cases e : x.1 = r
  · have : (x.1 == r) = true := beq_iff_eq.2 e
    rw [this, if_pos e]; rfl
  · have : (x.1 == r) = false := beq_eq_false_iff_ne.2 e
    rw [this, if_neg e]

set_option maxHeartbeats 1000000 in
set_option maxRecDepth 100000 in
theorem letter_any (r : Nat) (w : World) :
    Calls Tryd.prog 53 #[.int .i64 r] w fun e w' => e = .returned (.int .i64 ((nameOf r).getD 0 : Nat)) ∧ Below w.heap.size w w' := by
  obtain ⟨ANS, hANS⟩ : ∃ ANS, nameOf r = ANS := ⟨_, rfl⟩
  rw [hANS]
  have HA : Hid (rnameFrom 0 r = ANS) := (rname_eq r).trans hANS
  clear hANS
  have cT := table_any w
  go_enter Tryd.func53, Tryd.ntmps53
  go_wp2_with (go_at_call 59; refine cT.mono ?_; rintro e w1 ⟨rfl, hT, hb⟩)
  have HT := Lib.hid hT
  clear hT cT
  go_loop [4] (fun i => ∃ k : Nat, k ≤ 15 ∧ i = .int .i64 k ∧ Hid (rnameFrom k r = ANS)) (fun i => 15 - (intOf i).toNat)
  case atStart => exact ⟨0, by omega, rfl, HA⟩
  case round =>
    obtain ⟨k, hk, rfl, HK⟩ := hrel
    clear HA
    by_cases hlt : k < 15
    · obtain ⟨c1, c2⟩ := HT.out k hlt
      have HS := Lib.hid (rnameFrom_step k r hlt)
      generalize rch k = c at *
      generalize rlt k = b at *
      by_cases hcr : c = r
      · have hA : ANS = some b := by
          have h1 := HS.out; rw [if_pos hcr] at h1
          exact HK.out.symm.trans h1
        subst hA
        have hb' : ((c : Int) == (r : Int)) = true := beq_iff_eq.2 (by omega)
        clear HS HK hcr
        go_wp2
        go_ret
        exact ⟨rfl, hb⟩
      · have hb' : ((c : Int) == (r : Int)) = false := beq_eq_false_iff_ne.2 (by omega)
        have HN : Hid (rnameFrom (k + 1) r = ANS) := by
          have := HS.out; rw [if_neg hcr] at this; exact this.symm.trans HK.out
        clear HS HK hcr
        go_wp2
        go_round
        case rel => exact ⟨k + 1, by omega, by go_num, HN⟩
        case measure => simp [intOf]; omega
    · obtain rfl : k = 15 := by omega
      have hA : ANS = none := by rw [← HK.out]; rfl
      subst hA
      go_wp2
      go_ret
      exact ⟨rfl, hb⟩
end Go.Proofs.YtlfmaeodkghbbaaDoor
