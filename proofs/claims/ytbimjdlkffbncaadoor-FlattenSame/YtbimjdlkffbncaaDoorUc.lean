/-
  Walks of event: openedBy (what group an event opens), and what closes it.
-/
import Derived.Test.YtbimjdlkffbncaaDoorUb
import Derived.Maps.AppendAt
import Derived.BigQuiet
import Derived.Laws.EntriesVeiled
import Derived.Deep.QuietTactic
namespace Go.Proofs.YtbimjdlkffbncaaDoor
open Go.Proofs.YtbimjdlkffbncaaDoor.Ev
namespace Evn
open Go.RowKit

set_option maxHeartbeats 2000000 in
theorem opened_none (k : Int) (w : World) (h : Ev.opens k = false) :
    Calls Tryd.prog 93 #[.int .i64 k] w fun e w' => e = .returned (.pointer none) ∧ Below w.heap.size w w' := by
  have b0 : (k == 0) = false := beq_eq_false_iff_ne.2 (by intro e; subst e; cases h)
  have b2 : (k == 2) = false := beq_eq_false_iff_ne.2 (by intro e; subst e; cases h)
  have b4 : (k == 4) = false := beq_eq_false_iff_ne.2 (by intro e; subst e; cases h)
  clear h
  go_enter Tryd.func93, Tryd.ntmps93
  go_wp2
  go_ret
  refine ⟨rfl, ?_⟩
  exact bthen (bnew w _) (bnew _ _)

/-- what tells whether an event closes a group -/
def closer (k : Int) (b : Nat) : Value :=
  if k = 0 then .func (.func 113) #[] #[.pointer (some ⟨b + 1, 0, none⟩)]
  else if k = 2 then .func (.func 114) #[] #[]
  else .func (.func 115) #[] #[.pointer (some ⟨b + 1, 0, none⟩)]

theorem frozen_cells {w : World} {b i : Nat} {c : Array Value} {t : TypeId} (h : w.heap[b]? = some (.cells c t (0, 0))) : w.frozen? ⟨b, i, none⟩ = false := frozen_blk h i

theorem two_blk (w : World) (o p : Obj) : ((w.alloc o).alloc p).heap[w.heap.size]? = some o := by
  show ((w.heap.push o).push p)[w.heap.size]? = _
  rw [Array.getElem?_push, if_neg (by simp), Array.getElem?_push, if_pos rfl]
theorem two_blk' (w : World) (o p : Obj) : ((w.alloc o).alloc p).heap[w.heap.size + 1]? = some p := by
  show ((w.heap.push o).push p)[w.heap.size + 1]? = _
  rw [Array.getElem?_push, if_pos (by simp)]
theorem two_set (w : World) (c d : Array Value) (t u : TypeId) (i : Nat) (v : Value) : ((w.alloc (.cells c t)).alloc (.cells d u)).setCell ⟨w.heap.size, i, none⟩ v = (w.alloc (.cells (c.setIfInBounds i v) t)).alloc (.cells d u) := by
  unfold World.setCell World.alloc
  simp only
  congr 1
  apply Array.ext_getElem?
  intro j
  rw [Array.getElem?_modify]
  simp only [Array.getElem?_push, Array.size_push]
  split <;> split <;> (try split) <;> (try split) <;> simp_all <;> omega

set_option maxHeartbeats 2000000 in
theorem opened_some (k : Int) (w : World) (h : k = 0 ∨ k = 2 ∨ k = 4) :
    Calls Tryd.prog 93 #[.int .i64 k] w fun e w' => e = .returned (.pointer (some ⟨w.heap.size, 0, none⟩)) ∧ w' = (w.alloc (.cells #[.int .i64 0, closer k w.heap.size] 112)).alloc (.cells #[.pointer (some ⟨w.heap.size, 0, none⟩)] 113) := by
  have hB := two_blk w (.cells #[.int .i64 0, Value.nilFunc] 112) (.cells #[.pointer (some ⟨w.heap.size, 0, none⟩)] 113)
  have hc := cell_blk hB 1 _ rfl
  have hf := frozen_blk hB 1
  clear hB
  rcases h with rfl | rfl | rfl
  all_goals go_enter Tryd.func93, Tryd.ntmps93
  all_goals go_wp2
  all_goals go_ret
  all_goals refine ⟨rfl, ?_⟩
  all_goals rfl

set_option maxHeartbeats 1000000 in
theorem closes_doc (k : Int) (n b : Nat) (f : Value) (w : World) (h1 : w.heap[b]? = some (.cells #[.int .i64 n, f] 112)) (h2 : w.heap[b + 1]? = some (.cells #[.pointer (some ⟨b, 0, none⟩)] 113)) :
    Calls Tryd.prog 113 #[.int .i64 k, .pointer (some ⟨b + 1, 0, none⟩)] w fun e w' => e = .returned (.bool (decide (k = 1) && decide (n = 1))) ∧ w = w' := by
  have c1 := cell_blk h1 0 _ rfl
  have c2 := cell_blk h2 0 _ rfl
  simp only [List.getElem_toArray, List.getElem_cons_zero] at c1 c2
  go_enter Tryd.func113, Tryd.ntmps113
  go_wp2
  all_goals go_ret
  all_goals exact ⟨ret_bool (by rw [Bool.eq_iff_iff]; first | (simp at *; omega) | simp_all), rfl⟩
set_option maxHeartbeats 1000000 in
theorem closes_seq (k : Int) (w : World) :
    Calls Tryd.prog 114 #[.int .i64 k] w fun e w' => e = .returned (.bool (decide (k = 3))) ∧ w = w' := by
  go_enter Tryd.func114, Tryd.ntmps114
  go_wp2
  all_goals go_ret
  all_goals exact ⟨ret_bool (by rw [Bool.eq_iff_iff]; first | (simp at *; omega) | simp_all), rfl⟩
set_option maxHeartbeats 1000000 in
theorem closes_map (k : Int) (n b : Nat) (f : Value) (w : World) (h1 : w.heap[b]? = some (.cells #[.int .i64 n, f] 112)) (h2 : w.heap[b + 1]? = some (.cells #[.pointer (some ⟨b, 0, none⟩)] 113)) :
    Calls Tryd.prog 115 #[.int .i64 k, .pointer (some ⟨b + 1, 0, none⟩)] w fun e w' => e = .returned (.bool (decide (k = 5) && decide (n % 2 = 0))) ∧ w = w' := by
  have c1 := cell_blk h1 0 _ rfl
  have c2 := cell_blk h2 0 _ rfl
  simp only [List.getElem_toArray, List.getElem_cons_zero] at c1 c2
  have hm : (n : Int).tmod 2 = ((n % 2 : Nat) : Int) := (Int.ofNat_tmod n 2).symm
  by_cases hp : n % 2 = 0
  · rw [hp] at hm
    go_enter Tryd.func115, Tryd.ntmps115
    go_wp2
    all_goals go_ret
    all_goals exact ⟨ret_bool (by rw [Bool.eq_iff_iff]; first | (simp at *; omega) | simp_all), rfl⟩
  · have hq : n % 2 = 1 := by omega
    rw [hq] at hm
    go_enter Tryd.func115, Tryd.ntmps115
    go_wp2
    all_goals go_ret
    all_goals exact ⟨ret_bool (by rw [Bool.eq_iff_iff]; first | (simp at *; omega) | simp_all), rfl⟩
theorem opened_new (k : Int) (w : World) (h : k = 0 ∨ k = 2 ∨ k = 4) :
    Calls Tryd.prog 93 #[.int .i64 k] w fun e w' => e = .returned (.pointer (some ⟨w.heap.size, 0, none⟩)) ∧ Below w.heap.size w w' ∧ w.heap.size + 2 = w'.heap.size ∧ w'.heap[w.heap.size]? = some (.cells #[.int .i64 0, closer k w.heap.size] 112) ∧ w'.heap[w.heap.size + 1]? = some (.cells #[.pointer (some ⟨w.heap.size, 0, none⟩)] 113) := by
  refine (opened_some k w h).mono ?_
  rintro e w' ⟨rfl, rfl⟩
  exact ⟨rfl, bthen (bnew w _) (bnew _ _), by rw [World.size_alloc, World.size_alloc], two_blk _ _ _, two_blk' _ _ _⟩
theorem opened_grp (k : Int) (w : World) (h : k = 0 ∨ k = 2 ∨ k = 4) :
    Calls Tryd.prog 93 #[.int .i64 k] w fun e w' => ∃ b, e = .returned (.pointer (some ⟨b, 0, none⟩)) ∧ w.heap.size = b ∧ Below w.heap.size w w' ∧ b + 2 = w'.heap.size ∧ w'.heap[b]? = some (.cells #[.int .i64 0, closer k b] 112) ∧ w'.heap[b + 1]? = some (.cells #[.pointer (some ⟨b, 0, none⟩)] 113) :=
  (opened_new k w h).mono fun _ _ ⟨h1, h2, h3, h4, h5⟩ => ⟨_, h1, rfl, h2, h3, h4, h5⟩
end Evn
end Go.Proofs.YtbimjdlkffbncaaDoor
