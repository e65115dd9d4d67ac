/-
  The walk of EventWraps.
-/
import Derived.Test.YthkedlcmpibkjaaDoorEt
import Derived.Laws.EntriesVeiled
namespace Go.Proofs.YthkedlcmpibkjaaDoor
namespace Ev
/-- an event of a kind alone -/
def ev (k : Int) : E := ⟨k, [], [], [], false⟩
def repsE (n : Nat) (nd : List E) : List E := (List.replicate n nd).flatten
theorem repsE_succ (n : Nat) (nd : List E) : repsE (n + 1) nd = repsE n nd ++ nd := by
  unfold repsE
  rw [List.replicate_succ', List.flatten_append]; simp
theorem repsE_len (n : Nat) (nd : List E) : (repsE n nd).length = n * nd.length := by simp [repsE]
/-- a node so often in a list, or a map, in a document -/
def wrapE (k : Int) (n : Nat) (nd : List E) : List E := ([ev 0, ev k] ++ repsE n nd) ++ [ev (k + 1), ev 1]
theorem kinds_reps (n : Nat) (nd : List E) : kinds (repsE n nd) = reps n (kinds nd) := by
  unfold kinds repsE reps
  rw [List.map_flatten, List.map_replicate]
theorem kinds_wrap (k : Int) (n : Nat) (nd : List E) : kinds (wrapE k n nd) = [0, k] ++ reps n (kinds nd) ++ [k + 1, 1] := by
  unfold wrapE
  rw [kinds_app, kinds_app, kinds_reps]; rfl
theorem mem_reps (n : Nat) (nd : List E) (x : E) (h : x ∈ repsE n nd) : x ∈ nd := by
  unfold repsE at h
  rw [List.mem_flatten] at h
  obtain ⟨l, hl, hx⟩ := h
  rw [List.eq_of_mem_replicate hl] at hx
  exact hx
theorem mem_wrap (k : Int) (n : Nat) (nd : List E) (x : E) (h : x ∈ wrapE k n nd) : x = ev 0 ∨ x = ev k ∨ x ∈ nd ∨ x = ev (k + 1) ∨ x = ev 1 := by
  unfold wrapE at h
  simp only [List.mem_append, List.mem_cons, List.not_mem_nil, or_false] at h
  rcases h with ((h | h) | h) | h | h
  · exact .inl h
  · exact .inr (.inl h)
  · exact .inr (.inr (.inl (mem_reps n nd x h)))
  · exact .inr (.inr (.inr (.inl h)))
  · exact .inr (.inr (.inr (.inr h)))
/-- the node of a row -/
def nodeE (es : List E) : List E := (es.drop 1).take (es.length - 2)
theorem node_len (es : List E) : (nodeE es).length = es.length - 1 - 1 := by unfold nodeE; rw [List.length_take, List.length_drop]; omega
theorem node_kinds (es : List E) (nd : List Int) (h : kinds es = 0 :: nd ++ [1]) : kinds (nodeE es) = nd := by
  have hl : (kinds es).length = nd.length + 2 := by rw [h]; simp
  rw [kinds_len] at hl
  have : kinds (nodeE es) = ((kinds es).drop 1).take (es.length - 2) := by unfold nodeE kinds; rw [List.map_take, List.map_drop]
  rw [this, h, hl]; simp
theorem mem_node (es : List E) (x : E) (h : x ∈ nodeE es) : x ∈ es := List.mem_of_mem_drop (List.mem_of_mem_take h)
def docs (es : List E) : Nat := (kinds es).countP (fun k => decide (k = 0))
theorem right_wrap (es : List E) (h : right es = true) (h1 : docs es = 1) (k : Int) (hk : k = 2 ∨ k = 4) (n : Nat) (hn : 0 < n) :
    right (wrapE k n (nodeE es)) = (decide (dmax (kinds es) < 40) && (decide (k = 2) || decide (n % 2 = 0))) := by
  obtain ⟨_, hf, h3⟩ := right_parts es h
  obtain ⟨nd, he, _, hg⟩ := one_doc (kinds es) h3 h1
  have hnk := node_kinds es nd he
  have hds : dsum nd = 0 := dsum_doc nd (by rw [← he]; exact h3)
  have hall : (wrapE k n (nodeE es)).all filled = true := by
    rw [List.all_eq_true] at hf ⊢
    intro x hx
    rcases mem_wrap k n _ x hx with rfl | rfl | hx | rfl | rfl
    · rfl
    · rcases hk with rfl | rfl <;> rfl
    · exact hf x (mem_node es x hx)
    · rcases hk with rfl | rfl <;> rfl
    · rfl
  unfold right
  rw [kinds_wrap, hnk, hall, wrap_nested nd hg n k hk, dmax_wrap nd hds n hn k hk, Bool.true_and, he, dmax_doc nd hds]
  congr 1
  have : (1 + dmax nd ≤ 40) = (dmax nd < 40) := propext (by omega)
  simp only [this]
theorem small_wrap (es : List E) (h : ∀ x ∈ es, Small x) (k : Int) (n : Nat) : ∀ x ∈ wrapE k n (nodeE es), Small x := fun x hx => by
  rcases mem_wrap k n _ x hx with rfl | rfl | hx | rfl | rfl
  · exact ⟨by decide, by decide, by decide⟩
  · exact ⟨Nat.zero_le _, Nat.zero_le _, Nat.zero_le _⟩
  · exact h x (mem_node es x hx)
  · exact ⟨Nat.zero_le _, Nat.zero_le _, Nat.zero_le _⟩
  · exact ⟨by decide, by decide, by decide⟩
theorem wrap_len (k : Int) (n : Nat) (nd : List E) : (wrapE k n nd).length = 4 + n * nd.length := by
  unfold wrapE
  simp only [List.length_append, repsE_len, List.length_cons, List.length_nil]; omega
end Ev
open Go.RowKit
theorem news_blk {w : World} {b : Nat} {C : Array Value} {t : TypeId} {fr : Nat × Nat} {ys : List Ev.E} (h : w.heap[b]? = some (.cells C t fr)) (hc : C.toList = evsCells ys) : NewsE w ⟨b, 0, none⟩ ys := fun j u hu => by
  rw [Addr.add_lit, Nat.zero_add]
  refine cell_blk h j u ?_
  rw [← Array.getElem?_toList, hc]; exact hu
def twoC (a b : Int) : Array Value := #[.int .i64 a, .string ⟨#[]⟩, .string ⟨#[]⟩, .string ⟨#[]⟩, .bool false, .int .i64 b, .string ⟨#[]⟩, .string ⟨#[]⟩, .string ⟨#[]⟩, .bool false]
theorem two_own (w : World) (a b : Int) : OwnE (w.alloc (.cells (twoC a b) 39)) w.heap.size (.slice (some ⟨w.heap.size, 0, none⟩) 2 2) [Ev.ev a, Ev.ev b] :=
  ⟨rfl, .inr ⟨w.heap.size, 2, twoC a b, rfl, Nat.le_refl _, alloc_blk w _, Nat.le_refl _, by decide, rfl, rfl⟩⟩

set_option maxHeartbeats 4000000 in
set_option maxRecDepth 100000 in
theorem wrap_any (k : Int) (n p g o c : Nat) (nd : List Ev.E) (w : World) (hk : k = 2 ∨ k = 4) (hn : n ≤ 3) (hl : nd.length ≤ 1000) (hp : w.cell? ⟨p, 0, none⟩ = some (.slice (some ⟨g, o, none⟩) nd.length c)) (hpl : p < w.heap.size) (hg : g < w.heap.size) (hN : NewsE w ⟨g, o, none⟩ nd) :
    Calls Tryd.prog 22 #[.int .i64 k, .int .i64 n, .pointer (some ⟨p, 0, none⟩)] w fun e w' => (∃ u, e = .returned u ∧ OwnE w' w.heap.size u (Ev.wrapE k n nd)) ∧ Below w.heap.size w w' := by
  have HN := Lib.hid hN
  have HO := Lib.hid (two_own w 0 k)
  have HP := Lib.hid hp
  unfold twoC at HO
  clear hN hp
  go_enter Tryd.func22, Tryd.ntmps22
  go_wp2
  go_loopw [6, 12] (fun ov i wr => ∃ (j : Nat), j ≤ n ∧ i = .int .i64 j ∧ OwnE wr w.heap.size ov ([Ev.ev 0, Ev.ev k] ++ Ev.repsE j nd) ∧ Below w.heap.size w wr) (fun _ i _ => n - (intOf i).toNat)
  case atStart => exact ⟨0, by omega, rfl, by rw [show Ev.repsE 0 nd = [] from rfl, List.append_nil]; exact HO.out, bnew w _⟩
  case round =>
    obtain ⟨j, hj, rfl, hown, hbw⟩ := hrel
    have hBr := hbw.size
    obtain ⟨va, vc, rfl⟩ := own_slice hown
    have hj3 : j ≤ 3 := by omega
    have hlen : ([Ev.ev 0, Ev.ev k] ++ Ev.repsE j nd).length ≤ 3002 := by
      rw [List.length_append, Ev.repsE_len]
      have : j * nd.length ≤ 3 * 1000 := Nat.mul_le_mul hj3 hl
      simp only [List.length_cons, List.length_nil]; omega
    have HOW := Lib.hid hown
    clear hown HO
    by_cases hlt : j < n
    · have hpc := (hbw.cell (p := ⟨p, 0, none⟩) hpl).trans HP.out
      have HNw := Lib.hid (HN.out.below hbw hg)
      go_wp2_with (at_builtin; refine wpList_appR rfl (.tmp 14) (.tmp 15) rfl w.heap.size _ ([Ev.ev 0, Ev.ev k] ++ Ev.repsE j nd) nd _ _ _ rfl rfl ?o1 ?m1 ?n1 ?l1 ?b1 ?_; (case o1 => exact HOW.out); (case m1 => rfl); (case n1 => exact HNw.out); (case l1 => omega); (case b1 => exact hBr); intro v4 w4 ho4 hb4)
      go_roundw
      case rel => exact ⟨j + 1, by omega, by go_num, by rw [Ev.repsE_succ, ← List.append_assoc]; exact ho4, hbw.trans hb4⟩
      case measure => simp [intOf]; omega
    · obtain rfl : j = n := by omega
      have hw : IntKind.i64.wrap (k + 1) = k + 1 := IntWalk.i64_in _ (by omega)
      go_wp2_with (at_builtin; refine wpList_appR rfl (.tmp 18) (.tmp 23) rfl w.heap.size _ ([Ev.ev 0, Ev.ev k] ++ Ev.repsE j nd) [Ev.ev (k + 1), Ev.ev 1] _ _ _ rfl rfl ?o1 ?m1 ?n1 ?l1 ?b1 ?_; (case o1 => exact OwnE.below HOW.out (bnew _ _)); (case m1 => rfl); (case n1 => exact news_blk (alloc_blk wr _) rfl); (case l1 => simp only [List.length_cons, List.length_nil]; omega); (case b1 => rw [World.size_alloc]; omega); intro v4 w4 ho4 hb4)
      go_ret
      exact ⟨⟨_, rfl, ho4⟩, (hbw.alloc hBr _).trans hb4⟩
end Go.Proofs.YthkedlcmpibkjaaDoor
