/-
  The document's rows of events that a call owns; Ours, Same, append of one such row to another.
-/
import Derived.Test.YtjcfmghijfnehaaGreatDoorXf
import Derived.Laws.AppendOwnNone
import Derived.BigQuiet
namespace Go.Proofs.YtjcfmghijfnehaaGreatDoor
open Go.RowKit
/-- events of the document's kind that the call owns -/
def OwnR (w : World) (B : Nat) (v : Value) (es : List Ev.E) : Prop := w.ownsRow B 70 5 v es.length (evsCells es)
theorem OwnR.below {w w' : World} {B : Nat} {v : Value} {es : List Ev.E} (h : OwnR w B v es) (hb : Below w.heap.size w w') : OwnR w' B v es := row_below h hb
theorem infoR : (Tryz.prog.info? 70).map (fun i => (i.zero, i.size, i.bytes)) = some (some (.agg #[.int .i64 0, .string ⟨#[]⟩, .string ⟨#[]⟩, .string ⟨#[]⟩, .bool false]), 5, 64) := by kernel_rfl

theorem wpList_pushR {ops : Array Oper} {rest : List Oper} {o : Oper} {a : Act} {Q : Exit → Act → World → Prop} (hgd : o.guard = none) (s x : Operand)
    (ho : o.op = .call { callee := .builtin .append, args := #[s, x], argTypes := #[27, 27] }) (B : Nat) (v : Value) (es : List Ev.E) (y : Ev.E) (w0 : World) (C : Array Value) (c : Nat)
    (hs : a.eval s = v) (ga : Nat) (hx : a.eval x = .slice (some ⟨ga, 0, none⟩) 1 c) (hga : ga = w0.heap.size) (hC : C = #[.int .i64 y.kind, .string (str y.anchor), .string (str y.tag), .string (str y.text), .bool y.plain]) (hown : OwnR w0 B v es) (hl : es.length ≤ 2199023255488) (hB : B ≤ w0.heap.size)
    (h : ∀ v' w', OwnR w' B v' (es ++ [y]) → Below B w0 w' → B ≤ w'.heap.size → wpList Tryz.prog ops Q rest (a.put o.dst v') w') :
    wpList Tryz.prog ops Q (o :: rest) a (w0.alloc (.cells C 70)) := by
  subst hC hga
  obtain ⟨i0, hi, hz0, hz1, hz2⟩ := info_parts infoR
  refine wpList_append_own _ hgd s x 27 ho B 70 i0 _ 5 64 Tryz.underlying27 hi hz0 hz1 hz2 rfl (by decide) v es.length (evsCells es) hs (World.ownsRow.alloc hown _) ⟨w0.heap.size, 0, none⟩ 1 c (evCells y) hx rfl
    (fun j u hu => cells_of_new w0 70 (evCells y) j u hu) (fun u hu => by unfold evCells at hu; simp only [List.mem_cons, List.not_mem_nil, or_false] at hu; rcases hu with rfl | rfl | rfl | rfl | rfl <;> rfl) (by simp only [maxLen]; omega) (by omega) (by rw [World.size_alloc]; omega) ?_
  intro v' w' ho' hg _
  have hk : Below B w0 w' := ((Below.refl B w0).alloc hB _).grown hg (by rw [World.size_alloc]; omega) (fun k hk => (World.ownsRow.lt hown k hk).1)
  refine h v' w' ?_ hk (Nat.le_trans hB hk.size)
  unfold OwnR
  rw [List.length_append, evsCells_snoc]
  exact ho'

set_option maxHeartbeats 2000000 in
set_option maxRecDepth 100000 in
theorem ours_any (v : Value) (es : List Ev.E) (w : World) (h : RdE w w.heap.size v es) (hl : es.length ≤ 2199023255488) :
    Calls Tryz.prog 15 #[v] w fun e w' => (∃ u, e = .returned u ∧ OwnR w' w.heap.size u es) ∧ Below w.heap.size w w' := by
  obtain ⟨a, c, rfl, hc, hcl⟩ := h
  have HC := Lib.hid hcl
  clear hcl
  go_enter Tryz.func15, Tryz.ntmps15
  go_wp2
  go_loopw [3, 8] (fun ov i wr => ∃ (j : Nat), j ≤ es.length ∧ i = .int .i64 j ∧ OwnR wr w.heap.size ov (es.take j) ∧ Below w.heap.size w wr) (fun _ i _ => es.length - (intOf i).toNat)
  case atStart => exact ⟨0, by omega, rfl, World.ownsRow_nil _ _ _ _, Below.refl _ _⟩
  case round =>
    obtain ⟨j, hj, rfl, hown, hbw⟩ := hrel
    have hBr := hbw.size
    by_cases hlt : j < es.length
    · obtain ⟨g, o, rfl, hg, hcl⟩ := HC.out (by omega)
      obtain ⟨c0, c1, c2, c3, c4⟩ := (hcl j hlt).below hbw hg
      have HT := Lib.hid (List.take_succ_eq_append_getElem hlt)
      have htl : (es.take j).length ≤ 2199023255488 := by rw [List.length_take]; omega
      obtain ⟨va, vc, rfl⟩ := own_slice hown
      have HO := Lib.hid hown
      clear hcl hown
      generalize es[j] = x at *
      go_wp2_with (at_builtin; refine wpList_pushR rfl (.tmp 12) (.tmp 14) rfl w.heap.size _ (es.take j) x (wr.alloc _) _ _ rfl _ rfl ?ga ?hC ?hown ?hl ?hB ?_; (case ga => rw [World.size_alloc]); (case hC => rfl); (case hown => exact OwnR.below HO.out (bnew _ _)); (case hl => exact htl); (case hB => rw [World.size_alloc]; omega); intro v' w4 ho4 hb4 hB4)
      go_roundw
      case rel => exact ⟨j + 1, by omega, by go_num, by rw [HT.out]; exact ho4, (hbw.alloc hBr _).trans hb4⟩
      case measure => simp [intOf]; omega
    · have hje : j = es.length := by omega
      subst hje
      rw [List.take_of_length_le (Nat.le_refl _)] at hown
      have HO := Lib.hid hown
      clear hown
      go_wp2
      go_ret
      exact ⟨⟨_, rfl, HO.out⟩, hbw⟩


theorem rdE_len {w : World} {B : Nat} {v : Value} {es : List Ev.E} (h : RdE w B v es) : ∃ a c, v = .slice a es.length c := by
  obtain ⟨a, c, rfl, _⟩ := h; exact ⟨a, c, rfl⟩
set_option maxHeartbeats 2000000 in
set_option maxRecDepth 100000 in
/-- the very same -/
theorem sameE_any (v u : Value) (es : List Ev.E) (w : World) (h1 : RdE w w.heap.size v es) (h2 : RdE w w.heap.size u es) (hln : es.length ≤ 1000000000) :
    Calls Tryz.prog 14 #[v, u] w fun e w' => e = .returned (.bool true) ∧ ∃ n, w' = w.drewN n := by
  obtain ⟨a, c, rfl, hc, hcl⟩ := h1
  obtain ⟨b, d, rfl, hd, hql⟩ := h2
  have H1 := Lib.hid hcl
  have H2 := Lib.hid hql
  clear hcl hql
  go_enter Tryz.func14, Tryz.ntmps14
  go_wp2
  go_loopw [5] (fun i wr => ∃ j n : Nat, j ≤ es.length ∧ i = .int .i64 j ∧ wr = w.drewN n) (fun i _ => es.length - (intOf i).toNat)
  case atStart => exact ⟨0, 0, by omega, rfl, rfl⟩
  case round =>
    obtain ⟨j, n, hj, rfl, rfl⟩ := hrel
    by_cases hlt : j < es.length
    · obtain ⟨g, o, rfl, hg, hcl⟩ := H1.out (by omega)
      obtain ⟨q, p, rfl, hq, hql⟩ := H2.out (by omega)
      obtain ⟨c0, c1, c2, c3, c4⟩ := hcl j hlt
      obtain ⟨d0, d1, d2, d3, d4⟩ := hql j hlt
      clear hcl hql
      have hi0 : (0 : Int) ≤ (j : Int) := Int.natCast_nonneg _
      have hi1 : (j : Int) < (es.length : Int) := by omega
      generalize es[j] = x at *
      go_wp2
      go_quiet (fail)
      go_wp2
      go_roundw
      case rel => exact ⟨j + 1, _, by omega, by go_num, rfl⟩
      case measure => simp [intOf]; omega
    · have hje : j = es.length := by omega
      subst hje
      go_wp2
      go_ret
      exact ⟨rfl, _, rfl⟩
/-- append(x, y...), as an equation of its run -/
theorem run_appQ (w : World) (ty : TypeId) (B B' : Nat) (v u : Value) (xs ys : List Ev.E) (hv : OwnR w B v xs) (hu : OwnR w B' u ys) (hl : xs.length + ys.length ≤ 1000000000) (hB : B ≤ w.heap.size) :
    ∃ v' w', (Builtin.append_ #[27, 27] ty #[v, u]).run Tryz.prog w = .ok v' w' ∧ OwnR w' B v' (xs ++ ys) ∧ Below B w w' ∧ ∀ k, k < w.heap.size → v.ownBlock ≠ some k → w'.heap[k]? = w.heap[k]? := by
  obtain ⟨i0, hi, hz0, hz1, hz2⟩ := info_parts infoR
  have hu' := hu
  rcases hu.2 with ⟨e, h0⟩ | ⟨g, c, cur, e, _, _⟩
  · subst e
    have : ys = [] := List.length_eq_zero_iff.1 h0
    subst this
    refine ⟨v, w, run_append_owned_none (P := Tryz.prog) (w := w) B 27 ty 70 i0 5 Tryz.underlying27 hi v xs.length (evsCells xs) hv, ?_, Below.refl B w, fun _ _ _ => rfl⟩
    rw [List.append_nil]; exact hv
  subst e
  obtain ⟨v', w', hr, h2, h3, _, _⟩ := run_append_own_at (P := Tryz.prog) w B 27 ty 70 i0 _ 5 64 Tryz.underlying27 hi hz0 hz1 hz2 rfl (by decide) v xs.length (evsCells xs) hv ⟨g, 0, none⟩ ys.length c (evsCells ys) (evsCells_len ys) (World.ownsRow.cells hu' (g := g) rfl) (evsCells_one ys) (by simp only [maxLen]; omega) (by omega) hB
  refine ⟨v', w', hr, ?_, (Below.refl B w).grown h3 hB (fun k hk => (World.ownsRow.lt hv k hk).1), fun k hk hne => h3.block k hk hne.symm⟩
  unfold OwnR
  rw [List.length_append, evsCells_app]; exact h2
/-- the same at the list of a region's operations, under a guard that says yes -/
theorem wpList_appQ {ops : Array Oper} {rest : List Oper} {o : Oper} {a : Act} {Q : Exit → Act → World → Prop} {w : World} (hw : Region.wanted o (yielded ops a.tmps) = true) (s x : Operand)
    (ho : o.op = .call { callee := .builtin .append, args := #[s, x], argTypes := #[27, 27] }) (B B' : Nat) (v u : Value) (xs ys : List Ev.E) (hs : a.eval s = v) (hx : a.eval x = u)
    (hv : OwnR w B v xs) (hu : OwnR w B' u ys) (hl : xs.length + ys.length ≤ 1000000000) (hB : B ≤ w.heap.size)
    (h : ∀ v' w', OwnR w' B v' (xs ++ ys) → Below B w w' → (∀ k, k < w.heap.size → v.ownBlock ≠ some k → w'.heap[k]? = w.heap[k]?) → wpList Tryz.prog ops Q rest (a.put o.dst v') w') : wpList Tryz.prog ops Q (o :: rest) a w := by
  obtain ⟨v', w', hr, h2, h3, h4⟩ := run_appQ w o.type B B' v u xs ys hv hu hl hB
  refine BigFrame.wpList_want hw fun K hK => ?_
  unfold Oper.wp
  simp [execOp, ho, resolve, invoke, builtin, hs, hx, hr, Result.andThen]
  exact hK _ _ (h v' w' h2 h3 h4)
end Go.Proofs.YtjcfmghijfnehaaGreatDoor
