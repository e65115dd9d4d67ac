/-
  The document's rows of events that a call owns; Ours, Same; the walk of EventBack.
-/
import Derived.Test.YthkedlcmpibkjaaGreatDoorMr
import Derived.BigQuiet
namespace Go.Proofs.YthkedlcmpibkjaaGreatDoor
open Go.RowKit
/-- events of the document's kind that the call owns -/
def OwnR (w : World) (B : Nat) (v : Value) (es : List Ev.E) : Prop := w.ownsRow B 42 5 v es.length (evsCells es)
theorem OwnR.below {w w' : World} {B : Nat} {v : Value} {es : List Ev.E} (h : OwnR w B v es) (hb : Below w.heap.size w w') : OwnR w' B v es := row_below h hb
theorem infoR : (Tryz.prog.info? 42).map (fun i => (i.zero, i.size, i.bytes)) = some (some (.agg #[.int .i64 0, .string ⟨#[]⟩, .string ⟨#[]⟩, .string ⟨#[]⟩, .bool false]), 5, 64) := by kernel_rfl

theorem wpList_pushR {ops : Array Oper} {rest : List Oper} {o : Oper} {a : Act} {Q : Exit → Act → World → Prop} (hgd : o.guard = none) (s x : Operand)
    (ho : o.op = .call { callee := .builtin .append, args := #[s, x], argTypes := #[27, 27] }) (B : Nat) (v : Value) (es : List Ev.E) (y : Ev.E) (w0 : World) (C : Array Value) (c : Nat)
    (hs : a.eval s = v) (ga : Nat) (hx : a.eval x = .slice (some ⟨ga, 0, none⟩) 1 c) (hga : ga = w0.heap.size) (hC : C = #[.int .i64 y.kind, .string (str y.anchor), .string (str y.tag), .string (str y.text), .bool y.plain]) (hown : OwnR w0 B v es) (hl : es.length ≤ 2199023255488) (hB : B ≤ w0.heap.size)
    (h : ∀ v' w', OwnR w' B v' (es ++ [y]) → Below B w0 w' → B ≤ w'.heap.size → wpList Tryz.prog ops Q rest (a.put o.dst v') w') :
    wpList Tryz.prog ops Q (o :: rest) a (w0.alloc (.cells C 42)) := by
  subst hC hga
  obtain ⟨i0, hi, hz0, hz1, hz2⟩ := info_parts infoR
  refine wpList_append_own _ hgd s x 27 ho B 42 i0 _ 5 64 Tryz.underlying27 hi hz0 hz1 hz2 rfl (by decide) v es.length (evsCells es) hs (World.ownsRow.alloc hown _) ⟨w0.heap.size, 0, none⟩ 1 c (evCells y) hx rfl
    (fun j u hu => cells_of_new w0 42 (evCells y) j u hu) (fun u hu => by unfold evCells at hu; simp only [List.mem_cons, List.not_mem_nil, or_false] at hu; rcases hu with rfl | rfl | rfl | rfl | rfl <;> rfl) (by simp only [maxLen]; omega) (by omega) (by rw [World.size_alloc]; omega) ?_
  intro v' w' ho' hg _
  have hk : Below B w0 w' := ((Below.refl B w0).alloc hB _).grown hg (by rw [World.size_alloc]; omega) (fun k hk => (World.ownsRow.lt hown k hk).1)
  refine h v' w' ?_ hk (Nat.le_trans hB hk.size)
  unfold OwnR
  rw [List.length_append, evsCells_snoc]
  exact ho'

set_option maxHeartbeats 2000000 in
set_option maxRecDepth 100000 in
theorem ours_any (v : Value) (es : List Ev.E) (w : World) (h : RdE w w.heap.size v es) (hl : es.length ≤ 2199023255488) :
    Calls Tryz.prog 8 #[v] w fun e w' => (∃ u, e = .returned u ∧ OwnR w' w.heap.size u es) ∧ Below w.heap.size w w' := by
  obtain ⟨a, c, rfl, hc, hcl⟩ := h
  have HC := Lib.hid hcl
  clear hcl
  go_enter Tryz.func8, Tryz.ntmps8
  go_wp2
  go_loopw [3, 8] (fun ov i wr => ∃ (j : Nat), j ≤ es.length ∧ i = .int .i64 j ∧ OwnR wr w.heap.size ov (es.take j) ∧ Below w.heap.size w wr) (fun _ i _ => es.length - (intOf i).toNat)
  case atStart => exact ⟨0, by omega, rfl, World.ownsRow_nil _ _ _ _, Below.refl _ _⟩
  case round =>
    obtain ⟨j, hj, rfl, hown, hbw⟩ := hrel
    have hBr := hbw.size
    by_cases hlt : j < es.length
    · obtain ⟨g, o, rfl, hg, hcl⟩ := HC.out (by omega)
      obtain ⟨c0, c1, c2, c3, c4⟩ := (hcl j hlt).below hbw hg
      have HT := Lib.hid (List.take_succ_eq_append_getElem hlt)
      have htl : (es.take j).length ≤ 2199023255488 := by rw [List.length_take]; omega
      obtain ⟨va, vc, rfl⟩ := own_slice hown
      have HO := Lib.hid hown
      clear hcl hown
      generalize es[j] = x at *
      go_wp2_with (at_builtin; refine wpList_pushR rfl (.tmp 12) (.tmp 14) rfl w.heap.size _ (es.take j) x (wr.alloc _) _ _ rfl _ rfl ?ga ?hC ?hown ?hl ?hB ?_; (case ga => rw [World.size_alloc]); (case hC => rfl); (case hown => exact OwnR.below HO.out (bnew _ _)); (case hl => exact htl); (case hB => rw [World.size_alloc]; omega); intro v' w4 ho4 hb4 hB4)
      go_roundw
      case rel => exact ⟨j + 1, by omega, by go_num, by rw [HT.out]; exact ho4, (hbw.alloc hBr _).trans hb4⟩
      case measure => simp [intOf]; omega
    · have hje : j = es.length := by omega
      subst hje
      rw [List.take_of_length_le (Nat.le_refl _)] at hown
      have HO := Lib.hid hown
      clear hown
      go_wp2
      go_ret
      exact ⟨⟨_, rfl, HO.out⟩, hbw⟩


theorem rdE_len {w : World} {B : Nat} {v : Value} {es : List Ev.E} (h : RdE w B v es) : ∃ a c, v = .slice a es.length c := by
  obtain ⟨a, c, rfl, _⟩ := h; exact ⟨a, c, rfl⟩
set_option maxHeartbeats 2000000 in
set_option maxRecDepth 100000 in
/-- the very same -/
theorem sameE_any (v u : Value) (es : List Ev.E) (w : World) (h1 : RdE w w.heap.size v es) (h2 : RdE w w.heap.size u es) (hln : es.length ≤ 1000000000) :
    Calls Tryz.prog 7 #[v, u] w fun e w' => e = .returned (.bool true) ∧ ∃ n, w' = w.drewN n := by
  obtain ⟨a, c, rfl, hc, hcl⟩ := h1
  obtain ⟨b, d, rfl, hd, hql⟩ := h2
  have H1 := Lib.hid hcl
  have H2 := Lib.hid hql
  clear hcl hql
  go_enter Tryz.func7, Tryz.ntmps7
  go_wp2
  go_loopw [5] (fun i wr => ∃ j n : Nat, j ≤ es.length ∧ i = .int .i64 j ∧ wr = w.drewN n) (fun i _ => es.length - (intOf i).toNat)
  case atStart => exact ⟨0, 0, by omega, rfl, rfl⟩
  case round =>
    obtain ⟨j, n, hj, rfl, rfl⟩ := hrel
    by_cases hlt : j < es.length
    · obtain ⟨g, o, rfl, hg, hcl⟩ := H1.out (by omega)
      obtain ⟨q, p, rfl, hq, hql⟩ := H2.out (by omega)
      obtain ⟨c0, c1, c2, c3, c4⟩ := hcl j hlt
      obtain ⟨d0, d1, d2, d3, d4⟩ := hql j hlt
      clear hcl hql
      have hi0 : (0 : Int) ≤ (j : Int) := Int.natCast_nonneg _
      have hi1 : (j : Int) < (es.length : Int) := by omega
      generalize es[j] = x at *
      go_wp2
      go_quiet (fail)
      go_wp2
      go_roundw
      case rel => exact ⟨j + 1, _, by omega, by go_num, rfl⟩
      case measure => simp [intOf]; omega
    · have hje : j = es.length := by omega
      subst hje
      go_wp2
      go_ret
      exact ⟨rfl, _, rfl⟩
end Go.Proofs.YthkedlcmpibkjaaGreatDoor
