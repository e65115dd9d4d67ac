/-
  The document's rows of events that a call owns; Ours, Same, append of one such row to another.
-/
import Derived.Test.YtbimjdlkffbncaaDoorXe
import Derived.Test.YtbimjdlkffbncaaDoorXs
import Derived.Test.YtbimjdlkffbncaaDoorFp
import Derived.Laws.AppendOwnNone
import Derived.BigQuiet
namespace Go.Proofs.YtbimjdlkffbncaaDoor
namespace Evn
open Go.RowKit
/-- events of the document's kind that the call owns -/
def OwnR (w : World) (B : Nat) (v : Value) (es : List Ev.E) : Prop := w.ownsRow B 37 5 v es.length (evsCells es)
theorem OwnR.below {w w' : World} {B : Nat} {v : Value} {es : List Ev.E} (h : OwnR w B v es) (hb : Below w.heap.size w w') : OwnR w' B v es := row_below h hb
theorem infoR : (Tryd.prog.info? 37).map (fun i => (i.zero, i.size, i.bytes)) = some (some (.agg #[.int .i64 0, .string ⟨#[]⟩, .string ⟨#[]⟩, .string ⟨#[]⟩, .bool false]), 5, 64) := by kernel_rfl

theorem wpList_pushR {ops : Array Oper} {rest : List Oper} {o : Oper} {a : Act} {Q : Exit → Act → World → Prop} (hgd : o.guard = none) (s x : Operand)
    (ho : o.op = .call { callee := .builtin .append, args := #[s, x], argTypes := #[22, 22] }) (B : Nat) (v : Value) (es : List Ev.E) (y : Ev.E) (w0 : World) (C : Array Value) (c : Nat)
    (hs : a.eval s = v) (ga : Nat) (hx : a.eval x = .slice (some ⟨ga, 0, none⟩) 1 c) (hga : ga = w0.heap.size) (hC : C = #[.int .i64 y.kind, .string (str y.anchor), .string (str y.tag), .string (str y.text), .bool y.plain]) (hown : OwnR w0 B v es) (hl : es.length ≤ 2199023255488) (hB : B ≤ w0.heap.size)
    (h : ∀ v' w', OwnR w' B v' (es ++ [y]) → Below B w0 w' → B ≤ w'.heap.size → wpList Tryd.prog ops Q rest (a.put o.dst v') w') :
    wpList Tryd.prog ops Q (o :: rest) a (w0.alloc (.cells C 37)) := by
  subst hC hga
  obtain ⟨i0, hi, hz0, hz1, hz2⟩ := info_parts infoR
  refine wpList_append_own _ hgd s x 22 ho B 37 i0 _ 5 64 Tryd.underlying22 hi hz0 hz1 hz2 rfl (by decide) v es.length (evsCells es) hs (World.ownsRow.alloc hown _) ⟨w0.heap.size, 0, none⟩ 1 c (evCells y) hx rfl
    (fun j u hu => cells_of_new w0 37 (evCells y) j u hu) (fun u hu => by unfold evCells at hu; simp only [List.mem_cons, List.not_mem_nil, or_false] at hu; rcases hu with rfl | rfl | rfl | rfl | rfl <;> rfl) (by simp only [maxLen]; omega) (by omega) (by rw [World.size_alloc]; omega) ?_
  intro v' w' ho' hg _
  have hk : Below B w0 w' := ((Below.refl B w0).alloc hB _).grown hg (by rw [World.size_alloc]; omega) (fun k hk => (World.ownsRow.lt hown k hk).1)
  refine h v' w' ?_ hk (Nat.le_trans hB hk.size)
  unfold OwnR
  rw [List.length_append, evsCells_snoc]
  exact ho'

set_option maxHeartbeats 2000000 in
set_option maxRecDepth 100000 in
theorem ours_any (v : Value) (es : List Ev.E) (w : World) (h : RdE w w.heap.size v es) (hl : es.length ≤ 2199023255488) :
    Calls Tryd.prog 32 #[v] w fun e w' => (∃ u, e = .returned u ∧ OwnR w' w.heap.size u es) ∧ Below w.heap.size w w' := by
  obtain ⟨a, c, rfl, hc, hcl⟩ := h
  have HC := Lib.hid hcl
  clear hcl
  go_enter Tryd.func32, Tryd.ntmps32
  go_wp2
  go_loopw [3, 8] (fun ov i wr => ∃ (j : Nat), j ≤ es.length ∧ i = .int .i64 j ∧ OwnR wr w.heap.size ov (es.take j) ∧ Below w.heap.size w wr) (fun _ i _ => es.length - (intOf i).toNat)
  case atStart => exact ⟨0, by omega, rfl, World.ownsRow_nil _ _ _ _, Below.refl _ _⟩
  case round =>
    obtain ⟨j, hj, rfl, hown, hbw⟩ := hrel
    have hBr := hbw.size
    by_cases hlt : j < es.length
    · obtain ⟨g, o, rfl, hg, hcl⟩ := HC.out (by omega)
      obtain ⟨c0, c1, c2, c3, c4⟩ := (hcl j hlt).below hbw hg
      have HT := Lib.hid (List.take_succ_eq_append_getElem hlt)
      have htl : (es.take j).length ≤ 2199023255488 := by rw [List.length_take]; omega
      obtain ⟨va, vc, rfl⟩ := own_slice hown
      have HO := Lib.hid hown
      clear hcl hown
      generalize es[j] = x at *
      go_wp2_with (at_builtin; refine wpList_pushR rfl (.tmp 12) (.tmp 14) rfl w.heap.size _ (es.take j) x (wr.alloc _) _ _ rfl _ rfl ?ga ?hC ?hown ?hl ?hB ?_; (case ga => rw [World.size_alloc]); (case hC => rfl); (case hown => exact OwnR.below HO.out (bnew _ _)); (case hl => exact htl); (case hB => rw [World.size_alloc]; omega); intro v' w4 ho4 hb4 hB4)
      go_roundw
      case rel => exact ⟨j + 1, by omega, by go_num, by rw [HT.out]; exact ho4, (hbw.alloc hBr _).trans hb4⟩
      case measure => simp [intOf]; omega
    · have hje : j = es.length := by omega
      subst hje
      rw [List.take_of_length_le (Nat.le_refl _)] at hown
      have HO := Lib.hid hown
      clear hown
      go_wp2
      go_ret
      exact ⟨⟨_, rfl, HO.out⟩, hbw⟩



set_option maxHeartbeats 4000000 in
set_option maxRecDepth 100000 in
/-- are two rows of events the very same? -/
theorem sameR_any (v u : Value) (es fs : List Ev.E) (w : World) (h1 : RdE w w.heap.size v es) (h2 : RdE w w.heap.size u fs) (hln : es.length ≤ 1000000000) (hlm : fs.length ≤ 1000000000) :
    Calls Tryd.prog 31 #[v, u] w fun e w' => (∃ b, e = .returned (.bool b) ∧ (b = true ↔ es = fs)) ∧ Below w.heap.size w w' := by
  obtain ⟨a, c, rfl, hc, hcl⟩ := h1
  obtain ⟨b, d, rfl, hd, hql⟩ := h2
  have H1 := Lib.hid hcl
  have H2 := Lib.hid hql
  clear hcl hql
  by_cases hl : es.length = fs.length
  · obtain ⟨N, hN1⟩ : ∃ N, es.length = N := ⟨_, rfl⟩
    have hN2 : fs.length = N := by omega
    rw [hN1, hN2]
    rw [hN1] at hln hc
    rw [hN2] at hd
    have HN1 := Lib.hid hN1
    have HN2 := Lib.hid hN2
    clear hN1 hN2 hl hlm
    go_enter Tryd.func31, Tryd.ntmps31
    go_wp2
    go_loopw [5] (fun i wr => ∃ j : Nat, j ≤ N ∧ i = .int .i64 j ∧ Below w.heap.size w wr ∧ Hid (es.take j = fs.take j)) (fun i _ => N - (intOf i).toNat)
    case atStart => exact ⟨0, by omega, rfl, Below.refl _ _, Lib.hid rfl⟩
    case round =>
      obtain ⟨j, hj, rfl, hbw, HT⟩ := hrel
      have HB := Lib.hid hbw
      by_cases hltN : j < N
      · have hlt : j < es.length := by rw [HN1.out]; exact hltN
        have hlt2 : j < fs.length := by rw [HN2.out]; exact hltN
        obtain ⟨g, o, rfl, hg, hcl⟩ := H1.out (by omega)
        obtain ⟨q, p, rfl, hq, hql⟩ := H2.out (by omega)
        obtain ⟨c0, c1, c2, c3, c4⟩ := (hcl j hlt).below hbw hg
        obtain ⟨d0, d1, d2, d3, d4⟩ := (hql j hlt2).below hbw hq
        clear hcl hql hbw
        have hi0 : (0 : Int) ≤ (j : Int) := Int.natCast_nonneg _
        have hi1 : (j : Int) < (N : Int) := by omega
        have S1 : Hid (es[j] = fs[j] → es.take (j + 1) = fs.take (j + 1)) := fun h => by rw [List.take_succ_eq_append_getElem hlt, List.take_succ_eq_append_getElem hlt2, HT.out, h]
        have S2 : Hid (es[j] ≠ fs[j] → es ≠ fs) := fun h e => h (by subst e; rfl)
        generalize es[j] = x at *
        generalize fs[j] = y at *
        clear hlt hlt2
        obtain ⟨k, an, tg, tx, pl⟩ := x
        obtain ⟨k', an', tg', tx', pl'⟩ := y
        simp only at c0 c1 c2 c3 c4 d0 d1 d2 d3 d4
        by_cases e0 : k = k'
        · subst e0
          by_cases e1 : an = an'
          · subst e1
            by_cases e2 : tg = tg'
            · subst e2
              by_cases e3 : tx = tx'
              · subst e3
                by_cases e4 : pl = pl'
                · subst e4
                  have S3 := Lib.hid (S1.out rfl)
                  go_wp2
                  go_quiet (fail)
                  go_wp2
                  go_roundw
                  case rel => exact ⟨j + 1, by omega, by go_num, bel_drewN HB.out _, S3⟩
                  case measure => simp [intOf]; omega
                · have n4 : (pl == pl') = false := beq_eq_false_iff_ne.2 e4
                  have S4 := Lib.hid (S2.out (fun h => e4 (by injection h)))
                  go_wp2
                  go_quiet (fail)
                  go_wp2
                  go_ret
                  exact ⟨⟨_, rfl, by simp [S4.out]⟩, bel_drewN HB.out _⟩
              · have n3 := str_neb tx tx' e3
                have S4 := Lib.hid (S2.out (fun h => e3 (by injection h)))
                go_wp2
                go_quiet (fail)
                go_wp2
                go_ret
                exact ⟨⟨_, rfl, by simp [S4.out]⟩, bel_drewN HB.out _⟩
            · have n2 := str_neb tg tg' e2
              have S4 := Lib.hid (S2.out (fun h => e2 (by injection h)))
              go_wp2
              go_quiet (fail)
              go_wp2
              go_ret
              exact ⟨⟨_, rfl, by simp [S4.out]⟩, bel_drewN HB.out _⟩
          · have n1 := str_neb an an' e1
            have S4 := Lib.hid (S2.out (fun h => e1 (by injection h)))
            go_wp2
            go_quiet (fail)
            go_wp2
            go_ret
            exact ⟨⟨_, rfl, by simp [S4.out]⟩, bel_drewN HB.out _⟩
        · have n0 : (k == k') = false := beq_eq_false_iff_ne.2 e0
          have S4 := Lib.hid (S2.out (fun h => e0 (by injection h)))
          go_wp2
          go_quiet (fail)
          go_wp2
          go_ret
          exact ⟨⟨_, rfl, by simp [S4.out]⟩, bel_drewN HB.out _⟩
      · have hT := HT.out
        rw [List.take_of_length_le (by rw [HN1.out]; omega), List.take_of_length_le (by rw [HN2.out]; omega)] at hT
        go_wp2
        go_ret
        exact ⟨⟨_, rfl, by simp [hT]⟩, HB.out⟩
  · have hne : ((es.length : Int) == (fs.length : Int)) = false := beq_eq_false_iff_ne.2 (by omega)
    have S4 := Lib.hid (show es ≠ fs from fun e => hl (by rw [e]))
    go_enter Tryd.func31, Tryd.ntmps31
    go_wp2
    go_ret
    exact ⟨⟨_, rfl, by simp [S4.out]⟩, Below.refl _ _⟩
end Evn
end Go.Proofs.YtbimjdlkffbncaaDoor
