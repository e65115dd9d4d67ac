/-
  The document's rows of events that a call owns; Ours, Same, append of one such row to another.
  The walk of FlattenSame.
-/
import Derived.Test.YtbimjdlkffbncaaDoorXe
import Derived.Test.YtbimjdlkffbncaaDoorXs
import Derived.Test.YtbimjdlkffbncaaDoorFq
import Derived.Laws.AppendOwnNone
import Derived.BigQuiet
import Derived.Test.YtbimjdlkffbncaaDoorFu
import Derived.Test.YtbimjdlkffbncaaDoorFk
namespace Go.Proofs.YtbimjdlkffbncaaDoor
namespace Evn
open Go.RowKit
/-- events of the document's kind that the call owns -/
def OwnR (w : World) (B : Nat) (v : Value) (es : List Ev.E) : Prop := w.ownsRow B 37 5 v es.length (evsCells es)
theorem OwnR.below {w w' : World} {B : Nat} {v : Value} {es : List Ev.E} (h : OwnR w B v es) (hb : Below w.heap.size w w') : OwnR w' B v es := row_below h hb
theorem infoR : (Tryd.prog.info? 37).map (fun i => (i.zero, i.size, i.bytes)) = some (some (.agg #[.int .i64 0, .string ⟨#[]⟩, .string ⟨#[]⟩, .string ⟨#[]⟩, .bool false]), 5, 64) := by kernel_rfl

theorem wpList_pushR {ops : Array Oper} {rest : List Oper} {o : Oper} {a : Act} {Q : Exit → Act → World → Prop} (hgd : o.guard = none) (s x : Operand)
    (ho : o.op = .call { callee := .builtin .append, args := #[s, x], argTypes := #[22, 22] }) (B : Nat) (v : Value) (es : List Ev.E) (y : Ev.E) (w0 : World) (C : Array Value) (c : Nat)
    (hs : a.eval s = v) (ga : Nat) (hx : a.eval x = .slice (some ⟨ga, 0, none⟩) 1 c) (hga : ga = w0.heap.size) (hC : C = #[.int .i64 y.kind, .string (str y.anchor), .string (str y.tag), .string (str y.text), .bool y.plain]) (hown : OwnR w0 B v es) (hl : es.length ≤ 2199023255488) (hB : B ≤ w0.heap.size)
    (h : ∀ v' w', OwnR w' B v' (es ++ [y]) → Below B w0 w' → B ≤ w'.heap.size → wpList Tryd.prog ops Q rest (a.put o.dst v') w') :
    wpList Tryd.prog ops Q (o :: rest) a (w0.alloc (.cells C 37)) := by
  subst hC hga
  obtain ⟨i0, hi, hz0, hz1, hz2⟩ := info_parts infoR
  refine wpList_append_own _ hgd s x 22 ho B 37 i0 _ 5 64 Tryd.underlying22 hi hz0 hz1 hz2 rfl (by decide) v es.length (evsCells es) hs (World.ownsRow.alloc hown _) ⟨w0.heap.size, 0, none⟩ 1 c (evCells y) hx rfl
    (fun j u hu => cells_of_new w0 37 (evCells y) j u hu) (fun u hu => by unfold evCells at hu; simp only [List.mem_cons, List.not_mem_nil, or_false] at hu; rcases hu with rfl | rfl | rfl | rfl | rfl <;> rfl) (by simp only [maxLen]; omega) (by omega) (by rw [World.size_alloc]; omega) ?_
  intro v' w' ho' hg _
  have hk : Below B w0 w' := ((Below.refl B w0).alloc hB _).grown hg (by rw [World.size_alloc]; omega) (fun k hk => (World.ownsRow.lt hown k hk).1)
  refine h v' w' ?_ hk (Nat.le_trans hB hk.size)
  unfold OwnR
  rw [List.length_append, evsCells_snoc]
  exact ho'

set_option maxHeartbeats 2000000 in
set_option maxRecDepth 100000 in
theorem ours_any (v : Value) (es : List Ev.E) (w : World) (h : RdE w w.heap.size v es) (hl : es.length ≤ 2199023255488) :
    Calls Tryd.prog 32 #[v] w fun e w' => (∃ u, e = .returned u ∧ OwnR w' w.heap.size u es) ∧ Below w.heap.size w w' := by
  obtain ⟨a, c, rfl, hc, hcl⟩ := h
  have HC := Lib.hid hcl
  clear hcl
  go_enter Tryd.func32, Tryd.ntmps32
  go_wp2
  go_loopw [3, 8] (fun ov i wr => ∃ (j : Nat), j ≤ es.length ∧ i = .int .i64 j ∧ OwnR wr w.heap.size ov (es.take j) ∧ Below w.heap.size w wr) (fun _ i _ => es.length - (intOf i).toNat)
  case atStart => exact ⟨0, by omega, rfl, World.ownsRow_nil _ _ _ _, Below.refl _ _⟩
  case round =>
    obtain ⟨j, hj, rfl, hown, hbw⟩ := hrel
    have hBr := hbw.size
    by_cases hlt : j < es.length
    · obtain ⟨g, o, rfl, hg, hcl⟩ := HC.out (by omega)
      obtain ⟨c0, c1, c2, c3, c4⟩ := (hcl j hlt).below hbw hg
      have HT := Lib.hid (List.take_succ_eq_append_getElem hlt)
      have htl : (es.take j).length ≤ 2199023255488 := by rw [List.length_take]; omega
      obtain ⟨va, vc, rfl⟩ := own_slice hown
      have HO := Lib.hid hown
      clear hcl hown
      generalize es[j] = x at *
      go_wp2_with (at_builtin; refine wpList_pushR rfl (.tmp 12) (.tmp 14) rfl w.heap.size _ (es.take j) x (wr.alloc _) _ _ rfl _ rfl ?ga ?hC ?hown ?hl ?hB ?_; (case ga => rw [World.size_alloc]); (case hC => rfl); (case hown => exact OwnR.below HO.out (bnew _ _)); (case hl => exact htl); (case hB => rw [World.size_alloc]; omega); intro v' w4 ho4 hb4 hB4)
      go_roundw
      case rel => exact ⟨j + 1, by omega, by go_num, by rw [HT.out]; exact ho4, (hbw.alloc hBr _).trans hb4⟩
      case measure => simp [intOf]; omega
    · have hje : j = es.length := by omega
      subst hje
      rw [List.take_of_length_le (Nat.le_refl _)] at hown
      have HO := Lib.hid hown
      clear hown
      go_wp2
      go_ret
      exact ⟨⟨_, rfl, HO.out⟩, hbw⟩



set_option maxHeartbeats 4000000 in
set_option maxRecDepth 100000 in
/-- are two rows of events the very same? -/
theorem sameR_any (v u : Value) (es fs : List Ev.E) (w : World) (h1 : RdE w w.heap.size v es) (h2 : RdE w w.heap.size u fs) (hln : es.length ≤ 1000000000) (hlm : fs.length ≤ 1000000000) :
    Calls Tryd.prog 31 #[v, u] w fun e w' => (∃ b, e = .returned (.bool b) ∧ (b = true ↔ es = fs)) ∧ Below w.heap.size w w' := by
  obtain ⟨a, c, rfl, hc, hcl⟩ := h1
  obtain ⟨b, d, rfl, hd, hql⟩ := h2
  have H1 := Lib.hid hcl
  have H2 := Lib.hid hql
  clear hcl hql
  by_cases hl : es.length = fs.length
  · obtain ⟨N, hN1⟩ : ∃ N, es.length = N := ⟨_, rfl⟩
    have hN2 : fs.length = N := by omega
    rw [hN1, hN2]
    rw [hN1] at hln hc
    rw [hN2] at hd
    have HN1 := Lib.hid hN1
    have HN2 := Lib.hid hN2
    clear hN1 hN2 hl hlm
    go_enter Tryd.func31, Tryd.ntmps31
    go_wp2
    go_loopw [5] (fun i wr => ∃ j : Nat, j ≤ N ∧ i = .int .i64 j ∧ Below w.heap.size w wr ∧ Hid (es.take j = fs.take j)) (fun i _ => N - (intOf i).toNat)
    case atStart => exact ⟨0, by omega, rfl, Below.refl _ _, Lib.hid rfl⟩
    case round =>
      obtain ⟨j, hj, rfl, hbw, HT⟩ := hrel
      have HB := Lib.hid hbw
      by_cases hltN : j < N
      · have hlt : j < es.length := by rw [HN1.out]; exact hltN
        have hlt2 : j < fs.length := by rw [HN2.out]; exact hltN
        obtain ⟨g, o, rfl, hg, hcl⟩ := H1.out (by omega)
        obtain ⟨q, p, rfl, hq, hql⟩ := H2.out (by omega)
        obtain ⟨c0, c1, c2, c3, c4⟩ := (hcl j hlt).below hbw hg
        obtain ⟨d0, d1, d2, d3, d4⟩ := (hql j hlt2).below hbw hq
        clear hcl hql hbw
        have hi0 : (0 : Int) ≤ (j : Int) := Int.natCast_nonneg _
        have hi1 : (j : Int) < (N : Int) := by omega
        have S1 : Hid (es[j] = fs[j] → es.take (j + 1) = fs.take (j + 1)) := fun h => by rw [List.take_succ_eq_append_getElem hlt, List.take_succ_eq_append_getElem hlt2, HT.out, h]
        have S2 : Hid (es[j] ≠ fs[j] → es ≠ fs) := fun h e => h (by subst e; rfl)
        generalize es[j] = x at *
        generalize fs[j] = y at *
        clear hlt hlt2
        obtain ⟨k, an, tg, tx, pl⟩ := x
        obtain ⟨k', an', tg', tx', pl'⟩ := y
        simp only at c0 c1 c2 c3 c4 d0 d1 d2 d3 d4
        by_cases e0 : k = k'
        · subst e0
          by_cases e1 : an = an'
          · subst e1
            by_cases e2 : tg = tg'
            · subst e2
              by_cases e3 : tx = tx'
              · subst e3
                by_cases e4 : pl = pl'
                · subst e4
                  have S3 := Lib.hid (S1.out rfl)
                  go_wp2
                  go_quiet (fail)
                  go_wp2
                  go_roundw
                  case rel => exact ⟨j + 1, by omega, by go_num, bel_drewN HB.out _, S3⟩
                  case measure => simp [intOf]; omega
                · have n4 : (pl == pl') = false := beq_eq_false_iff_ne.2 e4
                  have S4 := Lib.hid (S2.out (fun h => e4 (by injection h)))
                  go_wp2
                  go_quiet (fail)
                  go_wp2
                  go_ret
                  exact ⟨⟨_, rfl, by simp [S4.out]⟩, bel_drewN HB.out _⟩
              · have n3 := str_neb tx tx' e3
                have S4 := Lib.hid (S2.out (fun h => e3 (by injection h)))
                go_wp2
                go_quiet (fail)
                go_wp2
                go_ret
                exact ⟨⟨_, rfl, by simp [S4.out]⟩, bel_drewN HB.out _⟩
            · have n2 := str_neb tg tg' e2
              have S4 := Lib.hid (S2.out (fun h => e2 (by injection h)))
              go_wp2
              go_quiet (fail)
              go_wp2
              go_ret
              exact ⟨⟨_, rfl, by simp [S4.out]⟩, bel_drewN HB.out _⟩
          · have n1 := str_neb an an' e1
            have S4 := Lib.hid (S2.out (fun h => e1 (by injection h)))
            go_wp2
            go_quiet (fail)
            go_wp2
            go_ret
            exact ⟨⟨_, rfl, by simp [S4.out]⟩, bel_drewN HB.out _⟩
        · have n0 : (k == k') = false := beq_eq_false_iff_ne.2 e0
          have S4 := Lib.hid (S2.out (fun h => e0 (by injection h)))
          go_wp2
          go_quiet (fail)
          go_wp2
          go_ret
          exact ⟨⟨_, rfl, by simp [S4.out]⟩, bel_drewN HB.out _⟩
      · have hT := HT.out
        rw [List.take_of_length_le (by rw [HN1.out]; omega), List.take_of_length_le (by rw [HN2.out]; omega)] at hT
        go_wp2
        go_ret
        exact ⟨⟨_, rfl, by simp [hT]⟩, HB.out⟩
  · have hne : ((es.length : Int) == (fs.length : Int)) = false := beq_eq_false_iff_ne.2 (by omega)
    have S4 := Lib.hid (show es ≠ fs from fun e => hl (by rw [e]))
    go_enter Tryd.func31, Tryd.ntmps31
    go_wp2
    go_ret
    exact ⟨⟨_, rfl, by simp [S4.out]⟩, Below.refl _ _⟩
end Evn
end Go.Proofs.YtbimjdlkffbncaaDoor
namespace Go.Proofs.YtbimjdlkffbncaaDoor
namespace Fl
theorem events_ok (g : List Ar.Nd) (es : List Ev.E) (he : events [g] = .ok es) : es = doc g ∧ Ar.right g = true := by
  unfold events at he
  simp only [List.any_cons, List.any_nil, Bool.or_false] at he
  split at he
  · cases he
  · rename_i h1
    split at he
    · cases he
    · cases he
      refine ⟨by simp, ?_⟩
      simpa using h1
theorem events_err (l : List (List Ar.Nd)) (k : Int) (he : events l = .error k) : k = 5 ∨ k = 13 := by
  unfold events at he
  split at he
  · cases he; exact .inl rfl
  · split at he
    · cases he; exact .inr rfl
    · cases he
theorem doc_inj (a b : List Ar.Nd) (ha : Ar.right a = true) (hb : Ar.right b = true) (h : doc a = doc b) : Ar.normal a = Ar.normal b := by
  have h1 := docs_back [a] [] Co.D.new (fun g hg => by rw [List.mem_singleton] at hg; subst hg; exact ha)
  have h2 := docs_back [b] [] Co.D.new (fun g hg => by rw [List.mem_singleton] at hg; subst hg; exact hb)
  have e : [a].flatMap doc = [b].flatMap doc := by simp [h]
  rw [e, h2] at h1
  injection h1 with h1
  simp at h1
  exact h1.symm
theorem same_doc (a b : List Ar.Nd) (ha : Ar.right a = true) (hb : Ar.right b = true) (c : Bool) (h : c = true ↔ doc a = doc b) : c = Ar.same a b := by
  rw [Bool.eq_iff_iff, h, Ar.same_iff]
  constructor
  · intro e; exact ⟨ha, doc_inj a b ha hb e⟩
  · rintro ⟨_, e⟩; unfold doc; rw [e]
end Fl
open Go.RowKit Go.Maps

set_option maxHeartbeats 8000000 in
set_option maxRecDepth 100000 in
theorem same_walk10 (va vb : Value) (a b : List Ar.Nd) (w : World) (hga : RdGo w w.heap.size va a) (hgb : RdGo w w.heap.size vb b) (hla : a.length ≤ 2199023255488) (hlb : b.length ≤ 2199023255488) (hka : ∀ x ∈ a, x.kids.length ≤ 17592186044160) (hkb : ∀ x ∈ b, x.kids.length ≤ 17592186044160) (hE : Env w) :
    Calls Tryd.prog 8 #[va, vb] w fun e w' => e = .returned (.bool true) ∧ Below w.heap.size w w' := by
  have cA := Lib.hid (flAlive_any w hE)
  have cTa := Lib.hid (fun W (hb : Below w.heap.size w W) => theirs_any va a W ((hga.below hb).mono hb.size) hla hka)
  have cHa := Lib.hid (fun W (hb : Below w.heap.size w W) => heavy_any va a W ((hga.below hb).mono hb.size) hla)
  have cTb := Lib.hid (fun W (hb : Below w.heap.size w W) => theirs_any vb b W ((hgb.below hb).mono hb.size) hlb hkb)
  have cHb := Lib.hid (fun W (hb : Below w.heap.size w W) => heavy_any vb b W ((hgb.below hb).mono hb.size) hlb)
  have HE := Lib.hid hE
  clear hE hka hkb
  obtain ⟨ga, gc, rfl, _, _⟩ := hga
  obtain ⟨gb, gd, rfl, _, _⟩ := hgb
  cases hh : Ar.heavy a
  · rw [hh] at cHa
    cases hh2 : Ar.heavy b
    · rw [hh2] at cHb
      have hL := Ar.light_of a hh
      have hM := Ar.light_of b hh2
      have hea := hL.easy
      have heb := hM.easy
      have hlen := hL.len
      have hlen2 := hM.len
      have cEa := Lib.hid (fun W v' (h : RdGG W W.heap.size v' [a]) (hE : Env W) => events_any v' [a] W h (by simp) (fun x hx => by rw [List.mem_singleton] at hx; subst hx; exact hea) hE)
      have cEb := Lib.hid (fun W v' (h : RdGG W W.heap.size v' [b]) (hE : Env W) => events_any v' [b] W h (by simp) (fun x hx => by rw [List.mem_singleton] at hx; subst hx; exact heb) hE)
      have cS := Lib.hid (fun W v' u' (h1 : RdG W W.heap.size v' a) (h2 : RdG W W.heap.size u' b) (hE : Env W) => same_any v' u' a b W h1 h2 (by omega) (by omega) hL.fine hM.fine hE)
      cases he : Fl.events [a] with
      | error k =>
        have hk := Fl.events_err _ _ he
        have hk0 : (k == 0) = false := beq_eq_false_iff_ne.2 (by omega)
        rw [he] at cEa
        cases hf : Fl.events [b] with
        | error k2 =>
          rw [hf] at cEb
          go_enter Tryd.func8, Tryd.ntmps8
          go_wp2_with fail
          refine cA.out.mono ?_
          rintro e w1 ⟨rfl, hb1⟩
          go_wp2_with fail
          refine (cHa.out w1 hb1).mono ?_
          rintro e w2 ⟨rfl, hb2⟩
          go_wp2_with fail
          refine (cHb.out w2 (bthen hb1 hb2)).mono ?_
          rintro e w3 ⟨rfl, hb3⟩
          have HB3 := Lib.hid (bthen (bthen hb1 hb2) hb3)
          clear hb1 hb2 hb3
          go_wp2_with fail
          refine (cTa.out _ HB3.out).mono ?_
          rintro e w4 ⟨⟨u4, rfl, ho4⟩, hb4⟩
          obtain ⟨ta, tc, rfl⟩ := ho4.form
          have HT4 := Lib.hid ho4.rd
          have HB4 := Lib.hid (bthen HB3.out hb4)
          clear ho4 hb4
          go_wp2_with fail
          refine (cEa.out _ _ (rd_row1 (alloc_blk w4 _) ((HT4.out.below (bnew w4 _)).mono (bnew w4 _).size) (by rw [World.size_alloc]; omega)) (HE.out.below (bthen HB4.out (bnew w4 _)))).mono ?_
          rintro e w5 ⟨rfl, hb5⟩
          have HB5 := Lib.hid (bthen (bthen HB4.out (bnew w4 _)) hb5)
          clear hb5
          go_wp2_with fail
          refine (cTb.out _ HB5.out).mono ?_
          rintro e w6 ⟨⟨u6, rfl, ho6⟩, hb6⟩
          obtain ⟨sa6, sc6, rfl⟩ := ho6.form
          have HT6 := Lib.hid ho6.rd
          have HB56 := Lib.hid hb6
          have HB6 := Lib.hid (bthen HB5.out hb6)
          clear ho6 hb6
          go_wp2_with fail
          refine (cEb.out _ _ (rd_row1 (alloc_blk w6 _) ((HT6.out.below (bnew w6 _)).mono (bnew w6 _).size) (by rw [World.size_alloc]; omega)) (HE.out.below (bthen HB6.out (bnew w6 _)))).mono ?_
          rintro e w7 ⟨rfl, hb7⟩
          go_wp2
          go_ret
          exact ⟨rfl, bthen (bthen HB6.out (bnew w6 _)) hb7⟩
        | ok fs =>
          rw [hf] at cEb
          go_enter Tryd.func8, Tryd.ntmps8
          go_wp2_with fail
          refine cA.out.mono ?_
          rintro e w1 ⟨rfl, hb1⟩
          go_wp2_with fail
          refine (cHa.out w1 hb1).mono ?_
          rintro e w2 ⟨rfl, hb2⟩
          go_wp2_with fail
          refine (cHb.out w2 (bthen hb1 hb2)).mono ?_
          rintro e w3 ⟨rfl, hb3⟩
          have HB3 := Lib.hid (bthen (bthen hb1 hb2) hb3)
          clear hb1 hb2 hb3
          go_wp2_with fail
          refine (cTa.out _ HB3.out).mono ?_
          rintro e w4 ⟨⟨u4, rfl, ho4⟩, hb4⟩
          obtain ⟨ta, tc, rfl⟩ := ho4.form
          have HT4 := Lib.hid ho4.rd
          have HB4 := Lib.hid (bthen HB3.out hb4)
          clear ho4 hb4
          go_wp2_with fail
          refine (cEa.out _ _ (rd_row1 (alloc_blk w4 _) ((HT4.out.below (bnew w4 _)).mono (bnew w4 _).size) (by rw [World.size_alloc]; omega)) (HE.out.below (bthen HB4.out (bnew w4 _)))).mono ?_
          rintro e w5 ⟨rfl, hb5⟩
          have HB5 := Lib.hid (bthen (bthen HB4.out (bnew w4 _)) hb5)
          clear hb5
          go_wp2_with fail
          refine (cTb.out _ HB5.out).mono ?_
          rintro e w6 ⟨⟨u6, rfl, ho6⟩, hb6⟩
          obtain ⟨sa6, sc6, rfl⟩ := ho6.form
          have HT6 := Lib.hid ho6.rd
          have HB56 := Lib.hid hb6
          have HB6 := Lib.hid (bthen HB5.out hb6)
          clear ho6 hb6
          go_wp2_with fail
          refine (cEb.out _ _ (rd_row1 (alloc_blk w6 _) ((HT6.out.below (bnew w6 _)).mono (bnew w6 _).size) (by rw [World.size_alloc]; omega)) (HE.out.below (bthen HB6.out (bnew w6 _)))).mono ?_
          rintro e w7 ⟨⟨u7, rfl, ho7⟩, hb7⟩
          go_wp2
          go_ret
          exact ⟨rfl, bthen (bthen HB6.out (bnew w6 _)) hb7⟩
      | ok es =>
        rw [he] at cEa
        cases hf : Fl.events [b] with
        | error k2 =>
          have hk := Fl.events_err _ _ hf
          have hk0 : (k2 == 0) = false := beq_eq_false_iff_ne.2 (by omega)
          rw [hf] at cEb
          go_enter Tryd.func8, Tryd.ntmps8
          go_wp2_with fail
          refine cA.out.mono ?_
          rintro e w1 ⟨rfl, hb1⟩
          go_wp2_with fail
          refine (cHa.out w1 hb1).mono ?_
          rintro e w2 ⟨rfl, hb2⟩
          go_wp2_with fail
          refine (cHb.out w2 (bthen hb1 hb2)).mono ?_
          rintro e w3 ⟨rfl, hb3⟩
          have HB3 := Lib.hid (bthen (bthen hb1 hb2) hb3)
          clear hb1 hb2 hb3
          go_wp2_with fail
          refine (cTa.out _ HB3.out).mono ?_
          rintro e w4 ⟨⟨u4, rfl, ho4⟩, hb4⟩
          obtain ⟨ta, tc, rfl⟩ := ho4.form
          have HT4 := Lib.hid ho4.rd
          have HB4 := Lib.hid (bthen HB3.out hb4)
          clear ho4 hb4
          go_wp2_with fail
          refine (cEa.out _ _ (rd_row1 (alloc_blk w4 _) ((HT4.out.below (bnew w4 _)).mono (bnew w4 _).size) (by rw [World.size_alloc]; omega)) (HE.out.below (bthen HB4.out (bnew w4 _)))).mono ?_
          rintro e w5 ⟨⟨u5, rfl, ho5⟩, hb5⟩
          obtain ⟨la, lc, rfl⟩ := own_slice ho5
          have HL5 := Lib.hid (rowE_rd ho5)
          have HB5 := Lib.hid (bthen (bthen HB4.out (bnew w4 _)) hb5)
          clear ho5 hb5
          go_wp2_with fail
          refine (cTb.out _ HB5.out).mono ?_
          rintro e w6 ⟨⟨u6, rfl, ho6⟩, hb6⟩
          obtain ⟨sa6, sc6, rfl⟩ := ho6.form
          have HT6 := Lib.hid ho6.rd
          have HB56 := Lib.hid hb6
          have HB6 := Lib.hid (bthen HB5.out hb6)
          clear ho6 hb6
          go_wp2_with fail
          refine (cEb.out _ _ (rd_row1 (alloc_blk w6 _) ((HT6.out.below (bnew w6 _)).mono (bnew w6 _).size) (by rw [World.size_alloc]; omega)) (HE.out.below (bthen HB6.out (bnew w6 _)))).mono ?_
          rintro e w7 ⟨rfl, hb7⟩
          go_wp2
          go_ret
          exact ⟨rfl, bthen (bthen HB6.out (bnew w6 _)) hb7⟩
        | ok fs =>
          rw [hf] at cEb
          obtain ⟨rfl, hra⟩ := Fl.events_ok a es he
          obtain ⟨rfl, hrb⟩ := Fl.events_ok b fs hf
          have hda := Fl.doc_light a hra hL
          have hdb := Fl.doc_light b hrb hM
          have hsd := Fl.same_doc a b hra hrb
          generalize Ar.same a b = sm at *
          generalize Fl.doc a = es at *
          generalize Fl.doc b = fs at *
          go_enter Tryd.func8, Tryd.ntmps8
          go_wp2_with fail
          refine cA.out.mono ?_
          rintro e w1 ⟨rfl, hb1⟩
          go_wp2_with fail
          refine (cHa.out w1 hb1).mono ?_
          rintro e w2 ⟨rfl, hb2⟩
          go_wp2_with fail
          refine (cHb.out w2 (bthen hb1 hb2)).mono ?_
          rintro e w3 ⟨rfl, hb3⟩
          have HB3 := Lib.hid (bthen (bthen hb1 hb2) hb3)
          clear hb1 hb2 hb3
          go_wp2_with fail
          refine (cTa.out _ HB3.out).mono ?_
          rintro e w4 ⟨⟨u4, rfl, ho4⟩, hb4⟩
          obtain ⟨ta, tc, rfl⟩ := ho4.form
          have HT4 := Lib.hid ho4.rd
          have HB4 := Lib.hid (bthen HB3.out hb4)
          clear ho4 hb4
          go_wp2_with fail
          refine (cEa.out _ _ (rd_row1 (alloc_blk w4 _) ((HT4.out.below (bnew w4 _)).mono (bnew w4 _).size) (by rw [World.size_alloc]; omega)) (HE.out.below (bthen HB4.out (bnew w4 _)))).mono ?_
          rintro e w5 ⟨⟨u5, rfl, ho5⟩, hb5⟩
          obtain ⟨la, lc, rfl⟩ := own_slice ho5
          have HL5 := Lib.hid (rowE_rd ho5)
          have HB5 := Lib.hid (bthen (bthen HB4.out (bnew w4 _)) hb5)
          clear ho5 hb5
          go_wp2_with fail
          refine (cTb.out _ HB5.out).mono ?_
          rintro e w6 ⟨⟨u6, rfl, ho6⟩, hb6⟩
          obtain ⟨sa6, sc6, rfl⟩ := ho6.form
          have HT6 := Lib.hid ho6.rd
          have HB56 := Lib.hid hb6
          have HB6 := Lib.hid (bthen HB5.out hb6)
          clear ho6 hb6
          go_wp2_with fail
          refine (cEb.out _ _ (rd_row1 (alloc_blk w6 _) ((HT6.out.below (bnew w6 _)).mono (bnew w6 _).size) (by rw [World.size_alloc]; omega)) (HE.out.below (bthen HB6.out (bnew w6 _)))).mono ?_
          rintro e w7 ⟨⟨u7, rfl, ho7⟩, hb7⟩
          obtain ⟨ma, mc, rfl⟩ := own_slice ho7
          have hb67 := bthen (bnew w6 _) hb7
          have HL7 := Lib.hid (((HL5.out.below HB56.out).mono HB56.out.size).below hb67 |>.mono hb67.size)
          have HM7 := Lib.hid (rowE_rd ho7)
          have HB7 := Lib.hid (bthen HB6.out hb67)
          clear ho7 hb7 hb67
          go_wp2_with fail
          refine (Evn.ours_any _ es w7 HL7.out (by omega)).mono ?_
          rintro e w8 ⟨⟨u8, rfl, ho8⟩, hb8⟩
          obtain ⟨na, nc, rfl⟩ := own_slice ho8
          have HP8 := Lib.hid (rowE_rd ho8)
          have HM8 := Lib.hid ((HM7.out.below hb8).mono hb8.size)
          have HB8 := Lib.hid (bthen HB7.out hb8)
          clear ho8 hb8
          go_wp2_with fail
          refine (Evn.ours_any _ fs w8 HM8.out (by omega)).mono ?_
          rintro e w9 ⟨⟨u9, rfl, ho9⟩, hb9⟩
          obtain ⟨qa, qc, rfl⟩ := own_slice ho9
          have HP9 := Lib.hid ((HP8.out.below hb9).mono hb9.size)
          have HQ9 := Lib.hid (rowE_rd ho9)
          have HB9 := Lib.hid (bthen HB8.out hb9)
          clear ho9 hb9
          go_wp2_with fail
          refine (Evn.sameR_any _ _ es fs w9 HP9.out HQ9.out (by omega) (by omega)).mono ?_
          rintro e w10 ⟨⟨bb, rfl, hbb⟩, hb10⟩
          obtain rfl := hsd bb hbb
          have HB10 := Lib.hid (bthen HB9.out hb10)
          clear hb10
          go_wp2_with fail
          refine (cTa.out _ HB10.out).mono ?_
          rintro e w11 ⟨⟨u11, rfl, ho11⟩, hb11⟩
          obtain ⟨ra, rc, rfl⟩ := ho11.form
          have HT11 := Lib.hid ho11.rd
          have HB11 := Lib.hid (bthen HB10.out hb11)
          clear ho11 hb11
          go_wp2_with fail
          refine (cTb.out _ HB11.out).mono ?_
          rintro e w12 ⟨⟨u12, rfl, ho12⟩, hb12⟩
          obtain ⟨sa, sc, rfl⟩ := ho12.form
          have HU12 := Lib.hid ho12.rd
          have HT12 := Lib.hid ((HT11.out.below hb12).mono hb12.size)
          have HB12 := Lib.hid (bthen HB11.out hb12)
          clear ho12 hb12
          go_wp2_with fail
          refine (cS.out _ _ _ HT12.out HU12.out (HE.out.below HB12.out)).mono ?_
          rintro e w13 ⟨rfl, hb13⟩
          go_wp2
          go_ret
          exact ⟨ret_bool (by simp), bthen HB12.out hb13⟩
    · rw [hh2] at cHb
      go_enter Tryd.func8, Tryd.ntmps8
      go_wp2_with fail
      refine cA.out.mono ?_
      rintro e w1 ⟨rfl, hb1⟩
      go_wp2_with fail
      refine (cHa.out w1 hb1).mono ?_
      rintro e w2 ⟨rfl, hb2⟩
      go_wp2_with fail
      refine (cHb.out w2 (bthen hb1 hb2)).mono ?_
      rintro e w3 ⟨rfl, hb3⟩
      go_wp2
      go_ret
      exact ⟨rfl, bthen (bthen hb1 hb2) hb3⟩
  · rw [hh] at cHa
    go_enter Tryd.func8, Tryd.ntmps8
    go_wp2_with fail
    refine cA.out.mono ?_
    rintro e w1 ⟨rfl, hb1⟩
    go_wp2_with fail
    refine (cHa.out w1 hb1).mono ?_
    rintro e w2 ⟨rfl, hb2⟩
    go_wp2
    go_ret
    exact ⟨rfl, bthen hb1 hb2⟩
end Go.Proofs.YtbimjdlkffbncaaDoor
