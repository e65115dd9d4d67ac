/-
  What the laws do first; the walk of ArenaSum.
-/
import Derived.Test.YtnlbnnnhmdjciaaDoorAq
namespace Go.Proofs.YtnlbnnnhmdjciaaDoor
namespace Ar
/-- what is not too heavy -/
structure Light (g : List Nd) : Prop where
  len : g.length ≤ 120
  each : ∀ x ∈ g, x.kids.length ≤ 200 ∧ x.text.length ≤ 2000 ∧ x.tag.length ≤ 2000
theorem light_of (g : List Nd) (h : heavy g = false) : Light g := by
  unfold heavy at h
  rw [Bool.or_eq_false_iff, decide_eq_false_iff_not] at h
  refine ⟨by omega, fun x hx => ?_⟩
  have := List.any_eq_false.1 h.1 x hx
  simp only [Bool.or_eq_true, decide_eq_true_eq, not_or] at this
  omega
theorem Light.fine {g : List Nd} (h : Light g) : ∀ x ∈ g, Fine x := fun x hx => by
  have := h.each x hx
  exact ⟨by omega, by omega, by omega⟩
theorem Light.small {g : List Nd} (h : Light g) : ∀ x ∈ g, x.tag.length ≤ 50000 ∧ x.text.length ≤ 50000 := fun x hx => by
  have := h.each x hx
  exact ⟨by omega, by omega⟩
theorem Light.total {g : List Nd} (h : Light g) : Ar.total g ≤ 24000 := by
  have h1 := total_le g 200 (fun x hx => (h.each x hx).1)
  have h2 := h.len
  have : g.length * 200 ≤ 120 * 200 := Nat.mul_le_mul_right _ h2
  omega
end Ar
open Go.RowKit Go.Maps
theorem drop_sum (l : List Int) (j : Nat) (h : j < l.length) : (l.drop j).sum = l[j] + (l.drop (j + 1)).sum := by
  rw [List.drop_eq_getElem_cons h, List.sum_cons]
theorem drop_total (g : List Ar.Nd) (j : Nat) (h : j < g.length) : Ar.total (g.drop j) = g[j].kids.length + Ar.total (g.drop (j + 1)) := by
  rw [List.drop_eq_getElem_cons h, Ar.total_cons]

set_option maxHeartbeats 8000000 in
set_option maxRecDepth 100000 in
theorem sum_walk (v : Value) (g : List Ar.Nd) (w : World) (hg : RdGo w w.heap.size v g) (hgl : g.length ≤ 2199023255488) (hfk : ∀ x ∈ g, x.kids.length ≤ 17592186044160) (hE : Env w) :
    Calls Tryd.prog 7 #[v] w fun e w' => e = .returned (.bool true) ∧ Below w.heap.size w w' := by
  have cA := Lib.hid (arAlive_any w hE)
  have cT := Lib.hid (fun W (hb : Below w.heap.size w W) => theirs_any v g W ((hg.below hb).mono hb.size) hgl hfk)
  have cH := Lib.hid (fun W (hb : Below w.heap.size w W) => heavy_any v g W ((hg.below hb).mono hb.size) hgl)
  have HE := Lib.hid hE
  clear hE hfk
  obtain ⟨ga, gc, rfl, _, _⟩ := hg
  go_enter Tryd.func7, Tryd.ntmps7
  go_wp2_with fail
  refine cA.out.mono ?_
  rintro e w1 ⟨rfl, hb1⟩
  go_wp2_with fail
  refine (cT.out w1 hb1).mono ?_
  rintro e w2 ⟨⟨u, rfl, hu⟩, hb2⟩
  have hb12 := bthen hb1 hb2
  obtain ⟨ua, uc, rfl⟩ := hu.form
  have HU := Lib.hid hu
  clear hu
  cases hh : Ar.heavy g
  · have hL := Ar.light_of g hh
    rw [hh] at cH
    have cR := Lib.hid (fun W (hb : Below w2.heap.size w2 W) => right_any _ g W ((HU.out.rd.below hb).mono hb.size) (by have := hL.len; omega) hL.fine (HE.out.below (bthen hb12 hb)))
    have cI := Lib.hid (fun W (hb : Below w2.heap.size w2 W) => ins_any _ g W ((HU.out.rd.below hb).mono hb.size) (by have := hL.len; omega) hL.fine (HE.out.below (bthen hb12 hb)))
    have cO := Lib.hid (fun W (hb : Below w2.heap.size w2 W) => order_any _ g W ((HU.out.rd.below hb).mono hb.size) (by have := hL.len; omega) hL.fine (HE.out.below (bthen hb12 hb)))
    have HLT := Lib.hid hL.total
    have hlen := hL.len
    have HK := Lib.hid (fun x hx => (hL.each x hx).1)
    clear hL
    go_wp2_with fail
    refine (cH.out w2 hb12).mono ?_
    rintro e w3 ⟨rfl, hb3⟩
    cases hr : Ar.right g
    · rw [hr] at cR
      go_wp2_with fail
      refine (cR.out w3 hb3).mono ?_
      rintro e w4 ⟨rfl, hb4⟩
      go_wp2
      go_ret
      exact ⟨rfl, bthen (bthen hb12 hb3) hb4⟩
    · rw [hr] at cR
      have hOI := Ar.order_ins g hr
      have hIL := Ar.ins_len g hr
      have hIS := Ar.ins_sum g hr
      have hIB := Ar.ins_bd g hr
      have hNB := Ar.order_nb g
      have hOL := hNB.len
      generalize Ar.ins g = IN at *
      generalize Ar.order g = OR at *
      have HOI := Lib.hid hOI
      have HIB := Lib.hid hIB
      have HNB := Lib.hid hNB
      have HIL := Lib.hid hIL
      obtain ⟨SUM, hSUM⟩ : ∃ SUM : Int, (Ar.total g : Int) = SUM := ⟨_, rfl⟩
      rw [hSUM] at hIS
      have HS1 : Hid ((0 : Int) + (IN.drop 0).sum = SUM) := by show _ = _; rw [List.drop_zero, hIS, Int.zero_add]
      have HS2 : Hid ((0 : Int) + (Ar.total (g.drop 0) : Int) = SUM) := by show _ = _; rw [List.drop_zero, hSUM, Int.zero_add]
      clear hOI hIB hNB hIS hSUM
      go_wp2_with fail
      refine (cR.out w3 hb3).mono ?_
      rintro e w4 ⟨rfl, hb4⟩
      have hb24 := bthen hb3 hb4
      go_wp2_with fail
      refine (cI.out w4 hb24).mono ?_
      rintro e w5 ⟨⟨ui, rfl, hui⟩, hb5⟩
      have HB5 := Lib.hid (bthen hb24 hb5)
      have HI := Lib.hid hui
      obtain ⟨ia, ic, rfl, _, _⟩ := hui
      rw [hIL]
      clear hb3 hb4 hb24 hb5 cR cH cA cT cI
      have HUR := Lib.hid (HU.out.rd)
      go_wp2
      go_loopg [4, 5, 26] g.length (fun q sv av i wr => ∃ (j : Nat) (s a : Int), j ≤ g.length ∧ q = g.length - j ∧ sv = .int .i64 s ∧ av = .int .i64 a ∧ i = .int .i64 j ∧ 0 ≤ s ∧ s ≤ 24000 * (j : Int) ∧ 0 ≤ a ∧ a ≤ 200 * (j : Int) ∧ Hid (s + (IN.drop j).sum = SUM) ∧ Hid (a + (Ar.total (g.drop j) : Int) = SUM) ∧ Hid (Below w5.heap.size w5 wr))
      case atStart => exact ⟨0, 0, 0, by omega, by omega, rfl, rfl, rfl, by omega, by omega, by omega, by omega, HS1, HS2, Lib.hid (Below.refl _ _)⟩
      case round =>
        obtain ⟨j, s, a, hj, rfl, rfl, rfl, rfl, hs0, hs1, ha0, ha1, H1, H2, HB⟩ := hrel
        clear HS1 HS2
        by_cases hlt : j < g.length
        · have hIj : j < IN.length := by have := HIL.out; omega
          have h1 := H1.out
          have h2 := H2.out
          rw [drop_sum IN j hIj, ← Int.add_assoc] at h1
          rw [drop_total g j hlt] at h2
          have hin := HIB.out _ (List.getElem_mem hIj)
          have htot := HLT.out
          have hk2 := HK.out _ (List.getElem_mem hlt)
          obtain ⟨_, _, hv, _, hcl⟩ := (HI.out.mono (Nat.le_refl _)).below HB.out
          simp only [Value.slice.injEq] at hv
          obtain ⟨rfl, hqq, rfl⟩ := hv
          clear hqq
          obtain ⟨ig, io, rfl, hig, hcl⟩ := hcl (by omega)
          have hcj := hcl j hIj
          clear hcl
          obtain ⟨_, _, hv, _, hcl⟩ := HUR.out.below ((bthen HB5.out HB.out).mono (Nat.le_refl _))
          cases hv
          obtain ⟨gg, rfl, hgg, hcl⟩ := hcl (by omega)
          obtain ⟨n0, n1, n2, ⟨ka, kc, n3, n4⟩⟩ := hcl j hlt
          clear hcl n4 H1 H2
          generalize g[j] = x at *
          generalize IN[j] = y at *
          have hcj' := ((bnew wr (.cells #[.int .i64 x.kind, .string (str x.tag), .string (str x.text), .slice ka x.kids.length kc] 37)).cell (p := ⟨ig, io + j, none⟩) (Nat.lt_of_lt_of_le hig HB.out.size)).trans hcj
          have hb6 := HB.out.alloc HB.out.size (.cells #[.int .i64 x.kind, .string (str x.tag), .string (str x.text), .slice ka x.kids.length kc] 37)
          have h2' : (a + (x.kids.length : Int)) + (Ar.total (g.drop (j + 1)) : Int) = SUM := by rw [← h2]; omega
          have H1 := Lib.hid h1
          have H2 := Lib.hid h2'
          have hy : y ≤ 24000 := by omega
          clear h1 h2 h2'
          go_wp2
          go_roundg (g.length - (j + 1))
          case measure => omega
          case rel => exact ⟨j + 1, s + y, a + x.kids.length, by omega, rfl, by go_num, by go_num, by go_num, by omega, by omega, by omega, by omega, H1, H2, Lib.hid hb6⟩
        · have hje : j = g.length := by omega
          have h1 := H1.out
          have h2 := H2.out
          rw [List.drop_eq_nil_of_le (by have := HIL.out; omega), List.sum_nil, Int.add_zero] at h1
          rw [List.drop_eq_nil_of_le (by omega)] at h2
          have h2 : a + ((0 : Nat) : Int) = SUM := h2
          have hsa : s = a := by omega
          subst hsa
          clear h1 h2 H1 H2
          go_wp2_with fail
          refine (cO.out wr (bthen HB5.out HB.out)).mono ?_
          rintro e w6 ⟨⟨uo, rfl, huo⟩, hb6⟩
          have HB6 := Lib.hid (bthen HB.out hb6)
          have HO := Lib.hid huo
          obtain ⟨oa, oc, rfl, _, _⟩ := huo
          rw [nats_len] at *
          have hz6 := Lib.hid hb6
          clear hb6 HB
          go_wp2
          obtain ⟨wo, hwo⟩ : ∃ wo, wo = wr := ⟨_, rfl⟩
          subst hwo
          go_loopg [46] OR.length (fun q i wr => ∃ (m : Nat), m ≤ OR.length ∧ q = OR.length - m ∧ i = .int .i64 m ∧ Hid (Below w6.heap.size w6 wr))
          case atStart => exact ⟨0, by omega, by omega, rfl, Lib.hid (Below.refl _ _)⟩
          case round =>
            obtain ⟨m, hm, rfl, rfl, HB⟩ := hrel
            by_cases hmt : m < OR.length
            · obtain ⟨_, _, hv, _, hcl⟩ := HO.out.below HB.out
              simp only [Value.slice.injEq] at hv
              obtain ⟨rfl, hqq, rfl⟩ := hv
              clear hqq
              obtain ⟨og, oo, rfl, _, hcl⟩ := hcl (by rw [nats_len]; omega)
              have hom := hcl m (by rw [nats_len]; omega)
              rw [nats_at OR m hmt] at hom
              have hoi := HOI.out _ (List.getElem_mem hmt)
              have hlt3 := HNB.out.2 _ (List.getElem_mem hmt)
              clear hcl
              generalize OR[m] = y at *
              have hIy : y < IN.length := by have := HIL.out; omega
              obtain ⟨_, _, hv, _, hcl⟩ := HI.out.below (bthen HB6.out HB.out)
              simp only [Value.slice.injEq] at hv
              obtain ⟨rfl, hqq, rfl⟩ := hv
              clear hqq
              obtain ⟨ig, io, rfl, hig, hcl⟩ := hcl (by omega)
              have hcy := hcl y hIy
              clear hcl
              rw [List.getD_eq_getElem?_getD, List.getElem?_eq_getElem hIy, Option.getD_some] at hoi
              generalize IN[y] = z at *
              by_cases hy0 : 0 < y
              · have hz : (z == 0) = false := beq_eq_false_iff_ne.2 (hoi hy0)
                have hd : decide ((0 : Int) < (y : Int)) = true := decide_eq_true (by omega)
                clear hoi
                go_wp2
                go_roundg (OR.length - (m + 1))
                case measure => omega
                case rel => exact ⟨m + 1, by omega, rfl, by go_num, HB⟩
              · have hd : decide ((0 : Int) < (y : Int)) = false := decide_eq_false (by omega)
                clear hoi
                go_wp2
                go_roundg (OR.length - (m + 1))
                case measure => omega
                case rel => exact ⟨m + 1, by omega, rfl, by go_num, HB⟩
            · go_wp2
              go_ret
              exact ⟨rfl, bthen hb12 (bthen HB5.out (bthen HB6.out HB.out))⟩
  · rw [hh] at cH
    go_wp2_with fail
    refine (cH.out w2 hb12).mono ?_
    rintro e w3 ⟨rfl, hb3⟩
    go_wp2
    go_ret
    exact ⟨rfl, bthen hb12 hb3⟩
end Go.Proofs.YtnlbnnnhmdjciaaDoor
