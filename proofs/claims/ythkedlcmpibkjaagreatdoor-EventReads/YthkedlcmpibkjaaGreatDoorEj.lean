/-
  The walk of event.Print.
-/
import Derived.Test.YthkedlcmpibkjaaGreatDoorEi
namespace Go.Proofs.YthkedlcmpibkjaaGreatDoor
namespace Ev
def lineN (x : E) : List UInt8 := line x ++ [10]
/-- events as lines -/
def print (es : List E) : List UInt8 := if right es then es.flatMap lineN else []
theorem right_kinds (es : List E) (h : right es = true) : ∀ x ∈ es, 0 ≤ x.kind ∧ x.kind < 8 := by
  intro x hx
  unfold right at h
  simp only [Bool.and_eq_true] at h
  have := run_kinds _ _ _ ((nested_iff _).1 h.2.2) x.kind (by unfold kinds; exact List.mem_map.2 ⟨x, hx, rfl⟩)
  omega
theorem line_len (x : E) (h : Small x) : (line x).length ≤ 700000 := by
  obtain ⟨h1, h2, h3⟩ := h
  unfold line anchorW tagW textW
  have a := sign_len x.kind.toNat
  have b := word_len x.tag
  have c := quote_len x.text
  split
  · simp only [List.length_append, List.length_cons, List.length_nil]; omega
  · repeat' split
    all_goals simp only [List.length_append, List.length_cons, List.length_nil]
    all_goals omega
theorem flat_drop (es : List E) (j : Nat) (h : j < es.length) : (es.drop j).flatMap lineN = lineN es[j] ++ (es.drop (j + 1)).flatMap lineN := by
  rw [List.drop_eq_getElem_cons h, List.flatMap_cons]
end Ev
open Go.RowKit

set_option maxHeartbeats 4000000 in
set_option maxRecDepth 100000 in
theorem print_any (v : Value) (es : List Ev.E) (w : World) (h : RdE w w.heap.size v es) (hl : es.length ≤ 100000) (hs : ∀ x ∈ es, Ev.Small x) (hE : Env w) :
    Calls Tryz.prog 10 #[v] w fun e w' => e = .returned (.string (str (Ev.print es))) ∧ Below w.heap.size w w' := by
  have HR := Lib.hid h
  obtain ⟨a, c, rfl, hc, hcl⟩ := h
  have HC := Lib.hid hcl
  have HS := Lib.hid hs
  have HE := Lib.hid hE
  have cR := Lib.hid (right_any _ es w HR.out (by omega) hs hE)
  clear hs hcl
  have h5 := hE.size
  clear hE
  unfold Ev.print
  cases hr : Ev.right es
  · rw [hr] at cR
    rw [if_neg (by decide)]
    clear hr
    go_enter Tryz.func10, Tryz.ntmps10
    go_wp2_with (go_at_call 9; refine cR.out.mono ?_; rintro e w1 ⟨rfl, hb1⟩)
    go_ret
    exact ⟨rfl, hb1⟩
  · rw [hr] at cR
    rw [if_pos rfl]
    have HKD := Lib.hid (Ev.right_kinds es hr)
    clear hr
    obtain ⟨ANS, hANS⟩ : ∃ ANS, es.flatMap Ev.lineN = ANS := ⟨_, rfl⟩
    rw [hANS]
    have HA : Hid ([] ++ (es.drop 0).flatMap Ev.lineN = ANS) := by show _ = _; rw [List.drop_zero, List.nil_append, hANS]
    clear hANS
    go_enter Tryz.func10, Tryz.ntmps10
    go_wp2_with (go_at_call 9; refine cR.out.mono ?_; rintro e w1 ⟨rfl, hb1⟩)
    go_loopw [3, 11] (fun ov i wr => ∃ (j : Nat) (b : List UInt8), j ≤ es.length ∧ i = .int .i64 j ∧ Own wr w.heap.size ov b ∧ Hid (b ++ (es.drop j).flatMap Ev.lineN = ANS) ∧ b.length ≤ 700001 * j ∧ Below w.heap.size w wr) (fun _ i _ => es.length - (intOf i).toNat)
    case atStart => exact ⟨0, [], by omega, rfl, own_nil _ _, HA, by simp, hb1⟩
    case round =>
      obtain ⟨j, b, hj, rfl, hown, HK, hbl, hbw⟩ := hrel
      clear HA
      have hBr := hbw.size
      obtain ⟨va, vc, rfl⟩ := own_slice hown
      have HO := Lib.hid hown
      by_cases hlt : j < es.length
      · obtain ⟨g, o, rfl, hg, hcl⟩ := HC.out (by omega)
        obtain ⟨c0, c1, c2, c3, c4⟩ := (hcl j hlt).below hbw hg
        have hK := HK.out
        rw [Ev.flat_drop es j hlt] at hK
        have hxs := HS.out es[j] (List.getElem_mem hlt)
        have hxk := HKD.out es[j] (List.getElem_mem hlt)
        have hll := Ev.line_len es[j] hxs
        clear hcl HK hown
        generalize es[j] = x at *
        obtain ⟨s1, s2, s3⟩ := hxs
        have HN : Hid ((b ++ Ev.line x) ++ [10] ++ (es.drop (j + 1)).flatMap Ev.lineN = ANS) := by
          show _ = _
          rw [← hK]; unfold Ev.lineN; simp
        have HO1 := Lib.hid (own_alloc HO.out (.cells #[.int .i64 x.kind, .string (str x.anchor), .string (str x.tag), .string (str x.text), .bool x.plain] 34))
        have cA := Lib.hid (appendEvent_any w.heap.size _ b x _ hxk.1 hxk.2 HO1.out (by rw [World.size_alloc]; omega) (by omega) s1 s2 s3 h5 ((HE.out.below hbw).below (bnew wr _)))
        clear hK hxk s1 s2 s3
        go_wp2_with (first
          | (go_at_call 19; refine cA.out.mono ?_; rintro e w2 ⟨v2, rfl, ho2, hb2⟩; have hz2 : w.heap.size ≤ w2.heap.size := (by have := hb2.size; rw [World.size_alloc] at this; omega))
          | (at_builtin; refine wpList_addB rfl (.tmp 17) (.tmp 18) rfl w.heap.size v2 (b ++ Ev.line x) 10 w2.heap.size _ rfl rfl ?hg ?o1 ?l1 ?b1 ?_; (case hg => exact alloc_blk w2 _); (case o1 => exact own_alloc ho2 _); (case l1 => rw [List.length_append]; omega); (case b1 => rw [World.size_alloc]; omega); intro v3 w3 ho3 hk3))
        go_roundw
        case rel => exact ⟨j + 1, b ++ Ev.line x ++ [10], by omega, by go_num, ho3, HN, by simp only [List.length_append, List.length_cons, List.length_nil]; omega, (((hbw.alloc hBr _).trans hb2).alloc hz2 _).trans hk3.1⟩
        case measure => simp [intOf]; omega
      · have hje : j = es.length := by omega
        subst hje
        have hK := HK.out
        rw [List.drop_of_length_le (Nat.le_refl _), List.flatMap_nil, List.append_nil] at hK
        subst hK
        have hcv := own_string hown
        clear hown HK
        go_wp2
        go_ret
        exact ⟨rfl, hbw⟩
end Go.Proofs.YthkedlcmpibkjaaGreatDoor
