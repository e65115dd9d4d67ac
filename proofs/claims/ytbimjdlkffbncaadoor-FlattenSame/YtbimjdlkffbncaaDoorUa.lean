/-
  Rows of events that are read; walks of event: Depth, isNode, Nodes.
-/
import Derived.Test.YtbimjdlkffbncaaDoorVa
import Derived.Test.YtbimjdlkffbncaaDoorUl
import Derived.Test.YtbimjdlkffbncaaDoorXe
namespace Go.Proofs.YtbimjdlkffbncaaDoor
namespace Evn
open Go.RowKit

set_option maxHeartbeats 2000000 in
set_option maxRecDepth 100000 in
theorem depth_any (v : Value) (es : List Ev.E) (w : World) (h : RdE w w.heap.size v es) (hl : es.length ≤ 1000000) :
    Calls Tryd.prog 35 #[v] w fun e w' => e = .returned (.int .i64 (Ev.dmax (Ev.kinds es))) ∧ Below w.heap.size w w' := by
  obtain ⟨a, c, rfl, hc, hcl⟩ := h
  obtain ⟨ANS, hANS⟩ : ∃ ANS, Ev.dmax (Ev.kinds es) = ANS := ⟨_, rfl⟩
  rw [hANS]
  have HA : Hid (Ev.depthGo 0 0 ((Ev.kinds es).drop 0) = ANS) := by show _ = _; rw [List.drop_zero, Ev.depthGo_zero, hANS]
  have HC := Lib.hid hcl
  clear hANS hcl
  go_enter Tryd.func35, Tryd.ntmps35
  go_wp2
  go_loopw [3, 4, 9] (fun dv mv i wr => ∃ (j : Nat) (d m : Int), j ≤ es.length ∧ dv = .int .i64 d ∧ mv = .int .i64 m ∧ i = .int .i64 j ∧ Hid (Ev.depthGo d m ((Ev.kinds es).drop j) = ANS) ∧ -(j : Int) ≤ d ∧ d ≤ j ∧ Below w.heap.size w wr) (fun _ _ i _ => es.length - (intOf i).toNat)
  case atStart => exact ⟨0, 0, 0, by omega, rfl, rfl, rfl, HA, by omega, by omega, Below.refl _ _⟩
  case round =>
    obtain ⟨j, d, m, hj, rfl, rfl, rfl, HK, hd1, hd2, hbw⟩ := hrel
    clear HA
    have hBr := hbw.size
    by_cases hlt : j < es.length
    · obtain ⟨g, o, rfl, hg, hcl⟩ := HC.out (by omega)
      obtain ⟨c0, c1, c2, c3, c4⟩ := (hcl j hlt).below hbw hg
      have hK := HK.out
      rw [Ev.kinds_drop es j hlt] at hK
      unfold Ev.depthGo at hK
      clear hcl HK
      generalize es[j].kind = k at *
      generalize es[j] = x at *
      by_cases k2 : k = 2 ∨ k = 4
      · have e : Ev.dstep k = 1 := if_pos k2
        rw [e] at hK
        have HK := Lib.hid hK
        clear hK e
        rcases k2 with rfl | rfl
        all_goals go_wp2
        all_goals go_roundw
        case rel => exact ⟨j + 1, d + 1, max m (d + 1), by omega, by go_num, by go_num, by go_num, HK, by omega, by omega, hbw.alloc hBr _⟩
        case measure => simp [intOf]; omega
        case rel => exact ⟨j + 1, d + 1, max m (d + 1), by omega, by go_num, by go_num, by go_num, HK, by omega, by omega, hbw.alloc hBr _⟩
        case measure => simp [intOf]; omega
      · by_cases k3 : k = 3 ∨ k = 5
        · have e : Ev.dstep k = -1 := by unfold Ev.dstep; rw [if_neg k2, if_pos k3]
          rw [e] at hK
          have HK := Lib.hid hK
          clear hK e k2
          rcases k3 with rfl | rfl
          all_goals go_wp2
          all_goals go_roundw
          case rel => exact ⟨j + 1, d - 1, max m (d - 1), by omega, by go_num, by go_num, by go_num, HK, by omega, by omega, hbw.alloc hBr _⟩
          case measure => simp [intOf]; omega
          case rel => exact ⟨j + 1, d - 1, max m (d - 1), by omega, by go_num, by go_num, by go_num, HK, by omega, by omega, hbw.alloc hBr _⟩
          case measure => simp [intOf]; omega
        · have e : Ev.dstep k = 0 := by unfold Ev.dstep; rw [if_neg k2, if_neg k3]
          rw [e, Int.add_zero] at hK
          have HK := Lib.hid hK
          have b2 : (k == 2) = false := beq_eq_false_iff_ne.2 (by omega)
          have b3 : (k == 3) = false := beq_eq_false_iff_ne.2 (by omega)
          have b4 : (k == 4) = false := beq_eq_false_iff_ne.2 (by omega)
          have b5 : (k == 5) = false := beq_eq_false_iff_ne.2 (by omega)
          clear hK e k2 k3
          go_wp2
          go_roundw
          case rel => exact ⟨j + 1, d, max m d, by omega, by go_num, by go_num, by go_num, HK, by omega, by omega, hbw.alloc hBr _⟩
          case measure => simp [intOf]; omega
    · have hje : j = es.length := by omega
      subst hje
      have HD : Hid (m = ANS) := by
        have h := HK.out
        rw [List.drop_of_length_le (by rw [Ev.kinds_len]; exact Nat.le_refl _)] at h
        exact h
      clear HK
      go_wp2
      go_ret
      exact ⟨ret_int HD.out, hbw⟩

set_option maxHeartbeats 1000000 in
theorem isNode_any (k : Int) (w : World) :
    Calls Tryd.prog 54 #[.int .i64 k] w fun e w' => e = .returned (.bool (Ev.isNode k)) ∧ w = w' := by
  go_enter Tryd.func54, Tryd.ntmps54
  go_wp2
  all_goals go_ret
  all_goals exact ⟨ret_bool (by unfold Ev.isNode; rw [Bool.eq_iff_iff]; first | (simp at *; omega) | simp at *), rfl⟩

set_option maxHeartbeats 2000000 in
set_option maxRecDepth 100000 in
theorem nodes_any (v : Value) (es : List Ev.E) (w : World) (h : RdE w w.heap.size v es) (hl : es.length ≤ 1000000) :
    Calls Tryd.prog 25 #[v] w fun e w' => e = .returned (.int .i64 (Ev.nodesOf (Ev.kinds es) : Nat)) ∧ Below w.heap.size w w' := by
  obtain ⟨a, c, rfl, hc, hcl⟩ := h
  obtain ⟨ANS, hANS⟩ : ∃ ANS, Ev.nodesOf (Ev.kinds es) = ANS := ⟨_, rfl⟩
  rw [hANS]
  have HA : Hid (0 + Ev.nodesOf ((Ev.kinds es).drop 0) = ANS) := by show _ = _; rw [List.drop_zero, Nat.zero_add, hANS]
  have HC := Lib.hid hcl
  clear hANS hcl
  go_enter Tryd.func25, Tryd.ntmps25
  go_wp2
  go_loopw [3, 8] (fun nv i wr => ∃ (j n : Nat), j ≤ es.length ∧ nv = .int .i64 n ∧ i = .int .i64 j ∧ Hid (n + Ev.nodesOf ((Ev.kinds es).drop j) = ANS) ∧ n ≤ j ∧ Below w.heap.size w wr) (fun _ i _ => es.length - (intOf i).toNat)
  case atStart => exact ⟨0, 0, by omega, rfl, rfl, HA, by omega, Below.refl _ _⟩
  case round =>
    obtain ⟨j, n, hj, rfl, rfl, HK, hn, hbw⟩ := hrel
    clear HA
    have hBr := hbw.size
    by_cases hlt : j < es.length
    · obtain ⟨g, o, rfl, hg, hcl⟩ := HC.out (by omega)
      obtain ⟨c0, c1, c2, c3, c4⟩ := (hcl j hlt).below hbw hg
      have hK := HK.out
      rw [Ev.kinds_drop es j hlt] at hK
      unfold Ev.nodesOf at hK
      rw [List.countP_cons] at hK
      clear hcl HK
      generalize es[j].kind = k at *
      generalize es[j] = x at *
      have cN := Lib.hid (fun w => isNode_any k w)
      cases hn1 : Ev.isNode k
      · rw [hn1] at cN
        rw [hn1, if_neg (by decide)] at hK
        have HK : Hid (n + Ev.nodesOf ((Ev.kinds es).drop (j + 1)) = ANS) := by show _ = _; unfold Ev.nodesOf; omega
        clear hK hn1
        go_wp2_with (go_at_call 54; refine (cN.out _).mono ?_; rintro e w' ⟨rfl, rfl⟩)
        go_roundw
        case rel => exact ⟨j + 1, n, by omega, by go_num, by go_num, HK, by omega, hbw.alloc hBr _⟩
        case measure => simp [intOf]; omega
      · rw [hn1] at cN
        rw [hn1, if_pos rfl] at hK
        have HK : Hid (n + 1 + Ev.nodesOf ((Ev.kinds es).drop (j + 1)) = ANS) := by show _ = _; unfold Ev.nodesOf; omega
        clear hK hn1
        go_wp2_with (go_at_call 54; refine (cN.out _).mono ?_; rintro e w' ⟨rfl, rfl⟩)
        go_roundw
        case rel => exact ⟨j + 1, n + 1, by omega, by go_num, by go_num, HK, by omega, hbw.alloc hBr _⟩
        case measure => simp [intOf]; omega
    · have hje : j = es.length := by omega
      subst hje
      have HD : Hid ((n : Int) = (ANS : Nat)) := by
        have h := HK.out
        rw [List.drop_of_length_le (by rw [Ev.kinds_len]; exact Nat.le_refl _)] at h
        show _ = _
        rw [← h]; rfl
      clear HK
      go_wp2
      go_ret
      exact ⟨ret_int HD.out, hbw⟩
end Evn
end Go.Proofs.YtbimjdlkffbncaaDoor
