/-
  Walks of arena: isNode, isTagOf, inPairs.
-/
import Derived.Test.YtbimjdlkffbncaaDoorAa
import Derived.Test.YtbimjdlkffbncaaDoorWf
namespace Go.Proofs.YtbimjdlkffbncaaDoor
open Go.RowKit

theorem isNode_any (a : Option Addr) (n c : Nat) (k : Int) (w : World) :
    Calls Tryd.prog 85 #[.slice a n c, .int .i64 k] w fun e w' => e = .returned (.bool (Ar.isNode n k)) ∧ w = w' := by
  unfold Ar.isNode
  by_cases h : 0 ≤ k
  · rw [show decide (0 ≤ k) = true from decide_eq_true h, Bool.true_and]
    go_enter Tryd.func85, Tryd.ntmps85
    go_wp2
    go_ret
    exact ⟨rfl, rfl⟩
  · rw [show decide (0 ≤ k) = false from decide_eq_false h, Bool.false_and]
    go_enter Tryd.func85, Tryd.ntmps85
    go_wp2
    go_ret
    exact ⟨rfl, rfl⟩

theorem isTagOf_any (c t : ByteArray) (w : World) (ht : t.size ≤ 1000000) :
    Calls Tryd.prog 87 #[.string c, .string t] w fun e w' => e = .returned (.bool (Ar.isTagOf c.data.toList t.data.toList)) ∧ Below w.heap.size w w' := by
  unfold Ar.isTagOf
  have cR := Tag.right_any t w ht
  have cC := fun w => Tag.core_any t w
  cases h1 : (t.data.toList == c.data.toList)
  · have h1' : (t.toList == c.toList) = false := by rw [Lib.toList_data, Lib.toList_data]; exact h1
    cases h2 : Tg.right t.data.toList
    · rw [h2] at cR
      clear h1 h2
      go_enter Tryd.func87, Tryd.ntmps87
      go_wp2_with fail
      refine cR.mono ?_
      rintro e w1 ⟨rfl, hb⟩
      go_wp2
      go_ret
      exact ⟨rfl, hb⟩
    · rw [h2] at cR
      generalize Tg.core t.data.toList = X at *
      clear h1 h2
      go_enter Tryd.func87, Tryd.ntmps87
      go_wp2_with fail
      refine cR.mono ?_
      rintro e w1 ⟨rfl, hb⟩
      go_wp2_with fail
      refine (cC _).mono ?_
      rintro e w2 ⟨rfl, rfl⟩
      go_wp2
      go_ret
      exact ⟨rfl, hb⟩
  · have h1' : (t.toList == c.toList) = true := by rw [Lib.toList_data, Lib.toList_data]; exact h1
    clear h1
    go_enter Tryd.func87, Tryd.ntmps87
    go_wp2
    go_ret
    exact ⟨by simp, Below.refl _ _⟩

/-- the keys from a place on -/
theorem pairs_step (g : List Ar.Nd) (ks : List Int) (j : Nat) (h : j + 1 < ks.length) : Ar.pairs g (ks.drop j) = (((Ar.at' g (ks[j]'(by omega))).kind == 0) && Ar.pairs g (ks.drop (j + 2))) := by
  rw [List.drop_eq_getElem_cons (by omega), List.drop_eq_getElem_cons h]; rfl

set_option maxHeartbeats 1000000 in
theorem inPairs_any (v u : Value) (g : List Ar.Nd) (ks : List Int) (B : Nat) (w : World) (hg : RdG w B v g) (hk : RdI w B u ks) (hn : ks.length ≤ 1000000) (hall : ks.all (Ar.isNode g.length) = true) :
    Calls Tryd.prog 88 #[v, u] w fun e w' => e = .returned (.bool (Ar.pairs g ks)) ∧ w = w' := by
  obtain ⟨ANS, hANS⟩ : ∃ ANS, Ar.pairs g ks = ANS := ⟨_, rfl⟩
  rw [hANS]
  have HA := Lib.hid hANS
  have HG := Lib.hid hg
  have HK := Lib.hid hk
  have HL := Lib.hid hall
  clear hANS hall
  obtain ⟨ga, gc, rfl, hgc, _⟩ := hg
  obtain ⟨ka, kc, rfl, hkc, _⟩ := hk
  go_enter Tryd.func88, Tryd.ntmps88
  go_wp2
  go_loop [5] (fun i => ∃ j : Nat, j ≤ ks.length + 1 ∧ i = .int .i64 j ∧ j % 2 = 0 ∧ Hid ((j ≤ ks.length → Ar.pairs g (ks.drop j) = ANS) ∧ (j = ks.length + 1 → ANS = false))) (fun i => ks.length + 1 - (intOf i).toNat)
  case atStart => exact ⟨0, by omega, rfl, rfl, ⟨fun _ => HA.out, fun h => absurd h (by omega)⟩⟩
  case round =>
    obtain ⟨j, hj, rfl, hj2, HI⟩ := hrel
    clear HA
    by_cases hlt : j < ks.length
    · obtain ⟨_, _, hv, _, hcl⟩ := HK.out
      cases hv
      obtain ⟨kg, ko, rfl, _, hcl⟩ := hcl (by omega)
      have hkj := hcl j hlt
      have hin := List.all_eq_true.1 HL.out _ (List.getElem_mem hlt)
      unfold Ar.isNode at hin
      simp only [Bool.and_eq_true, decide_eq_true_eq] at hin
      obtain ⟨hk0, hk1⟩ := hin
      clear hcl
      have hI := HI.out.1 (by omega)
      obtain ⟨kk, hkk⟩ : ∃ kk, ks[j] = kk := ⟨_, rfl⟩
      have hdr := List.drop_eq_getElem_cons hlt
      rw [hkk] at hkj hk0 hk1 hdr
      obtain ⟨m, rfl⟩ : ∃ m : Nat, kk = (m : Int) := ⟨kk.toNat, by omega⟩
      obtain ⟨_, _, hv, _, hcl⟩ := HG.out
      cases hv
      obtain ⟨gg, rfl, _, hcl⟩ := hcl (by omega)
      have hm : m < g.length := by omega
      have hmk := (hcl m hm).kind
      have hat : Ar.at' g (m : Int) = g[m] := Ar.at_get g m (by omega) hm
      clear hcl
      by_cases h1 : j + 1 < ks.length
      · have hst := pairs_step g ks j h1
        rw [hst, hkk, hat] at hI
        clear hst hdr hkk hat HI
        generalize g[m] = x at *
        cases hx : (x.kind == 0)
        · rw [hx] at hI
          have hF : ANS = false := by rw [← hI]; rfl
          have hx' : x.kind ≠ 0 := by simpa using hx
          clear hI
          subst hF
          go_wp2
          go_ret
          exact ⟨rfl, rfl⟩
        · rw [hx, Bool.true_and] at hI
          have hx' : x.kind = 0 := by simpa using hx
          have HN := Lib.hid hI
          clear hI
          go_wp2
          go_round
          case rel => exact ⟨j + 2, by omega, by go_num, by omega, ⟨fun _ => HN.out, fun h => absurd h (by omega)⟩⟩
          case measure => simp [intOf]; omega
      · have hje : j + 1 = ks.length := by omega
        have hF : ANS = false := by
          rw [← hI, hdr, List.drop_eq_nil_of_le (by omega)]; rfl
        subst hF
        clear hI hdr hkk hat HI
        generalize g[m] = x at *
        by_cases hx : x.kind = 0
        · go_wp2
          go_round
          case rel => exact ⟨j + 2, by omega, by go_num, by omega, ⟨fun h => absurd h (by omega), fun _ => trivial⟩⟩
          case measure => simp [intOf]; omega
        · go_wp2
          go_ret
          exact ⟨rfl, rfl⟩
    · have hFin : ANS = decide (ks.length % 2 = 0) := by
        by_cases hje : j = ks.length
        · rw [← HI.out.1 (by omega), hje, List.drop_eq_nil_of_le (Nat.le_refl _)]
          exact (decide_eq_true (by omega)).symm
        · rw [HI.out.2 (by omega)]; exact (decide_eq_false (by omega)).symm
      clear HI
      subst hFin
      by_cases hp : ks.length % 2 = 0
      · rw [show decide (ks.length % 2 = 0) = true from decide_eq_true hp]
        go_wp2
        go_ret
        exact ⟨ret_bool (beq_iff_eq.2 (by omega)), rfl⟩
      · rw [show decide (ks.length % 2 = 0) = false from decide_eq_false hp]
        go_wp2
        go_ret
        exact ⟨ret_bool (beq_eq_false_iff_ne.2 (by omega)), rfl⟩
end Go.Proofs.YtbimjdlkffbncaaDoor
