/-
  The laws' own: heavy, Theirs.
-/
import Derived.Test.YthkedlcmpibkjaaDoorEo
namespace Go.Proofs.YthkedlcmpibkjaaDoor
namespace Ev
def big (x : E) : Bool := decide (3000 < x.text.length) || (decide (3000 < x.anchor.length) || decide (3000 < x.tag.length))
/-- is a row too long to be asked? -/
def heavy (es : List E) : Bool := es.any big || decide (150 < es.length)
theorem big_false (x : E) (h : big x = false) : x.anchor.length ≤ 3000 ∧ x.tag.length ≤ 3000 ∧ x.text.length ≤ 3000 := by
  unfold big at h
  simp only [Bool.or_eq_false_iff, decide_eq_false_iff_not] at h
  omega
theorem light (es : List E) (h : heavy es = false) : es.length ≤ 150 ∧ ∀ x ∈ es, x.anchor.length ≤ 3000 ∧ x.tag.length ≤ 3000 ∧ x.text.length ≤ 3000 := by
  unfold heavy at h
  rw [Bool.or_eq_false_iff, decide_eq_false_iff_not, List.any_eq_false] at h
  exact ⟨by omega, fun x hx => big_false x (by have := h.1 x hx; simpa using this)⟩
theorem any_drop (es : List E) (j : Nat) (h : j < es.length) : (es.drop j).any big = (big es[j] || (es.drop (j + 1)).any big) := by
  rw [List.drop_eq_getElem_cons h, List.any_cons]
end Ev
open Go.RowKit

set_option maxHeartbeats 2000000 in
set_option maxRecDepth 100000 in
theorem theirs_any (v : Value) (es : List Ev.E) (w : World) (h : RdE w w.heap.size v es) (hl : es.length ≤ 2199023255488) :
    Calls Tryd.prog 10 #[v] w fun e w' => (∃ u, e = .returned u ∧ OwnE w' w.heap.size u es) ∧ Below w.heap.size w w' := by
  obtain ⟨a, c, rfl, hc, hcl⟩ := h
  have HC := Lib.hid hcl
  clear hcl
  go_enter Tryd.func10, Tryd.ntmps10
  go_wp2
  go_loopw [3, 8] (fun ov i wr => ∃ (j : Nat), j ≤ es.length ∧ i = .int .i64 j ∧ OwnE wr w.heap.size ov (es.take j) ∧ Below w.heap.size w wr) (fun _ i _ => es.length - (intOf i).toNat)
  case atStart => exact ⟨0, by omega, rfl, World.ownsRow_nil _ _ _ _, Below.refl _ _⟩
  case round =>
    obtain ⟨j, hj, rfl, hown, hbw⟩ := hrel
    have hBr := hbw.size
    by_cases hlt : j < es.length
    · obtain ⟨g, o, rfl, hg, hcl⟩ := HC.out (by omega)
      obtain ⟨c0, c1, c2, c3, c4⟩ := (hcl j hlt).below hbw hg
      have HT := Lib.hid (List.take_succ_eq_append_getElem hlt)
      have htl : (es.take j).length ≤ 2199023255488 := by rw [List.length_take]; omega
      obtain ⟨va, vc, rfl⟩ := own_slice hown
      have HO := Lib.hid hown
      clear hcl hown
      generalize es[j] = x at *
      go_wp2_with (at_builtin; refine wpList_pushE rfl (.tmp 12) (.tmp 14) rfl w.heap.size _ (es.take j) x (wr.alloc _) _ _ rfl _ rfl ?ga ?hC ?hown ?hl ?hB ?_; (case ga => rw [World.size_alloc]); (case hC => rfl); (case hown => exact OwnE.below HO.out (bnew _ _)); (case hl => exact htl); (case hB => rw [World.size_alloc]; omega); intro v' w4 ho4 hb4 hB4)
      go_roundw
      case rel => exact ⟨j + 1, by omega, by go_num, by rw [HT.out]; exact ho4, (hbw.alloc hBr _).trans hb4⟩
      case measure => simp [intOf]; omega
    · have hje : j = es.length := by omega
      subst hje
      rw [List.take_of_length_le (Nat.le_refl _)] at hown
      have HO := Lib.hid hown
      clear hown
      go_wp2
      go_ret
      exact ⟨⟨_, rfl, HO.out⟩, hbw⟩

set_option maxHeartbeats 2000000 in
set_option maxRecDepth 100000 in
theorem heavy_any (v : Value) (es : List Ev.E) (w : World) (h : RdE w w.heap.size v es) (hl : es.length ≤ 9223372036854775807) (hS : ∀ x ∈ es, x.anchor.length ≤ 9223372036854775807 ∧ x.tag.length ≤ 9223372036854775807 ∧ x.text.length ≤ 9223372036854775807) :
    Calls Tryd.prog 9 #[v] w fun e w' => e = .returned (.bool (Ev.heavy es)) ∧ Below w.heap.size w w' := by
  obtain ⟨a, c, rfl, hc, hcl⟩ := h
  have HC := Lib.hid hcl
  have HSS := Lib.hid hS
  obtain ⟨ANS, hANS⟩ : ∃ ANS, Ev.heavy es = ANS := ⟨_, rfl⟩
  rw [hANS]
  have HA : Hid (((es.drop 0).any Ev.big || decide (150 < es.length)) = ANS) := hANS
  clear hcl hANS hS
  go_enter Tryd.func9, Tryd.ntmps9
  go_wp2
  go_loopw [7] (fun i wr => ∃ (j : Nat), j ≤ es.length ∧ i = .int .i64 j ∧ Hid (((es.drop j).any Ev.big || decide (150 < es.length)) = ANS) ∧ Below w.heap.size w wr) (fun i _ => es.length - (intOf i).toNat)
  case atStart => exact ⟨0, by omega, rfl, HA, Below.refl _ _⟩
  case round =>
    obtain ⟨j, hj, rfl, HK, hbw⟩ := hrel
    clear HA
    have hBr := hbw.size
    by_cases hlt : j < es.length
    · obtain ⟨g, o, rfl, hg, hcl⟩ := HC.out (by omega)
      obtain ⟨c0, c1, c2, c3, c4⟩ := (hcl j hlt).below hbw hg
      have hK := HK.out
      rw [Ev.any_drop es j hlt] at hK
      have hx := HSS.out es[j] (List.getElem_mem hlt)
      clear hcl HK
      generalize es[j] = x at *
      have e1 : (str x.text).size = x.text.length := str_len _
      have e2 : (str x.anchor).size = x.anchor.length := str_len _
      have e3 : (str x.tag).size = x.tag.length := str_len _
      by_cases h1 : 3000 < x.text.length
      · obtain rfl : ANS = true := by rw [← hK]; simp [Ev.big, h1]
        have g1 : (3000 : Int) < ((str x.text).size : Int) := by omega
        clear hK
        go_wp2
        go_ret
        exact ⟨rfl, hbw.alloc hBr _⟩
      · have g1 : decide ((3000 : Int) < ((str x.text).size : Int)) = false := decide_eq_false (by omega)
        by_cases h2 : 3000 < x.anchor.length
        · obtain rfl : ANS = true := by rw [← hK]; simp [Ev.big, h2]
          have g2 : (3000 : Int) < ((str x.anchor).size : Int) := by omega
          clear hK
          go_wp2
          go_ret
          exact ⟨rfl, hbw.alloc hBr _⟩
        · have g2 : decide ((3000 : Int) < ((str x.anchor).size : Int)) = false := decide_eq_false (by omega)
          by_cases h3 : 3000 < x.tag.length
          · obtain rfl : ANS = true := by rw [← hK]; simp [Ev.big, h3]
            have g3 : (3000 : Int) < ((str x.tag).size : Int) := by omega
            clear hK
            go_wp2
            go_ret
            exact ⟨rfl, hbw.alloc hBr _⟩
          · have g3 : decide ((3000 : Int) < ((str x.tag).size : Int)) = false := decide_eq_false (by omega)
            have HN : Hid (((es.drop (j + 1)).any Ev.big || decide (150 < es.length)) = ANS) := by
              show _ = _
              rw [← hK]; simp [Ev.big, h1, h2, h3]
            clear hK
            go_wp2
            go_roundw
            case rel => exact ⟨j + 1, by omega, by go_num, HN, hbw.alloc hBr _⟩
            case measure => simp [intOf]; omega
    · have hje : j = es.length := by omega
      subst hje
      have hK := HK.out
      rw [List.drop_of_length_le (Nat.le_refl _), List.any_nil, Bool.false_or] at hK
      have HD : Hid (decide ((150 : Int) < (es.length : Int)) = ANS) := by show _ = _; rw [← hK]; congr 1; simp; omega
      clear hK HK
      go_wp2
      go_ret
      exact ⟨ret_bool HD.out, hbw⟩
end Go.Proofs.YthkedlcmpibkjaaDoor
