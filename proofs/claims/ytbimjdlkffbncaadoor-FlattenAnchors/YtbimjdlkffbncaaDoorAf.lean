/-
  The walk of arena.Right.
-/
import Derived.Test.YtbimjdlkffbncaaDoorAe
namespace Go.Proofs.YtbimjdlkffbncaaDoor
namespace Ar
def right (g : List Nd) : Bool := if g.length = 0 ∨ 2000 < g.length then false else if g.all (mayBe g) = true then !twice g else false
end Ar
open Go.RowKit Go.Maps

set_option maxHeartbeats 2000000 in
theorem right_any (v : Value) (g : List Ar.Nd) (w : World) (hg : RdG w w.heap.size v g) (hgl : g.length ≤ 1000000) (hfi : ∀ x ∈ g, Fine x) (hE : Env w) :
    Calls Tryd.prog 21 #[v] w fun e w' => e = .returned (.bool (Ar.right g)) ∧ Below w.heap.size w w' := by
  have HG := Lib.hid hg
  have HF := Lib.hid hfi
  have HE := Lib.hid hE
  clear hfi hE
  obtain ⟨ga, gc, rfl, hgc, _⟩ := hg
  unfold Ar.right
  by_cases h0 : g.length = 0
  · rw [if_pos (Or.inl h0)]
    go_enter Tryd.func21, Tryd.ntmps21
    go_wp2
    go_ret
    exact ⟨rfl, Below.refl _ _⟩
  by_cases h2 : 2000 < g.length
  · rw [if_pos (Or.inr h2)]
    go_enter Tryd.func21, Tryd.ntmps21
    go_wp2
    go_ret
    exact ⟨rfl, Below.refl _ _⟩
  rw [if_neg (by omega)]
  obtain ⟨ANS, hANS⟩ : ∃ ANS, (if g.all (Ar.mayBe g) = true then !Ar.twice g else false) = ANS := ⟨_, rfl⟩
  rw [hANS]
  have HA := Lib.hid hANS
  clear hANS
  have i0 : ((g.length : Int) == 0) = false := beq_eq_false_iff_ne.2 (by omega)
  have i2 : decide ((2000 : Int) < g.length) = false := decide_eq_false (by omega)
  go_enter Tryd.func21, Tryd.ntmps21
  go_wp2
  go_loopw [15] (fun i wr => ∃ (j : Nat), j ≤ g.length ∧ i = .int .i64 j ∧ Hid ((if (g.drop j).all (Ar.mayBe g) = true then !Ar.twice g else false) = ANS) ∧ Hid (Below w.heap.size w wr)) (fun i _ => g.length - (intOf i).toNat)
  case atStart => exact ⟨0, by omega, rfl, HA, Lib.hid (Below.refl _ _)⟩
  case round =>
    obtain ⟨j, hj, rfl, HI, HB⟩ := hrel
    clear HA
    by_cases hlt : j < g.length
    · have hI := HI.out
      rw [List.drop_eq_getElem_cons hlt, List.all_cons] at hI
      clear HI
      obtain ⟨_, _, hv, _, hcl⟩ := HG.out.below HB.out
      cases hv
      obtain ⟨gg, rfl, hgg, hcl⟩ := hcl (by omega)
      have hf := HF.out _ (List.getElem_mem hlt)
      obtain ⟨n0, n1, n2, ⟨a, c, n3, n4⟩⟩ := hcl j hlt
      clear hcl
      generalize g[j] = x at *
      have hB2 := HB.out.alloc HB.out.size (.cells #[.int .i64 x.kind, .string (str x.tag), .string (str x.text), .slice a x.kids.length c] 64)
      have cM := mayBe_any (.slice (some ⟨gg, 0, none⟩) g.length gc) g x a c (wr.alloc (.cells #[.int .i64 x.kind, .string (str x.tag), .string (str x.text), .slice a x.kids.length c] 64)) ((HG.out.below hB2).mono hB2.size) ((n4.below (bnew' HB.out _)).mono hB2.size) hf (HE.out.below hB2)
      cases hx : Ar.mayBe g x
      · rw [hx] at cM
        rw [hx, Bool.false_and, if_neg (by decide)] at hI
        subst hI
        have cM := Lib.hid cM
        go_wp2_with (go_at_call 51; refine cM.out.mono ?_; rintro e w2 ⟨rfl, hb2⟩)
        go_ret
        exact ⟨rfl, hB2.trans (hb2.mono hB2.size)⟩
      · rw [hx] at cM
        rw [hx, Bool.true_and] at hI
        have HI := Lib.hid hI
        have cM := Lib.hid cM
        clear hI
        go_wp2_with (go_at_call 51; refine cM.out.mono ?_; rintro e w2 ⟨rfl, hb2⟩)
        go_roundw
        case rel => exact ⟨j + 1, by omega, by go_num, HI, Lib.hid (hB2.trans (hb2.mono hB2.size))⟩
        case measure => simp [intOf]; omega
    · have hI := HI.out
      rw [List.drop_eq_nil_of_le (by omega), List.all_nil, if_pos rfl] at hI
      clear HI
      have cT := twice_any (.slice ga g.length gc) g wr ((HG.out.below HB.out).mono HB.out.size) hgl HF.out
      generalize Ar.twice g = T at *
      subst hI
      have cT := Lib.hid cT
      go_wp2_with (go_at_call 39; refine cT.out.mono ?_; rintro e w2 ⟨rfl, hb2⟩)
      go_ret
      exact ⟨rfl, HB.out.trans (hb2.mono HB.out.size)⟩
end Go.Proofs.YtbimjdlkffbncaaDoor
