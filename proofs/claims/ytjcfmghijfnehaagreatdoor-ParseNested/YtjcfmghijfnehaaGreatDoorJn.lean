/-
  Walks of lex.Key and of parse.goesOn.
-/
import Derived.Test.YtjcfmghijfnehaaGreatDoorJd
namespace Go.Proofs.YtjcfmghijfnehaaGreatDoor
open Go.RowKit

theorem RdW.second {w : World} {B g o c n : Nat} {x y : Lx.Wd} {t : List Lx.Wd} (h : RdW w B (.slice (some ⟨g, o, none⟩) n c) (x :: y :: t)) : WdAt w g (o + 3) y := by
  obtain ⟨a, c', hv, hc, h1⟩ := h
  obtain ⟨g', o', ha, hg, hcl⟩ := h1 (by simp)
  cases hv
  cases ha
  have := hcl 1 (by simp)
  simpa using this
theorem bk_beq (x : Lx.Wd) (t : List Lx.Wd) (k : Nat) : Px.bk (x :: t) k = ((x.kind : Int) == (k : Int)) := by
  unfold Px.bk
  rw [Bool.eq_iff_iff]; simp; omega

set_option maxHeartbeats 4000000 in
set_option maxRecDepth 100000 in
theorem key_any (v : Value) (ws : List Lx.Wd) (B : Nat) (w : World) (h : RdW w B v ws) :
    Calls Tryz.prog 180 #[v] w fun e w' => e = .returned (.bool (Px.isKeyGo ws)) ∧ w = w' := by
  obtain ⟨ANS, hANS⟩ : ∃ ANS, Px.isKeyGo ws = ANS := ⟨_, rfl⟩
  rw [hANS]
  have HA := Lib.hid hANS
  have HR := Lib.hid h
  obtain ⟨a, c, rfl, hc, _⟩ := h
  clear hANS
  go_enter Tryz.func180, Tryz.ntmps180
  go_wp2
  go_loopw [0] (fun v0 wr => ∃ (us : List Lx.Wd), Hid (RdW w B v0 us) ∧ Hid (Px.isKeyGo us = ANS) ∧ wr = w) (fun v0 _ => lenS v0)
  case atStart => exact ⟨ws, HR, HA, rfl⟩
  case round =>
    obtain ⟨us, HU, HK, rfl⟩ := hrel
    clear HA HR hc
    cases us with
    | nil =>
      obtain ⟨a0, c0, rfl⟩ := HU.out.nil_form
      go_wp2
      go_ret
      exact ⟨by rw [← HK.out]; rfl, rfl⟩
    | cons x t =>
      obtain ⟨g, o, c', rfl, hc', hg, ⟨k0, k1, k2⟩⟩ := HU.out.cons
      have hK := HK.out
      unfold Px.isKeyGo at hK
      have hn : (0 : Int) < ((t.length + 1 : Nat) : Int) := by omega
      have hn2 : ¬ ((t.length + 1 : Nat) : Int) = 0 := by omega
      have hcc : (1 : Int) ≤ ((t.length + 1 : Nat) : Int) := by omega
      have hcd : ((t.length + 1 : Nat) : Int) ≤ (c' : Int) := by omega
      by_cases h35 : x.kind = 3 ∨ x.kind = 5
      · rw [if_pos h35] at hK
        have HK2 := Lib.hid hK
        have HT := Lib.hid (RdW.tail HU.out)
        obtain ⟨xk, xt, xa⟩ := x
        simp only at h35 k0
        clear hK k1 k2
        by_cases hc1 : c' = 1
        · subst hc1
          rcases h35 with rfl | rfl
          all_goals go_wp2
          all_goals go_roundw
          case rel => exact ⟨[], RdW.nil_any _ _ _, (by have htn : t = [] := List.length_eq_zero_iff.1 (by omega); rw [htn] at HK2; exact HK2), trivial⟩
          case measure => simp only [lenS]; omega
          case rel => exact ⟨[], RdW.nil_any _ _ _, (by have htn : t = [] := List.length_eq_zero_iff.1 (by omega); rw [htn] at HK2; exact HK2), trivial⟩
          case measure => simp only [lenS]; omega
        · rcases h35 with rfl | rfl
          all_goals go_wp2
          all_goals go_roundw
          case rel => exact ⟨t, (by have h := HT.out; rw [if_neg hc1] at h; exact h), HK2, trivial⟩
          case measure => simp only [lenS]; omega
          case rel => exact ⟨t, (by have h := HT.out; rw [if_neg hc1] at h; exact h), HK2, trivial⟩
          case measure => simp only [lenS]; omega
      · rw [if_neg h35] at hK
        by_cases h4 : x.kind ≤ 2 ∨ x.kind = 4
        · rw [if_pos h4] at hK
          have h4' : x.kind = 0 ∨ x.kind = 1 ∨ x.kind = 2 ∨ x.kind = 4 := by omega
          cases t with
          | nil =>
            have HK2 : Hid (false = ANS) := hK
            obtain ⟨xk, xt, xa⟩ := x
            simp only at h4' k0
            clear hK h35 h4 k1 k2
            rcases h4' with rfl | rfl | rfl | rfl
            all_goals go_wp2
            all_goals go_ret
            all_goals exact ⟨ret_bool HK2.out, rfl⟩
          | cons y t =>
            obtain ⟨j0, _, _⟩ := HU.out.second
            rw [bk_beq] at hK
            have HK2 := Lib.hid hK
            have hm : (1 : Int) < (((y :: t).length + 1 : Nat) : Int) := by simp only [List.length_cons]; omega
            obtain ⟨xk, xt, xa⟩ := x
            simp only at h4' k0
            clear hK h35 h4 k1 k2
            generalize (y :: t).length = tl at *
            rcases h4' with rfl | rfl | rfl | rfl
            all_goals go_wp2
            all_goals go_ret
            all_goals exact ⟨ret_bool HK2.out, rfl⟩
        · rw [if_neg h4] at hK
          have HK2 : Hid ((((x.kind : Nat) : Int) == 11) = ANS) := by
            show _ = _
            rw [← hK, Bool.eq_iff_iff]; simp; omega
          obtain ⟨xk, xt, xa⟩ := x
          simp only at h35 h4 k0
          have b0 : ((xk : Int) == 0) = false := beq_eq_false_iff_ne.2 (by omega)
          have b1 : ((xk : Int) == 1) = false := beq_eq_false_iff_ne.2 (by omega)
          have b2 : ((xk : Int) == 2) = false := beq_eq_false_iff_ne.2 (by omega)
          have b3 : ((xk : Int) == 3) = false := beq_eq_false_iff_ne.2 (by omega)
          have b4 : ((xk : Int) == 4) = false := beq_eq_false_iff_ne.2 (by omega)
          have b5 : ((xk : Int) == 5) = false := beq_eq_false_iff_ne.2 (by omega)
          clear hK h35 h4 k1 k2
          go_wp2
          go_ret
          exact ⟨ret_bool HK2.out, rfl⟩

set_option maxHeartbeats 1000000 in
theorem goesOn_any (k : Int) (v : Value) (ws : List Lx.Wd) (B : Nat) (w : World) (h : RdW w B v ws) :
    Calls Tryz.prog 175 #[.int .i64 k, v] w fun e w' => e = .returned (.bool (Px.goesOn k ws)) ∧ w = w' := by
  have C1 := Lib.hid (begins_any v ws 12 B w h)
  have C2 := Lib.hid (key_any v ws B w h)
  unfold Px.goesOn
  by_cases h2 : k = 2
  · subst h2
    rw [if_pos rfl]
    go_enter Tryz.func175, Tryz.ntmps175
    go_wp2_with (go_at_call 178; go_fit C1.out; rintro e w' ⟨rfl, rfl⟩)
    go_ret
    exact ⟨rfl, rfl⟩
  · rw [if_neg h2]
    have b2 : (k == 2) = false := beq_eq_false_iff_ne.2 h2
    by_cases h4 : k = 4
    · subst h4
      rw [if_pos rfl]
      go_enter Tryz.func175, Tryz.ntmps175
      go_wp2_with (go_at_call 180; go_fit C2.out; rintro e w' ⟨rfl, rfl⟩)
      go_ret
      exact ⟨rfl, rfl⟩
    · rw [if_neg h4]
      have b4 : (k == 4) = false := beq_eq_false_iff_ne.2 h4
      go_enter Tryz.func175, Tryz.ntmps175
      go_wp2
      go_ret
      exact ⟨rfl, rfl⟩
end Go.Proofs.YtjcfmghijfnehaaGreatDoor
