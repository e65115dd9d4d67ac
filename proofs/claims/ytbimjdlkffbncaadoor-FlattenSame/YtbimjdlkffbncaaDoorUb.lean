/-
  Walks of event: mayName, mayTag, isFilled.
-/
import Derived.Test.YtbimjdlkffbncaaDoorUa
import Derived.Test.YtbimjdlkffbncaaDoorXs
namespace Go.Proofs.YtbimjdlkffbncaaDoor
open Go.Proofs.YtbimjdlkffbncaaDoor.Ev
namespace Evn
namespace Ev
def mayName (l : List UInt8) : Bool := l.isEmpty || Lx.name l
def mayTag (l : List UInt8) : Bool := l.isEmpty || Tg.right l
/-- has an event just those fields that its kind may have? -/
def filled (x : E) : Bool :=
  if x.kind = 2 ∨ x.kind = 4 then (x.text.isEmpty && !x.plain) && mayName x.anchor && mayTag x.tag
  else if x.kind = 6 then mayName x.anchor && mayTag x.tag && Lib.validD x.text
  else if x.kind = 7 then (x.tag.isEmpty && x.text.isEmpty && !x.plain) && Lx.name x.anchor
  else x.anchor.isEmpty && x.tag.isEmpty && x.text.isEmpty && !x.plain
/-- the fields are of a size that is asked -/
def Small (x : E) : Prop := x.anchor.length ≤ 50000 ∧ x.tag.length ≤ 50000 ∧ x.text.length ≤ 50000
end Ev
open Go.RowKit


set_option maxHeartbeats 1000000 in
theorem mayName_any (l : List UInt8) (w : World) (hl : l.length ≤ 50000) :
    Calls Tryd.prog 90 #[.string (str l)] w fun e w' => e = .returned (.bool (Ev.mayName l)) ∧ Below w.heap.size w w' := by
  have cN := lname_any (str l) w (by rw [str_len]; omega)
  rw [str_dat] at cN
  cases l with
  | nil =>
    rw [str_nil]
    clear cN
    go_enter Tryd.func90, Tryd.ntmps90
    go_wp2
    go_ret
    exact ⟨rfl, Below.refl _ _⟩
  | cons b t =>
    have hemp := ba_isEmpty (str (b :: t)) (by rw [str_len]; simp)
    have hnil := ba_notnil (str (b :: t)) (by rw [str_len]; simp)
    unfold Ev.mayName
    generalize Lx.name (b :: t) = r at *
    generalize str (b :: t) = s at *
    go_enter Tryd.func90, Tryd.ntmps90
    go_wp2_with (go_at_call 92; refine cN.mono ?_; rintro e w' ⟨rfl, hb⟩)
    go_ret
    exact ⟨rfl, hb⟩

set_option maxHeartbeats 1000000 in
theorem mayTag_any (l : List UInt8) (w : World) (hl : l.length ≤ 50000) :
    Calls Tryd.prog 91 #[.string (str l)] w fun e w' => e = .returned (.bool (Ev.mayTag l)) ∧ Below w.heap.size w w' := by
  have cN := Tag.right_any (str l) w (by rw [str_len]; omega)
  rw [str_dat] at cN
  cases l with
  | nil =>
    rw [str_nil]
    clear cN
    go_enter Tryd.func91, Tryd.ntmps91
    go_wp2
    go_ret
    exact ⟨rfl, Below.refl _ _⟩
  | cons b t =>
    have hemp := ba_isEmpty (str (b :: t)) (by rw [str_len]; simp)
    have hnil := ba_notnil (str (b :: t)) (by rw [str_len]; simp)
    unfold Ev.mayTag
    generalize Tg.right (b :: t) = r at *
    generalize str (b :: t) = s at *
    go_enter Tryd.func91, Tryd.ntmps91
    go_wp2_with (go_at_call 79; refine cN.mono ?_; rintro e w' ⟨rfl, hb⟩)
    go_ret
    exact ⟨rfl, hb⟩

set_option maxHeartbeats 2000000 in
set_option maxRecDepth 100000 in
theorem isFilled_any (x : Ev.E) (w : World) (hs : Ev.Small x) (hE : Env w) :
    Calls Tryd.prog 55 #[.agg #[.int .i64 x.kind, .string (str x.anchor), .string (str x.tag), .string (str x.text), .bool x.plain]] w fun e w' => e = .returned (.bool (Ev.filled x)) ∧ Below w.heap.size w w' := by
  obtain ⟨k, an, tg, tx, pl⟩ := x
  obtain ⟨h1, h2, h3⟩ := hs
  simp only at h1 h2 h3
  have cN := Lib.hid (fun w => mayName_any an w h1)
  have cT := Lib.hid (fun w => mayTag_any tg w h2)
  have cV := Lib.hid (fun w hE => valid_any (str tx) w (by rw [str_len]; omega) hE)
  have cL := Lib.hid (fun w => lname_any (str an) w (by rw [str_len]; omega))
  have HE := Lib.hid hE
  clear hE
  have eT : (str tx).data.toList = tx := rfl
  have eA : (str an).data.toList = an := rfl
  rw [eT] at cV
  rw [eA] at cL
  unfold Ev.filled
  by_cases k2 : k = 2 ∨ k = 4
  · rw [if_pos k2]
    clear cV cL
    cases hn : Ev.mayName an <;> rw [hn] at cN <;> cases ht : Ev.mayTag tg <;> rw [ht] at cT <;> clear hn ht
    all_goals rcases k2 with rfl | rfl
    all_goals go_enter Tryd.func55, Tryd.ntmps55
    all_goals go_wp2_with (first
      | (go_at_call 90; refine (cN.out _).mono ?_; rintro e w1 ⟨rfl, hb1⟩; have d2 := cell_after hb1 2 _ rfl)
      | (go_at_call 91; refine (cT.out _).mono ?_; rintro e w2 ⟨rfl, hb2⟩))
    all_goals go_ret
    all_goals refine ⟨ret_bool (by simp_all [str_toL]), ?_⟩
    all_goals first
      | exact bnew w _
      | exact bthen (bnew w _) hb1
      | exact bthen (bnew w _) (bthen hb1 hb2)
  · rw [if_neg k2]
    have b2 : (k == 2) = false := beq_eq_false_iff_ne.2 (by omega)
    have b4 : (k == 4) = false := beq_eq_false_iff_ne.2 (by omega)
    by_cases k6 : k = 6
    · rw [if_pos k6]
      clear cL
      cases hn : Ev.mayName an <;> rw [hn] at cN <;> cases ht : Ev.mayTag tg <;> rw [ht] at cT <;> clear hn ht
      all_goals subst k6
      all_goals go_enter Tryd.func55, Tryd.ntmps55
      all_goals go_wp2_with (first
        | (go_at_call 90; refine (cN.out _).mono ?_; rintro e w1 ⟨rfl, hb1⟩; have d2 := cell_after hb1 2 _ rfl)
        | (go_at_call 91; refine (cT.out _).mono ?_; rintro e w2 ⟨rfl, hb2⟩; have d3 := cell_after (bthen hb1 hb2) 3 _ rfl; have HE2 := Lib.hid (HE.out.below (bthen (bnew w _) (bthen hb1 hb2))))
        | (go_at_call 86; refine (cV.out _ HE2.out).mono ?_; rintro e w3 ⟨rfl, hb3⟩))
      all_goals go_ret
      all_goals refine ⟨ret_bool (by simp_all), ?_⟩
      all_goals first
        | exact bnew w _
        | exact bthen (bnew w _) hb1
        | exact bthen (bnew w _) (bthen hb1 hb2)
        | exact bthen (bnew w _) (bthen hb1 (bthen hb2 hb3))
    · rw [if_neg k6]
      have b6 : (k == 6) = false := beq_eq_false_iff_ne.2 k6
      clear cN cT cV
      by_cases k7 : k = 7
      · rw [if_pos k7]
        subst k7
        go_enter Tryd.func55, Tryd.ntmps55
        go_wp2_with (go_at_call 92; refine (cL.out _).mono ?_; rintro e w1 ⟨rfl, hb1⟩)
        all_goals go_ret
        all_goals refine ⟨ret_bool (by simp_all [str_toL]), ?_⟩
        all_goals first
          | exact bnew w _
          | exact bthen (bnew w _) hb1
      · rw [if_neg k7]
        have b7 : (k == 7) = false := beq_eq_false_iff_ne.2 k7
        clear cL
        go_enter Tryd.func55, Tryd.ntmps55
        go_wp2
        all_goals go_ret
        all_goals refine ⟨ret_bool (by simp_all [str_toL]), ?_⟩
        all_goals exact bnew w _
end Evn
end Go.Proofs.YtbimjdlkffbncaaDoor
