/-
  Walks of compose: groupTag, scalarTag, Tag.
-/
import Derived.Test.YtbimjdlkffbncaaDoorFb
namespace Go.Proofs.YtbimjdlkffbncaaDoor
open Go.RowKit
def tagE (o : Except Int (List UInt8)) : Ending := match o with
  | .ok t => .returned (.tuple #[.string (str t), .int .i64 0])
  | .error k => .returned (.tuple #[.string ⟨#[]⟩, .int .i64 k])
theorem str_eqb (a b : List UInt8) (h : a = b) : ((str a).toList == (str b).toList) = true := by rw [str_same, h]; simp
theorem str_neb (a b : List UInt8) (h : ¬ a = b) : ((str a).toList == (str b).toList) = false := by rw [str_same]; exact beq_eq_false_iff_ne.2 h
theorem str_nemp (a : List UInt8) (h : ¬ a = []) : ((str a).toList.isEmpty) = false := by
  rw [str_toL]
  cases a with
  | nil => exact absurd rfl h
  | cons b t => rfl
theorem str_neN (a : List UInt8) (h : ¬ a = []) : ((str a).toList == []) = false := by
  rw [str_toL]; exact beq_eq_false_iff_ne.2 h

set_option maxHeartbeats 2000000 in
theorem groupTag_any (c t : List UInt8) (w : World) (ht : t.length ≤ 1000000) :
    Calls Tryd.prog 46 #[.string (str c), .string (str t)] w fun e w' => e = tagE (Co.groupTag c t) ∧ Below w.heap.size w w' := by
  have cR := Lib.hid (Tag.right_any (str t) w (by rw [str_len]; exact ht))
  have cC := Lib.hid (fun w => Tag.core_any (str t) w)
  unfold Co.groupTag
  by_cases h0 : t = []
  · subst h0
    rw [if_pos (.inl rfl)]
    rw [str_nil]
    go_enter Tryd.func46, Tryd.ntmps46
    go_wp2
    go_ret2
    exact ⟨rfl, Below.refl _ _⟩
  · have n0 := str_nemp t h0
    have n1 := str_neN t h0
    by_cases h1 : t = c
    · subst h1
      rw [if_pos (.inr rfl)]
      go_enter Tryd.func46, Tryd.ntmps46
      go_wp2
      go_ret2
      exact ⟨rfl, Below.refl _ _⟩
    · rw [if_neg (by rintro (h | h); exact h0 h; exact h1 h)]
      have n2 := str_neb t c h1
      rw [str_dat] at cR
      have cC : Hid (∀ w : World, Calls Tryd.prog 80 #[.string (str t)] w fun e w' => e = .returned (.bool (Tg.core t)) ∧ w = w') := fun w => by have h := cC.out w; rw [str_dat] at h; exact h
      cases hr : Tg.right t
      · rw [hr] at cR
        rw [if_neg (by rintro ⟨h, _⟩; cases h)]
        go_enter Tryd.func46, Tryd.ntmps46
        go_wp2_with (go_at_call 79; refine cR.out.mono ?_; rintro e w1 ⟨rfl, hb1⟩)
        go_ret2
        exact ⟨rfl, hb1⟩
      · rw [hr] at cR
        cases hc : Tg.core t
        · rw [hc] at cC
          rw [if_pos ⟨rfl, rfl⟩]
          go_enter Tryd.func46, Tryd.ntmps46
          go_wp2_with (first
            | (go_at_call 79; refine cR.out.mono ?_; rintro e w1 ⟨rfl, hb1⟩)
            | (go_at_call 80; refine (cC.out _).mono ?_; rintro e w2 ⟨rfl, rfl⟩))
          go_ret2
          exact ⟨rfl, hb1⟩
        · rw [hc] at cC
          rw [if_neg (by rintro ⟨_, h⟩; cases h)]
          go_enter Tryd.func46, Tryd.ntmps46
          go_wp2_with (first
            | (go_at_call 79; refine cR.out.mono ?_; rintro e w1 ⟨rfl, hb1⟩)
            | (go_at_call 80; refine (cC.out _).mono ?_; rintro e w2 ⟨rfl, rfl⟩))
          go_ret2
          exact ⟨rfl, hb1⟩

set_option maxHeartbeats 4000000 in
theorem scalarTag_any (x : Ev.E) (w : World) (ht : x.tag.length ≤ 1000000) (hs : x.text.length ≤ 1000000) :
    Calls Tryd.prog 45 #[evV x] w fun e w' => e = tagE (Co.scalarTag x.tag x.text x.plain) ∧ Below w.heap.size w w' := by
  obtain ⟨k, an, tg, tx, pl⟩ := x
  simp only at ht hs ⊢
  unfold evV Co.scalarTag
  simp only
  have b0 := bnew w (.cells #[.int .i64 k, .string (str an), .string (str tg), .string (str tx), .bool pl] 40)
  have k0 := alloc_blk w (.cells #[.int .i64 k, .string (str an), .string (str tg), .string (str tx), .bool pl] 40)
  obtain ⟨⟨q0, q1, q2, q3, q4⟩, _⟩ := five k0
  have cR : Hid (∀ w : World, Calls Tryd.prog 77 #[.string (str tx)] w fun e w' => e = .returned (.string (str (Tg.resolve tx).w)) ∧ w = w') := fun w => (Tag.resolve_any (str tx) w (by rw [str_len]; exact hs)).mono fun e w' h => by rw [str_dat, kS_str] at h; exact h
  have cF := Lib.hid (fun w => Tag.fits_any (str tg) (str tx) w (by rw [str_len]; exact ht) (by rw [str_len]; exact hs))
  by_cases h0 : tg = []
  · subst h0
    rw [if_pos rfl]
    rw [str_nil] at *
    cases pl
    · rw [if_neg (by decide)]
      go_enter Tryd.func45, Tryd.ntmps45
      go_wp2
      go_ret2
      exact ⟨rfl, b0⟩
    · rw [if_pos rfl]
      go_enter Tryd.func45, Tryd.ntmps45
      go_wp2_with (go_at_call 77; refine (cR.out _).mono ?_; rintro e w1 ⟨rfl, rfl⟩)
      go_ret2
      exact ⟨rfl, b0⟩
  · have n0 := str_nemp tg h0
    have n1 := str_neN tg h0
    rw [if_neg h0]
    have cF : Hid (∀ w : World, Calls Tryd.prog 78 #[.string (str tg), .string (str tx)] w fun e w' => e = .returned (.bool (Tg.fits tg tx)) ∧ Below w.heap.size w w') := fun w => by have h := cF.out w; rw [str_dat, str_dat] at h; exact h
    have KEEP : Hid (∀ w1, Below (w.alloc (.cells #[.int .i64 k, .string (str an), .string (str tg), .string (str tx), .bool pl] 40)).heap.size (w.alloc (.cells #[.int .i64 k, .string (str an), .string (str tg), .string (str tx), .bool pl] 40)) w1 → w1.cell? ⟨w.heap.size, 2, none⟩ = some (.string (str tg)) ∧ Below w.heap.size w w1) := fun w1 hb => ⟨(five (blk_below k0 hb)).1.2.2.1, bthen b0 hb⟩
    cases hf : Tg.fits tg tx
    · rw [hf] at cF
      rw [if_neg (by decide)]
      go_enter Tryd.func45, Tryd.ntmps45
      go_wp2_with (go_at_call 78; refine (cF.out _).mono ?_; rintro e w1 ⟨rfl, hb1⟩; obtain ⟨u2, u3⟩ := KEEP.out w1 hb1)
      go_ret2
      exact ⟨rfl, u3⟩
    · rw [hf] at cF
      rw [if_pos rfl]
      go_enter Tryd.func45, Tryd.ntmps45
      go_wp2_with (go_at_call 78; refine (cF.out _).mono ?_; rintro e w1 ⟨rfl, hb1⟩; obtain ⟨u2, u3⟩ := KEEP.out w1 hb1)
      go_ret2
      exact ⟨rfl, u3⟩

set_option maxHeartbeats 4000000 in
theorem tagOf_any (x : Ev.E) (w : World) (ht : x.tag.length ≤ 1000000) (hs : x.text.length ≤ 1000000) :
    Calls Tryd.prog 19 #[evV x] w fun e w' => e = tagE (Co.tagOf x) ∧ Below w.heap.size w w' := by
  have cS := scalarTag_any x
  obtain ⟨k, an, tg, tx, pl⟩ := x
  simp only at ht hs cS ⊢
  unfold evV at cS ⊢
  unfold Co.tagOf
  simp only at cS ⊢
  have b0 := bnew w (.cells #[.int .i64 k, .string (str an), .string (str tg), .string (str tx), .bool pl] 40)
  have k0 := alloc_blk w (.cells #[.int .i64 k, .string (str an), .string (str tg), .string (str tx), .bool pl] 40)
  obtain ⟨⟨q0, q1, q2, q3, q4⟩, _⟩ := five k0
  have CS := Lib.hid (fun w => cS w ht hs)
  have CG := Lib.hid (fun c w => groupTag_any c tg w ht)
  clear cS
  by_cases h6 : k = 6
  · subst h6
    rw [if_pos rfl]
    generalize Co.scalarTag tg tx pl = o at *
    cases o
    all_goals
      unfold tagE at CS ⊢
      simp only at CS ⊢
      go_enter Tryd.func19, Tryd.ntmps19
      go_wp2_with (go_at_call 45; refine (CS.out _).mono ?_; rintro e w1 ⟨rfl, hb1⟩)
      go_ret2
      exact ⟨rfl, bthen b0 hb1⟩
  · rw [if_neg h6]
    have n6 : (k == 6) = false := beq_eq_false_iff_ne.2 h6
    by_cases h2 : k = 2
    · subst h2
      rw [if_pos rfl]
      have CG := Lib.hid (CG.out Ar.seqW)
      generalize Co.groupTag Ar.seqW tg = o at *
      cases o
      all_goals
        unfold tagE at CG ⊢
        simp only at CG ⊢
        go_enter Tryd.func19, Tryd.ntmps19
        go_wp2_with (go_at_call 46; refine (CG.out _).mono ?_; rintro e w1 ⟨rfl, hb1⟩)
        go_ret2
        exact ⟨rfl, bthen b0 hb1⟩
    · rw [if_neg h2]
      have n2 : (k == 2) = false := beq_eq_false_iff_ne.2 h2
      by_cases h4 : k = 4
      · subst h4
        rw [if_pos rfl]
        have CG := Lib.hid (CG.out Ar.mapW)
        generalize Co.groupTag Ar.mapW tg = o at *
        cases o
        all_goals
          unfold tagE at CG ⊢
          simp only at CG ⊢
          go_enter Tryd.func19, Tryd.ntmps19
          go_wp2_with (go_at_call 46; refine (CG.out _).mono ?_; rintro e w1 ⟨rfl, hb1⟩)
          go_ret2
          exact ⟨rfl, bthen b0 hb1⟩
      · rw [if_neg h4]
        have n4 : (k == 4) = false := beq_eq_false_iff_ne.2 h4
        go_enter Tryd.func19, Tryd.ntmps19
        go_wp2
        go_ret2
        exact ⟨rfl, b0⟩
end Go.Proofs.YtbimjdlkffbncaaDoor
