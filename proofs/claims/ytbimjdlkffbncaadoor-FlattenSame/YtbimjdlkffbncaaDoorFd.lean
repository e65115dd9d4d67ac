/-
  The walk of flatten.Event.
-/
import Derived.Test.YtbimjdlkffbncaaDoorFb
namespace Go.Proofs.YtbimjdlkffbncaaDoor
open Go.RowKit

set_option maxHeartbeats 4000000 in
set_option maxRecDepth 100000 in
theorem event_any (x : Ar.Nd) (a : Option Addr) (c : Nat) (w : World) (hl : x.text.length ≤ 100000) (hE : Env w) :
    Calls Tryd.prog 37 #[ndV x a c] w fun e w' => e = .returned (evV (Fl.event x)) ∧ Below w.heap.size w w' := by
  have cS := ofScalar_any x a c
  obtain ⟨k, t, s, ks⟩ := x
  simp only at hl cS
  unfold ndV at cS ⊢
  simp only at cS ⊢
  obtain ⟨W0, hW0⟩ : ∃ W0, (w.alloc (.cells #[.int .i64 k, .string (str t), .string (str s), .slice a ks.length c] 64)).alloc (.cells #[.int .i64 0, .string ⟨#[]⟩, .string ⟨#[]⟩, .string ⟨#[]⟩, .bool false] 40) = W0 := ⟨_, rfl⟩
  have b1 : Below w.heap.size w W0 := by rw [← hW0]; exact bthen (bnew w _) (bnew _ _)
  have k0 : W0.heap[w.heap.size]? = some (.cells #[.int .i64 k, .string (str t), .string (str s), .slice a ks.length c] 64) := by rw [← hW0]; exact blk_below (alloc_blk w _) (bnew _ _)
  have k1 : W0.heap[w.heap.size + 1]? = some (.cells #[.int .i64 0, .string ⟨#[]⟩, .string ⟨#[]⟩, .string ⟨#[]⟩, .bool false] 40) := by
    rw [← hW0]
    have h := alloc_blk (w.alloc (.cells #[.int .i64 k, .string (str t), .string (str s), .slice a ks.length c] 64)) (.cells #[.int .i64 0, .string ⟨#[]⟩, .string ⟨#[]⟩, .string ⟨#[]⟩, .bool false] 40)
    rw [World.size_alloc] at h
    exact h
  have lt1 := (Array.getElem?_eq_some_iff.1 k1).1
  have lt0 := (Array.getElem?_eq_some_iff.1 k0).1
  have HE := Lib.hid (hE.below b1)
  have HB := Lib.hid b1
  have HK := Lib.hid k1
  have KEEP : ∀ w1, Below W0.heap.size W0 w1 → w1.heap[w.heap.size + 1]? = some (.cells #[.int .i64 0, .string ⟨#[]⟩, .string ⟨#[]⟩, .string ⟨#[]⟩, .bool false] 40) ∧ Below w.heap.size w w1 := fun w1 hb => ⟨(hb.block _ lt1).trans k1, b1.trans (hb.mono b1.size)⟩
  have KP := Lib.hid KEEP
  obtain ⟨q0, q1, q2, q3⟩ := quad k0
  unfold Fl.event evV
  clear b1 k1 KEEP
  by_cases h0 : k = 0
  · subst h0
    have CS := Lib.hid (cS W0 rfl hl HE.out)
    unfold Fl.event evV at CS
    rw [if_pos rfl]
    simp only [if_pos] at CS ⊢
    generalize (if plainB s = true ∧ (Tg.resolve s).w = t then (⟨6, [], [], s, true⟩ : Ev.E) else ⟨6, [], Fl.unless' t Fl.strW, s, false⟩) = E at *
    obtain ⟨ek, ea, et, es, ep⟩ := E
    simp only at CS ⊢
    subst hW0
    go_enter Tryd.func37, Tryd.ntmps37
    go_wp2_with (go_at_call 66; refine CS.out.mono ?_; rintro e w1 ⟨rfl, hb1⟩; obtain ⟨K1, B1⟩ := KP.out w1 hb1; have hZ := st5_blk K1 (.int .i64 ek) (.string (str ea)) (.string (str et)) (.string (str es)) (.bool ep); have hB5 := st5_below B1 (show w.heap.size ≤ w.heap.size + 1 by omega) (.int .i64 ek) (.string (str ea)) (.string (str et)) (.string (str es)) (.bool ep); obtain ⟨⟨u0, u1, u2, u3, u4⟩, v0, v1, v2, v3, v4⟩ := five K1)
    change bodyPost _ _ _ _ _ (st5 w1 (w.heap.size + 1) (.int .i64 ek) (.string (str ea)) (.string (str et)) (.string (str es)) (.bool ep))
    generalize st5 w1 (w.heap.size + 1) (.int .i64 ek) (.string (str ea)) (.string (str et)) (.string (str es)) (.bool ep) = W5 at *
    obtain ⟨⟨x0, x1, x2, x3, x4⟩, _⟩ := five hZ
    refine bodyPost_ret (v := evV ⟨ek, ea, et, es, ep⟩) (by simp [results, go_sem, evV, *]) rfl ⟨rfl, hB5⟩
  · rw [if_neg h0]
    have b0 : (k == 0) = false := beq_eq_false_iff_ne.2 h0
    by_cases h1 : k = 1
    · subst h1
      rw [if_pos rfl]
      subst hW0
      go_enter Tryd.func37, Tryd.ntmps37
      go_wp2_with (go_at_call 67; refine (unless_any t Ar.seqW _).mono ?_; rintro e w1 ⟨rfl, rfl⟩)
      refine bodyPost_ret (v := evV ⟨2, [], Fl.unless' t Ar.seqW, [], false⟩) (by simp [results, go_sem, evV, str_nil]) rfl ⟨rfl, bthen (bnew _ _) (bnew _ _)⟩
    · rw [if_neg h1]
      have b1 : (k == 1) = false := beq_eq_false_iff_ne.2 h1
      by_cases h2 : k = 2
      · subst h2
        rw [if_pos rfl]
        subst hW0
        go_enter Tryd.func37, Tryd.ntmps37
        go_wp2_with (go_at_call 67; refine (unless_any t Ar.mapW _).mono ?_; rintro e w1 ⟨rfl, rfl⟩)
        refine bodyPost_ret (v := evV ⟨4, [], Fl.unless' t Ar.mapW, [], false⟩) (by simp [results, go_sem, evV, str_nil]) rfl ⟨rfl, bthen (bnew _ _) (bnew _ _)⟩
      · rw [if_neg h2]
        have b2 : (k == 2) = false := beq_eq_false_iff_ne.2 h2
        subst hW0
        go_enter Tryd.func37, Tryd.ntmps37
        go_wp2
        refine bodyPost_ret (v := evV ⟨0, [], [], [], false⟩) (by simp [results, go_sem, evV, str_nil]) rfl ⟨rfl, bthen (bnew _ _) (bnew _ _)⟩
end Go.Proofs.YtbimjdlkffbncaaDoor
