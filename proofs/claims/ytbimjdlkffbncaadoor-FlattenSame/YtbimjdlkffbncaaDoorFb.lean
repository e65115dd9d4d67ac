/-
  Walks of flatten: unlessImplied, ofScalar, Event.
-/
import Derived.Test.YtbimjdlkffbncaaDoorFa
import Derived.Test.YtbimjdlkffbncaaDoorAn
import Derived.Test.YtbimjdlkffbncaaDoorXs
import Derived.BigQuiet
import Derived.BigGuard
namespace Go.Proofs.YtbimjdlkffbncaaDoor
open Go.RowKit
theorem Env.drew {w : World} (h : Env w) : Env w.drew := h.below (bdrew (Below.refl w.heap.size w))
/-- five cells stored, one behind the other -/
def st5 (w : World) (g : Nat) (a b c d e : Value) : World := ((((w.setCell ⟨g, 0, none⟩ a).setCell ⟨g, 1, none⟩ b).setCell ⟨g, 2, none⟩ c).setCell ⟨g, 3, none⟩ d).setCell ⟨g, 4, none⟩ e
theorem st5_blk {w : World} {g : Nat} {a0 a1 a2 a3 a4 : Value} {t : TypeId} {fr : Nat × Nat} (h : w.heap[g]? = some (.cells #[a0, a1, a2, a3, a4] t fr)) (a b c d e : Value) : (st5 w g a b c d e).heap[g]? = some (.cells #[a, b, c, d, e] t fr) := by
  have h := blk_set (blk_set (blk_set (blk_set (blk_set h 0 a) 1 b) 2 c) 3 d) 4 e
  exact h
theorem st5_below {B g : Nat} {w w1 : World} (h : Below B w w1) (hg : B ≤ g) (a b c d e : Value) : Below B w (st5 w1 g a b c d e) := bset5 h hg
theorem kS_str (k : Tg.K) : Tag.kS k = str k.w := by cases k <;> rfl
/-- an event as a value -/
def evV (x : Ev.E) : Value := .agg #[.int .i64 x.kind, .string (str x.anchor), .string (str x.tag), .string (str x.text), .bool x.plain]
theorem unless_any (t c : List UInt8) (w : World) : Calls Tryd.prog 67 #[.string (str t), .string (str c)] w fun e w' => e = .returned (.string (str (Fl.unless' t c))) ∧ w = w' := by
  unfold Fl.unless'
  by_cases h : t = c
  · subst h
    rw [if_pos rfl]
    go_enter Tryd.func67, Tryd.ntmps67
    go_wp2
    go_ret
    exact ⟨rfl, rfl⟩
  · rw [if_neg h]
    have hne : ((str t).toList == (str c).toList) = false := by rw [str_same]; exact beq_eq_false_iff_ne.2 h
    go_enter Tryd.func67, Tryd.ntmps67
    go_wp2
    go_ret
    exact ⟨rfl, rfl⟩

set_option maxHeartbeats 4000000 in
set_option maxRecDepth 100000 in
theorem ofScalar_any (x : Ar.Nd) (a : Option Addr) (c : Nat) (w : World) (h0 : x.kind = 0) (hl : x.text.length ≤ 100000) (hE : Env w) :
    Calls Tryd.prog 66 #[ndV x a c] w fun e w' => e = .returned (evV (Fl.event x)) ∧ Below w.heap.size w w' := by
  unfold Fl.event ndV
  rw [if_pos h0]
  obtain ⟨k, t, s, ks⟩ := x
  simp only at h0 hl ⊢
  subst h0
  have b0 := bnew w (.cells #[.int .i64 0, .string (str t), .string (str s), .slice a ks.length c] 64)
  have b1 := bthen b0 (bnew _ (.cells #[.int .i64 0, .string ⟨#[]⟩, .string ⟨#[]⟩, .string ⟨#[]⟩, .bool false] 40))
  have k0 := alloc_blk w (.cells #[.int .i64 0, .string (str t), .string (str s), .slice a ks.length c] 64)
  have k0 := blk_below k0 (bnew _ (.cells #[.int .i64 0, .string ⟨#[]⟩, .string ⟨#[]⟩, .string ⟨#[]⟩, .bool false] 40))
  have k1 := alloc_blk (w.alloc (.cells #[.int .i64 0, .string (str t), .string (str s), .slice a ks.length c] 64)) (.cells #[.int .i64 0, .string ⟨#[]⟩, .string ⟨#[]⟩, .string ⟨#[]⟩, .bool false] 40)
  have cP := fun W (hE : Env W) => plain_any (str s) W (by rw [str_len]; exact hl) hE
  have cR := fun w => Tag.resolve_any (str s) w (by rw [str_len]; omega)
  rw [str_dat] at cP
  have CP := Lib.hid cP
  have CR := Lib.hid cR
  clear cP cR
  have HE1 := Lib.hid (hE.below b1)
  have ne : (#[.int .i64 0, .string (str t), .string (str s), .slice a ks.length c] : Array Value) = #[.int .i64 0, .string (str t), .string (str s), .slice a ks.length c] := rfl
  cases hp : plainB s
  · rw [hp] at CP
    rw [if_neg (by rintro ⟨h, _⟩; cases h)]
    go_enter Tryd.func66, Tryd.ntmps66
    go_wp2
    generalize (w.alloc (.cells #[.int .i64 0, .string (str t), .string (str s), .slice a ks.length c] 64)).alloc (.cells #[.int .i64 0, .string ⟨#[]⟩, .string ⟨#[]⟩, .string ⟨#[]⟩, .bool false] 40) = W0 at *
    have lt0 := (Array.getElem?_eq_some_iff.1 k0).1
    rw [World.size_alloc] at k1
    have lt1 := (Array.getElem?_eq_some_iff.1 k1).1
    obtain ⟨_, q1, q2, _⟩ := quad k0
    have q1d : W0.drew.cell? ⟨w.heap.size, 1, none⟩ = some (.string (str t)) := q1
    have q2d : W0.drew.cell? ⟨w.heap.size, 2, none⟩ = some (.string (str s)) := q2
    first
      | (go_region_with (first
          | (go_at_call 98; refine (CP.out _ (by first | exact HE1.out | exact HE1.out.drew)).mono ?_; rintro e w1 ⟨rfl, hb1⟩)))
      | (exfalso; done)
    all_goals
      have HB1 := Lib.hid (b1.trans ((⟨hb1.os, hb1.tape, hb1.output, hb1.size, hb1.block⟩ : Below W0.heap.size W0 w1).mono b1.size))
      have K0 := (hb1.block w.heap.size lt0).trans k0
      have K1 := (hb1.block _ lt1).trans k1
      obtain ⟨_, r1, r2, _⟩ := quad K0
      obtain ⟨⟨u0, u1, u2, u3, u4⟩, v0, v1, v2, v3, v4⟩ := five K1
      go_wp2
      go_region_held3 (fun w' => w'.cell? ⟨w.heap.size, 2, none⟩ = some (.string (str s)) ∧ w'.cell? ⟨w.heap.size, 1, none⟩ = some (.string (str t)))
        (first | go_keep)
        (first
          | (go_at_call 67; refine (unless_any _ _ _).mono ?_; rintro e w2 ⟨rfl, rfl⟩))
      have hZ := st5_blk K1 (.int .i64 6) (.string ⟨#[]⟩) (.string (str (Fl.unless' t [115, 116, 114]))) (.string (str s)) (.bool false)
      have hB5 := st5_below HB1.out (show w.heap.size ≤ w.heap.size + 1 by omega) (.int .i64 6) (.string ⟨#[]⟩) (.string (str (Fl.unless' t [115, 116, 114]))) (.string (str s)) (.bool false)
      change Exit.then _ _ Exit.normal _ (st5 w1 (w.heap.size + 1) (.int .i64 6) (.string ⟨#[]⟩) (.string (str (Fl.unless' t [115, 116, 114]))) (.string (str s)) (.bool false)).drew
      generalize st5 w1 (w.heap.size + 1) (.int .i64 6) (.string ⟨#[]⟩) (.string (str (Fl.unless' t [115, 116, 114]))) (.string (str s)) (.bool false) = W5 at *
      have hB6 := bdrew hB5
      have hZ : W5.drew.heap[w.heap.size + 1]? = _ := hZ
      generalize W5.drew = W6 at *
      obtain ⟨⟨x0, x1, x2, x3, x4⟩, _⟩ := five hZ
      go_wp2
      refine bodyPost_ret (v := evV ⟨6, [], Fl.unless' t Fl.strW, s, false⟩) (by simp [results, go_sem, evV, str_nil, Fl.strW, *]) rfl ⟨rfl, hB6⟩
  · rw [hp] at CP
    have CR : Hid (∀ w : World, Calls Tryd.prog 77 #[.string (str s)] w fun e w' => e = .returned (.string (str (Tg.resolve s).w)) ∧ w = w') := fun w => (CR.out w).mono fun e w' h => by rw [str_dat, kS_str] at h; exact h
    by_cases ht : (Tg.resolve s).w = t
    · rw [if_pos ⟨rfl, ht⟩]
      rw [ht] at CR
      have hq : ((str t).toList == (str t).toList) = true := by rw [str_same]; simp
      go_enter Tryd.func66, Tryd.ntmps66
      go_wp2
      generalize (w.alloc (.cells #[.int .i64 0, .string (str t), .string (str s), .slice a ks.length c] 64)).alloc (.cells #[.int .i64 0, .string ⟨#[]⟩, .string ⟨#[]⟩, .string ⟨#[]⟩, .bool false] 40) = W0 at *
      have lt0 := (Array.getElem?_eq_some_iff.1 k0).1
      rw [World.size_alloc] at k1
      have lt1 := (Array.getElem?_eq_some_iff.1 k1).1
      obtain ⟨_, q1, q2, _⟩ := quad k0
      go_region_held3 (fun w' => w'.cell? ⟨w.heap.size, 2, none⟩ = some (.string (str s)) ∧ w'.cell? ⟨w.heap.size, 1, none⟩ = some (.string (str t)))
        (first
          | go_keep
          | (go_split_ands
             refine ⟨?_, ?_⟩
             · rw [hb1.cell (by exact lt0)]; assumption
             · rw [hb1.cell (by exact lt0)]; assumption))
        (first
          | (go_at_call 98; refine (CP.out _ HE1.out.drew).mono ?_; rintro e w1 ⟨rfl, hb1⟩)
          | (go_at_call 77; refine (CR.out _).mono ?_; rintro e w2 ⟨rfl, rfl⟩))
      have HB1 := Lib.hid (b1.trans ((⟨hb1.os, hb1.tape, hb1.output, hb1.size, hb1.block⟩ : Below W0.heap.size W0 w1).mono b1.size))
      have K0 := (hb1.block w.heap.size lt0).trans k0
      have K1 := (hb1.block _ lt1).trans k1
      obtain ⟨_, r1, r2, _⟩ := quad K0
      obtain ⟨⟨u0, u1, u2, u3, u4⟩, v0, v1, v2, v3, v4⟩ := five K1
      have hZ := st5_blk K1 (.int .i64 6) (.string ⟨#[]⟩) (.string ⟨#[]⟩) (.string (str s)) (.bool true)
      have hB5 := st5_below HB1.out (show w.heap.size ≤ w.heap.size + 1 by omega) (.int .i64 6) (.string ⟨#[]⟩) (.string ⟨#[]⟩) (.string (str s)) (.bool true)
      go_wp2
      change bodyPost _ _ _ _ _ (st5 w1 (w.heap.size + 1) (.int .i64 6) (.string ⟨#[]⟩) (.string ⟨#[]⟩) (.string (str s)) (.bool true))
      generalize st5 w1 (w.heap.size + 1) (.int .i64 6) (.string ⟨#[]⟩) (.string ⟨#[]⟩) (.string (str s)) (.bool true) = W5 at *
      obtain ⟨⟨x0, x1, x2, x3, x4⟩, _⟩ := five hZ
      refine bodyPost_ret (v := evV ⟨6, [], [], s, true⟩) (by simp [results, go_sem, evV, str_nil, *]) rfl ⟨rfl, hB5⟩
    · rw [if_neg (fun h => ht h.2)]
      have hq : ((str (Tg.resolve s).w).toList == (str t).toList) = false := by rw [str_same]; exact beq_eq_false_iff_ne.2 ht
      generalize (Tg.resolve s).w = rt at *
      go_enter Tryd.func66, Tryd.ntmps66
      go_wp2
      generalize (w.alloc (.cells #[.int .i64 0, .string (str t), .string (str s), .slice a ks.length c] 64)).alloc (.cells #[.int .i64 0, .string ⟨#[]⟩, .string ⟨#[]⟩, .string ⟨#[]⟩, .bool false] 40) = W0 at *
      have lt0 := (Array.getElem?_eq_some_iff.1 k0).1
      rw [World.size_alloc] at k1
      have lt1 := (Array.getElem?_eq_some_iff.1 k1).1
      obtain ⟨_, q1, q2, _⟩ := quad k0
      go_region_held3 (fun w' => w'.cell? ⟨w.heap.size, 2, none⟩ = some (.string (str s)) ∧ w'.cell? ⟨w.heap.size, 1, none⟩ = some (.string (str t)))
        (first
          | go_keep
          | (go_split_ands
             refine ⟨?_, ?_⟩
             · rw [hb1.cell (by exact lt0)]; assumption
             · rw [hb1.cell (by exact lt0)]; assumption))
        (first
          | (go_at_call 98; refine (CP.out _ HE1.out.drew).mono ?_; rintro e w1 ⟨rfl, hb1⟩)
          | (go_at_call 77; refine (CR.out _).mono ?_; rintro e w2 ⟨rfl, rfl⟩))
      have HB1 := Lib.hid (b1.trans ((⟨hb1.os, hb1.tape, hb1.output, hb1.size, hb1.block⟩ : Below W0.heap.size W0 w1).mono b1.size))
      have K0 := (hb1.block w.heap.size lt0).trans k0
      have K1 := (hb1.block _ lt1).trans k1
      obtain ⟨_, r1, r2, _⟩ := quad K0
      obtain ⟨⟨u0, u1, u2, u3, u4⟩, v0, v1, v2, v3, v4⟩ := five K1
      go_wp2
      go_region_held3 (fun w' => w'.cell? ⟨w.heap.size, 2, none⟩ = some (.string (str s)) ∧ w'.cell? ⟨w.heap.size, 1, none⟩ = some (.string (str t)))
        (first | go_keep)
        (first
          | (go_at_call 67; refine (unless_any _ _ _).mono ?_; rintro e w2 ⟨rfl, rfl⟩))
      have hZ := st5_blk K1 (.int .i64 6) (.string ⟨#[]⟩) (.string (str (Fl.unless' t [115, 116, 114]))) (.string (str s)) (.bool false)
      have hB5 := st5_below HB1.out (show w.heap.size ≤ w.heap.size + 1 by omega) (.int .i64 6) (.string ⟨#[]⟩) (.string (str (Fl.unless' t [115, 116, 114]))) (.string (str s)) (.bool false)
      change Exit.then _ _ Exit.normal _ (st5 w1 (w.heap.size + 1) (.int .i64 6) (.string ⟨#[]⟩) (.string (str (Fl.unless' t [115, 116, 114]))) (.string (str s)) (.bool false)).drew
      generalize st5 w1 (w.heap.size + 1) (.int .i64 6) (.string ⟨#[]⟩) (.string (str (Fl.unless' t [115, 116, 114]))) (.string (str s)) (.bool false) = W5 at *
      have hB6 := bdrew hB5
      have hZ : W5.drew.heap[w.heap.size + 1]? = _ := hZ
      generalize W5.drew = W6 at *
      obtain ⟨⟨x0, x1, x2, x3, x4⟩, _⟩ := five hZ
      go_wp2
      refine bodyPost_ret (v := evV ⟨6, [], Fl.unless' t Fl.strW, s, false⟩) (by simp [results, go_sem, evV, str_nil, Fl.strW, *]) rfl ⟨rfl, hB6⟩
end Go.Proofs.YtbimjdlkffbncaaDoor
