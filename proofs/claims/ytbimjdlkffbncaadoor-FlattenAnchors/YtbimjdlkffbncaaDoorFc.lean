/-
  Walks of flatten: unlessImplied, ofScalar, Event.
  Walks of flatten: newTeller, isFirst; the closure that tells how deep a graph stands, and Deep.
-/
import Derived.Test.YtbimjdlkffbncaaDoorFa
import Derived.Test.YtbimjdlkffbncaaDoorAn
import Derived.Test.YtbimjdlkffbncaaDoorXs
import Derived.BigQuiet
import Derived.BigGuard
namespace Go.Proofs.YtbimjdlkffbncaaDoor
open Go.RowKit
theorem Env.drew {w : World} (h : Env w) : Env w.drew := h.below (bdrew (Below.refl w.heap.size w))
/-- five cells stored, one behind the other -/
def st5 (w : World) (g : Nat) (a b c d e : Value) : World := ((((w.setCell ⟨g, 0, none⟩ a).setCell ⟨g, 1, none⟩ b).setCell ⟨g, 2, none⟩ c).setCell ⟨g, 3, none⟩ d).setCell ⟨g, 4, none⟩ e
theorem st5_blk {w : World} {g : Nat} {a0 a1 a2 a3 a4 : Value} {t : TypeId} {fr : Nat × Nat} (h : w.heap[g]? = some (.cells #[a0, a1, a2, a3, a4] t fr)) (a b c d e : Value) : (st5 w g a b c d e).heap[g]? = some (.cells #[a, b, c, d, e] t fr) := by
  have h := blk_set (blk_set (blk_set (blk_set (blk_set h 0 a) 1 b) 2 c) 3 d) 4 e
  exact h
theorem st5_below {B g : Nat} {w w1 : World} (h : Below B w w1) (hg : B ≤ g) (a b c d e : Value) : Below B w (st5 w1 g a b c d e) := bset5 h hg
theorem kS_str (k : Tg.K) : Tag.kS k = str k.w := by cases k <;> rfl
/-- an event as a value -/
def evV (x : Ev.E) : Value := .agg #[.int .i64 x.kind, .string (str x.anchor), .string (str x.tag), .string (str x.text), .bool x.plain]
theorem unless_any (t c : List UInt8) (w : World) : Calls Tryd.prog 67 #[.string (str t), .string (str c)] w fun e w' => e = .returned (.string (str (Fl.unless' t c))) ∧ w = w' := by
  unfold Fl.unless'
  by_cases h : t = c
  · subst h
    rw [if_pos rfl]
    go_enter Tryd.func67, Tryd.ntmps67
    go_wp2
    go_ret
    exact ⟨rfl, rfl⟩
  · rw [if_neg h]
    have hne : ((str t).toList == (str c).toList) = false := by rw [str_same]; exact beq_eq_false_iff_ne.2 h
    go_enter Tryd.func67, Tryd.ntmps67
    go_wp2
    go_ret
    exact ⟨rfl, rfl⟩

set_option maxHeartbeats 4000000 in
set_option maxRecDepth 100000 in
theorem ofScalar_any (x : Ar.Nd) (a : Option Addr) (c : Nat) (w : World) (h0 : x.kind = 0) (hl : x.text.length ≤ 100000) (hE : Env w) :
    Calls Tryd.prog 66 #[ndV x a c] w fun e w' => e = .returned (evV (Fl.event x)) ∧ Below w.heap.size w w' := by
  unfold Fl.event ndV
  rw [if_pos h0]
  obtain ⟨k, t, s, ks⟩ := x
  simp only at h0 hl ⊢
  subst h0
  have b0 := bnew w (.cells #[.int .i64 0, .string (str t), .string (str s), .slice a ks.length c] 64)
  have b1 := bthen b0 (bnew _ (.cells #[.int .i64 0, .string ⟨#[]⟩, .string ⟨#[]⟩, .string ⟨#[]⟩, .bool false] 40))
  have k0 := alloc_blk w (.cells #[.int .i64 0, .string (str t), .string (str s), .slice a ks.length c] 64)
  have k0 := blk_below k0 (bnew _ (.cells #[.int .i64 0, .string ⟨#[]⟩, .string ⟨#[]⟩, .string ⟨#[]⟩, .bool false] 40))
  have k1 := alloc_blk (w.alloc (.cells #[.int .i64 0, .string (str t), .string (str s), .slice a ks.length c] 64)) (.cells #[.int .i64 0, .string ⟨#[]⟩, .string ⟨#[]⟩, .string ⟨#[]⟩, .bool false] 40)
  have cP := fun W (hE : Env W) => plain_any (str s) W (by rw [str_len]; exact hl) hE
  have cR := fun w => Tag.resolve_any (str s) w (by rw [str_len]; omega)
  rw [str_dat] at cP
  have CP := Lib.hid cP
  have CR := Lib.hid cR
  clear cP cR
  have HE1 := Lib.hid (hE.below b1)
  have ne : (#[.int .i64 0, .string (str t), .string (str s), .slice a ks.length c] : Array Value) = #[.int .i64 0, .string (str t), .string (str s), .slice a ks.length c] := rfl
  cases hp : plainB s
  · rw [hp] at CP
    rw [if_neg (by rintro ⟨h, _⟩; cases h)]
    go_enter Tryd.func66, Tryd.ntmps66
    go_wp2
    generalize (w.alloc (.cells #[.int .i64 0, .string (str t), .string (str s), .slice a ks.length c] 64)).alloc (.cells #[.int .i64 0, .string ⟨#[]⟩, .string ⟨#[]⟩, .string ⟨#[]⟩, .bool false] 40) = W0 at *
    have lt0 := (Array.getElem?_eq_some_iff.1 k0).1
    rw [World.size_alloc] at k1
    have lt1 := (Array.getElem?_eq_some_iff.1 k1).1
    obtain ⟨_, q1, q2, _⟩ := quad k0
    have q1d : W0.drew.cell? ⟨w.heap.size, 1, none⟩ = some (.string (str t)) := q1
    have q2d : W0.drew.cell? ⟨w.heap.size, 2, none⟩ = some (.string (str s)) := q2
    first
      | (go_region_with (first
          | (go_at_call 98; refine (CP.out _ (by first | exact HE1.out | exact HE1.out.drew)).mono ?_; rintro e w1 ⟨rfl, hb1⟩)))
      | (exfalso; done)
    all_goals
      have HB1 := Lib.hid (b1.trans ((⟨hb1.os, hb1.tape, hb1.output, hb1.size, hb1.block⟩ : Below W0.heap.size W0 w1).mono b1.size))
      have K0 := (hb1.block w.heap.size lt0).trans k0
      have K1 := (hb1.block _ lt1).trans k1
      obtain ⟨_, r1, r2, _⟩ := quad K0
      obtain ⟨⟨u0, u1, u2, u3, u4⟩, v0, v1, v2, v3, v4⟩ := five K1
      go_wp2
      go_region_held3 (fun w' => w'.cell? ⟨w.heap.size, 2, none⟩ = some (.string (str s)) ∧ w'.cell? ⟨w.heap.size, 1, none⟩ = some (.string (str t)))
        (first | go_keep)
        (first
          | (go_at_call 67; refine (unless_any _ _ _).mono ?_; rintro e w2 ⟨rfl, rfl⟩))
      have hZ := st5_blk K1 (.int .i64 6) (.string ⟨#[]⟩) (.string (str (Fl.unless' t [115, 116, 114]))) (.string (str s)) (.bool false)
      have hB5 := st5_below HB1.out (show w.heap.size ≤ w.heap.size + 1 by omega) (.int .i64 6) (.string ⟨#[]⟩) (.string (str (Fl.unless' t [115, 116, 114]))) (.string (str s)) (.bool false)
      change Exit.then _ _ Exit.normal _ (st5 w1 (w.heap.size + 1) (.int .i64 6) (.string ⟨#[]⟩) (.string (str (Fl.unless' t [115, 116, 114]))) (.string (str s)) (.bool false)).drew
      generalize st5 w1 (w.heap.size + 1) (.int .i64 6) (.string ⟨#[]⟩) (.string (str (Fl.unless' t [115, 116, 114]))) (.string (str s)) (.bool false) = W5 at *
      have hB6 := bdrew hB5
      have hZ : W5.drew.heap[w.heap.size + 1]? = _ := hZ
      generalize W5.drew = W6 at *
      obtain ⟨⟨x0, x1, x2, x3, x4⟩, _⟩ := five hZ
      go_wp2
      refine bodyPost_ret (v := evV ⟨6, [], Fl.unless' t Fl.strW, s, false⟩) (by simp [results, go_sem, evV, str_nil, Fl.strW, *]) rfl ⟨rfl, hB6⟩
  · rw [hp] at CP
    have CR : Hid (∀ w : World, Calls Tryd.prog 77 #[.string (str s)] w fun e w' => e = .returned (.string (str (Tg.resolve s).w)) ∧ w = w') := fun w => (CR.out w).mono fun e w' h => by rw [str_dat, kS_str] at h; exact h
    by_cases ht : (Tg.resolve s).w = t
    · rw [if_pos ⟨rfl, ht⟩]
      rw [ht] at CR
      have hq : ((str t).toList == (str t).toList) = true := by rw [str_same]; simp
      go_enter Tryd.func66, Tryd.ntmps66
      go_wp2
      generalize (w.alloc (.cells #[.int .i64 0, .string (str t), .string (str s), .slice a ks.length c] 64)).alloc (.cells #[.int .i64 0, .string ⟨#[]⟩, .string ⟨#[]⟩, .string ⟨#[]⟩, .bool false] 40) = W0 at *
      have lt0 := (Array.getElem?_eq_some_iff.1 k0).1
      rw [World.size_alloc] at k1
      have lt1 := (Array.getElem?_eq_some_iff.1 k1).1
      obtain ⟨_, q1, q2, _⟩ := quad k0
      go_region_held3 (fun w' => w'.cell? ⟨w.heap.size, 2, none⟩ = some (.string (str s)) ∧ w'.cell? ⟨w.heap.size, 1, none⟩ = some (.string (str t)))
        (first
          | go_keep
          | (go_split_ands
             refine ⟨?_, ?_⟩
             · rw [hb1.cell (by exact lt0)]; assumption
             · rw [hb1.cell (by exact lt0)]; assumption))
        (first
          | (go_at_call 98; refine (CP.out _ HE1.out.drew).mono ?_; rintro e w1 ⟨rfl, hb1⟩)
          | (go_at_call 77; refine (CR.out _).mono ?_; rintro e w2 ⟨rfl, rfl⟩))
      have HB1 := Lib.hid (b1.trans ((⟨hb1.os, hb1.tape, hb1.output, hb1.size, hb1.block⟩ : Below W0.heap.size W0 w1).mono b1.size))
      have K0 := (hb1.block w.heap.size lt0).trans k0
      have K1 := (hb1.block _ lt1).trans k1
      obtain ⟨_, r1, r2, _⟩ := quad K0
      obtain ⟨⟨u0, u1, u2, u3, u4⟩, v0, v1, v2, v3, v4⟩ := five K1
      have hZ := st5_blk K1 (.int .i64 6) (.string ⟨#[]⟩) (.string ⟨#[]⟩) (.string (str s)) (.bool true)
      have hB5 := st5_below HB1.out (show w.heap.size ≤ w.heap.size + 1 by omega) (.int .i64 6) (.string ⟨#[]⟩) (.string ⟨#[]⟩) (.string (str s)) (.bool true)
      go_wp2
      change bodyPost _ _ _ _ _ (st5 w1 (w.heap.size + 1) (.int .i64 6) (.string ⟨#[]⟩) (.string ⟨#[]⟩) (.string (str s)) (.bool true))
      generalize st5 w1 (w.heap.size + 1) (.int .i64 6) (.string ⟨#[]⟩) (.string ⟨#[]⟩) (.string (str s)) (.bool true) = W5 at *
      obtain ⟨⟨x0, x1, x2, x3, x4⟩, _⟩ := five hZ
      refine bodyPost_ret (v := evV ⟨6, [], [], s, true⟩) (by simp [results, go_sem, evV, str_nil, *]) rfl ⟨rfl, hB5⟩
    · rw [if_neg (fun h => ht h.2)]
      have hq : ((str (Tg.resolve s).w).toList == (str t).toList) = false := by rw [str_same]; exact beq_eq_false_iff_ne.2 ht
      generalize (Tg.resolve s).w = rt at *
      go_enter Tryd.func66, Tryd.ntmps66
      go_wp2
      generalize (w.alloc (.cells #[.int .i64 0, .string (str t), .string (str s), .slice a ks.length c] 64)).alloc (.cells #[.int .i64 0, .string ⟨#[]⟩, .string ⟨#[]⟩, .string ⟨#[]⟩, .bool false] 40) = W0 at *
      have lt0 := (Array.getElem?_eq_some_iff.1 k0).1
      rw [World.size_alloc] at k1
      have lt1 := (Array.getElem?_eq_some_iff.1 k1).1
      obtain ⟨_, q1, q2, _⟩ := quad k0
      go_region_held3 (fun w' => w'.cell? ⟨w.heap.size, 2, none⟩ = some (.string (str s)) ∧ w'.cell? ⟨w.heap.size, 1, none⟩ = some (.string (str t)))
        (first
          | go_keep
          | (go_split_ands
             refine ⟨?_, ?_⟩
             · rw [hb1.cell (by exact lt0)]; assumption
             · rw [hb1.cell (by exact lt0)]; assumption))
        (first
          | (go_at_call 98; refine (CP.out _ HE1.out.drew).mono ?_; rintro e w1 ⟨rfl, hb1⟩)
          | (go_at_call 77; refine (CR.out _).mono ?_; rintro e w2 ⟨rfl, rfl⟩))
      have HB1 := Lib.hid (b1.trans ((⟨hb1.os, hb1.tape, hb1.output, hb1.size, hb1.block⟩ : Below W0.heap.size W0 w1).mono b1.size))
      have K0 := (hb1.block w.heap.size lt0).trans k0
      have K1 := (hb1.block _ lt1).trans k1
      obtain ⟨_, r1, r2, _⟩ := quad K0
      obtain ⟨⟨u0, u1, u2, u3, u4⟩, v0, v1, v2, v3, v4⟩ := five K1
      go_wp2
      go_region_held3 (fun w' => w'.cell? ⟨w.heap.size, 2, none⟩ = some (.string (str s)) ∧ w'.cell? ⟨w.heap.size, 1, none⟩ = some (.string (str t)))
        (first | go_keep)
        (first
          | (go_at_call 67; refine (unless_any _ _ _).mono ?_; rintro e w2 ⟨rfl, rfl⟩))
      have hZ := st5_blk K1 (.int .i64 6) (.string ⟨#[]⟩) (.string (str (Fl.unless' t [115, 116, 114]))) (.string (str s)) (.bool false)
      have hB5 := st5_below HB1.out (show w.heap.size ≤ w.heap.size + 1 by omega) (.int .i64 6) (.string ⟨#[]⟩) (.string (str (Fl.unless' t [115, 116, 114]))) (.string (str s)) (.bool false)
      change Exit.then _ _ Exit.normal _ (st5 w1 (w.heap.size + 1) (.int .i64 6) (.string ⟨#[]⟩) (.string (str (Fl.unless' t [115, 116, 114]))) (.string (str s)) (.bool false)).drew
      generalize st5 w1 (w.heap.size + 1) (.int .i64 6) (.string ⟨#[]⟩) (.string (str (Fl.unless' t [115, 116, 114]))) (.string (str s)) (.bool false) = W5 at *
      have hB6 := bdrew hB5
      have hZ : W5.drew.heap[w.heap.size + 1]? = _ := hZ
      generalize W5.drew = W6 at *
      obtain ⟨⟨x0, x1, x2, x3, x4⟩, _⟩ := five hZ
      go_wp2
      refine bodyPost_ret (v := evV ⟨6, [], Fl.unless' t Fl.strW, s, false⟩) (by simp [results, go_sem, evV, str_nil, Fl.strW, *]) rfl ⟨rfl, hB6⟩
end Go.Proofs.YtbimjdlkffbncaaDoor
namespace Go.Proofs.YtbimjdlkffbncaaDoor
open Go.RowKit Go.Maps
theorem normal_fine (g : List Ar.Nd) (hf : ∀ x ∈ g, Fine x) : ∀ x ∈ Ar.normal g, Fine x := by
  intro x hx
  unfold Ar.normal at hx
  rw [List.mem_map] at hx
  obtain ⟨a, ha, rfl⟩ := hx
  have hm := (Ar.order_nb g).2 a ha
  unfold Ar.renum
  rw [Ar.at_get g a (by omega) (by simpa using hm)]
  have h := hf _ (List.getElem_mem (show ((a : Nat) : Int).toNat < g.length by simpa using hm))
  exact ⟨h.tag, h.text, by rw [List.length_map]; exact h.kids⟩
theorem RdG.tight {w : World} {B : Nat} {v : Value} {ns : List Ar.Nd} (h : RdG w B v ns) : RdG w B v ns := h

set_option maxHeartbeats 4000000 in
set_option maxRecDepth 100000 in
theorem newTeller_any (v : Value) (g : List Ar.Nd) (w : World) (hg : RdG w w.heap.size v g) (hgl : g.length ≤ 1000000) (hfi : ∀ x ∈ g, Fine x) (hE : Env w) :
    Calls Tryd.prog 63 #[v] w fun e w' => (∃ b ga gc, e = .returned (.pointer (some ⟨b, 0, none⟩)) ∧ w'.heap[b]? = some (.cells #[.slice ga (Ar.normal g).length gc, .int .i64 0] 96) ∧ RdG w' b (.slice ga (Ar.normal g).length gc) (Ar.normal g) ∧ w.heap.size ≤ b ∧ OwnG w' w.heap.size (.slice ga (Ar.normal g).length gc) (Ar.normal g)) ∧ Below w.heap.size w w' := by
  have cN := Lib.hid (normal_any v g w hg hgl hfi hE)
  go_enter Tryd.func63, Tryd.ntmps63
  go_wp2_with (go_at_call 24; refine cN.out.mono ?_; rintro e w1 ⟨⟨u, rfl, ho⟩, hb1⟩; obtain ⟨ga, gc, rfl⟩ := ho.form; have HO := Lib.hid ho; clear ho)
  go_ret
  exact ⟨⟨w1.heap.size, ga, gc, rfl, alloc_blk _ _, HO.out.rd.below (bnew _ _), hb1.size, HO.out.below (bnew _ _)⟩, bthen hb1 (bnew _ _)⟩

theorem first_no (b m a : Nat) (u : Value) (w : World) (h : w.heap[b]? = some (.cells #[u, .int .i64 m] 96)) (hm : a < m) (hl : m ≤ 1000000) :
    Calls Tryd.prog 65 #[.pointer (some ⟨b, 0, none⟩), .int .i64 a] w fun e w' => e = .returned (.bool false) ∧ w = w' := by
  have c1 := cell_blk h 1 _ rfl
  have hd : decide ((a : Int) < (m : Int)) = true := decide_eq_true (by omega)
  go_enter Tryd.func65, Tryd.ntmps65
  go_wp2
  go_ret
  exact ⟨rfl, rfl⟩
theorem first_yes (b m a : Nat) (u : Value) (w : World) (h : w.heap[b]? = some (.cells #[u, .int .i64 m] 96)) (hm : ¬ a < m) (hl : m ≤ 1000000) :
    Calls Tryd.prog 65 #[.pointer (some ⟨b, 0, none⟩), .int .i64 a] w fun e w' => e = .returned (.bool true) ∧ w' = w.setCell ⟨b, 1, none⟩ (.int .i64 ((m + 1 : Nat) : Int)) := by
  have c1 := cell_blk h 1 _ rfl
  have f1 := frozen_blk h 1
  have hd : decide ((a : Int) < (m : Int)) = false := decide_eq_false (by omega)
  go_enter Tryd.func65, Tryd.ntmps65
  go_wp2
  go_ret
  exact ⟨rfl, rfl⟩
/-- the state of Deep's closure: the teller (block tb, held in the box tB), the greatest depth (gB), the closure (fB) -/
structure DeepAt (w : World) (ga : Option Addr) (gc n tb tB gB fB m : Nat) (best : Int) : Prop where
  tBox : w.heap[tB]? = some (.cells #[.pointer (some ⟨tb, 0, none⟩)] 92)
  tel : w.heap[tb]? = some (.cells #[.slice ga n gc, .int .i64 m] 96)
  gBox : w.heap[gB]? = some (.cells #[.int .i64 best] 3)
  fBox : w.heap[fB]? = some (.cells #[.func (.func 64) #[] #[.pointer (some ⟨tB, 0, none⟩), .pointer (some ⟨gB, 0, none⟩), .pointer (some ⟨fB, 0, none⟩)]] 94)
theorem DeepAt.meet {w : World} {ga : Option Addr} {gc n tb tB gB fB m : Nat} {best : Int} (h : DeepAt w ga gc n tb tB gB fB m best) (e1 : tb ≠ tB) (e2 : tb ≠ gB) (e3 : tb ≠ fB) :
    DeepAt (w.setCell ⟨tb, 1, none⟩ (.int .i64 ((m + 1 : Nat) : Int))) ga gc n tb tB gB fB (m + 1) best :=
  ⟨other_set h.tBox _ _ (Ne.symm e1), blk_set h.tel 1 _, other_set h.gBox _ _ (Ne.symm e2), other_set h.fBox _ _ (Ne.symm e3)⟩
theorem DeepAt.best {w : World} {ga : Option Addr} {gc n tb tB gB fB m : Nat} {best : Int} (h : DeepAt w ga gc n tb tB gB fB m best) (b : Int) (e1 : gB ≠ tB) (e2 : gB ≠ tb) (e3 : gB ≠ fB) :
    DeepAt (w.setCell ⟨gB, 0, none⟩ (.int .i64 b)) ga gc n tb tB gB fB m b :=
  ⟨other_set h.tBox _ _ (Ne.symm e1), other_set h.tel _ _ (Ne.symm e2), blk_set h.gBox 0 _, other_set h.fBox _ _ (Ne.symm e3)⟩

set_option maxHeartbeats 4000000 in
set_option maxRecDepth 100000 in
theorem deepGo_any (g : List Ar.Nd) (ga : Option Addr) (gc n tb tB gB fB : Nat) (hn : n = g.length) (hn2 : n ≤ 2000) (hkids : Ar.Kids g) (hfi : ∀ x ∈ g, Fine x)
    (e1 : tb ≠ tB) (e2 : tb ≠ gB) (e3 : tb ≠ fB) (e4 : gB ≠ tB) (e5 : gB ≠ fB) (hB : tb ≤ gB) :
    ∀ (f a m : Nat) (d best : Int) (w : World), a < n → m ≤ n → n + 1 ≤ f + m → 0 ≤ d → d + f ≤ 5000 → DeepAt w ga gc n tb tB gB fB m best → RdG w tb (.slice ga n gc) g →
    Calls Tryd.prog 64 #[.int .i64 a, .int .i64 d, .pointer (some ⟨tB, 0, none⟩), .pointer (some ⟨gB, 0, none⟩), .pointer (some ⟨fB, 0, none⟩)] w
      fun e w' => e = .returned (.tuple #[]) ∧ DeepAt w' ga gc n tb tB gB fB (Fl.deep f g a d (m, best)).1 (Fl.deep f g a d (m, best)).2 ∧ Below tb w w' ∧ m ≤ (Fl.deep f g a d (m, best)).1 ∧ (Fl.deep f g a d (m, best)).1 ≤ n := by
  subst hn
  intro f
  induction f with
  | zero => intro a m d best w ha hmn hf; exact absurd hf (by omega)
  | succ f ih =>
    intro a m d best w ha hmn hf hd0 hdf hD hG
    have c1 := cell_blk hD.tBox 0 _ rfl
    have c2 := cell_blk hD.tel 0 _ rfl
    have c3 := cell_blk hD.gBox 0 _ rfl
    unfold Fl.deep
    by_cases hm : a < m
    · rw [if_pos hm]
      have cF := Lib.hid (first_no tb m a _ w hD.tel hm (by omega))
      go_enter Tryd.func64, Tryd.ntmps64
      go_wp2_with (go_at_call 65; refine cF.out.mono ?_; rintro e w1 ⟨rfl, rfl⟩)
      refine bodyPost_ret (v := .tuple #[]) (by simp [results, go_sem]) rfl ?_
      exact ⟨rfl, hD, Below.refl _ _, Nat.le_refl _, hmn⟩
    · rw [if_neg hm]
      have hD1 := hD.meet e1 e2 e3
      have cF := Lib.hid (first_yes tb m a _ w hD.tel hm (by omega))
      have hb1 : Below tb w (w.setCell ⟨tb, 1, none⟩ (.int .i64 ((m + 1 : Nat) : Int))) := (Below.refl tb w).setCell (p := ⟨tb, 1, none⟩) (Nat.le_refl _) _
      obtain ⟨W1, hW1⟩ : ∃ W1, w.setCell ⟨tb, 1, none⟩ (.int .i64 ((m + 1 : Nat) : Int)) = W1 := ⟨_, rfl⟩
      rw [hW1] at hD1 hb1 cF
      have x1 := cell_blk hD1.tBox 0 _ rfl
      have x2 := cell_blk hD1.tel 0 _ rfl
      have x3 := cell_blk hD1.gBox 0 _ rfl
      have z3 := frozen_blk hD1.gBox 0
      have hG1 := hG.below hb1
      obtain ⟨_, _, hv, hgc, hcl0⟩ := hG1
      cases hv
      obtain ⟨gg, rfl, hgg, hcl⟩ := hcl0 (by omega)
      obtain ⟨n0, n1, n2, ⟨ka, kc, n3, n4⟩⟩ := hcl a ha
      have hat : Ar.at' g (a : Int) = g[a] := Ar.at_get g a (by omega) ha
      have hkn := hkids.at' ha
      have hfk := (hfi _ (List.getElem_mem ha)).kids
      rw [hat] at hkn ⊢
      clear hcl hcl0 hat
      generalize g[a] = x at *
      obtain ⟨k, t, s, ks⟩ := x
      simp only at n0 n3 n4 hkn hfk ⊢
      have hdm : max best d ≤ max best d := Int.le_refl _
      by_cases hk : k = 0
      · subst hk
        rw [if_pos rfl]
        go_enter Tryd.func64, Tryd.ntmps64
        go_wp2_with (go_at_call 65; refine cF.out.mono ?_; rintro e w1 ⟨rfl, rfl⟩)
        refine bodyPost_ret (v := .tuple #[]) (by simp [results, go_sem]) rfl ?_
        exact ⟨rfl, hD1, hb1, Nat.le_succ _, by show m + 1 ≤ g.length; omega⟩
      · rw [if_neg hk]
        have hkb : (k == 0) = false := beq_eq_false_iff_ne.2 hk
        have hD2 := hD1.best (max best d) e4 (Ne.symm e2) e5
        have hb2 : Below tb W1 (W1.setCell ⟨gB, 0, none⟩ (.int .i64 (max best d))) := (Below.refl tb W1).setCell (p := ⟨gB, 0, none⟩) hB _
        have y1 := cell_blk hD2.tBox 0 _ rfl
        have y2 := cell_blk hD2.tel 0 _ rfl
        have y3 := (hb2.cell (p := ⟨gg, a * 4 + 3, none⟩) hgg).trans n3
        have HG : Hid (RdG W1 tb (.slice (some ⟨gg, 0, none⟩) g.length gc) g) := Lib.hid (hG.below hb1)
        have HB1 := Lib.hid hb1
        obtain ⟨ANS, hANS⟩ : ∃ ANS, ks.foldl (fun s k => Fl.deep f g k.toNat (d + 1) s) (m + 1, max best d) = ANS := ⟨_, rfl⟩
        rw [hANS]
        have HA := Lib.hid hANS
        have IH := Lib.hid ih
        have HKN := Lib.hid hkn
        have HD2 := Lib.hid hD2
        have HB2 := Lib.hid hb2
        have N4 := Lib.hid n4
        clear hD hD1 hD2 hb1 hb2 hANS ih hkn hG
        go_enter Tryd.func64, Tryd.ntmps64
        go_wp2_with (go_at_call 65; refine cF.out.mono ?_; rintro e w1 ⟨rfl, rfl⟩)
        go_loopg [36] ks.length (fun q i wr => ∃ (j m2 : Nat) (b2 : Int), j ≤ ks.length ∧ q = ks.length - j ∧ i = .int .i64 j ∧ Hid ((ks.drop j).foldl (fun s k => Fl.deep f g k.toNat (d + 1) s) (m2, b2) = ANS) ∧ Hid (DeepAt wr (some ⟨gg, 0, none⟩) gc g.length tb tB gB fB m2 b2) ∧ m + 1 ≤ m2 ∧ m2 ≤ g.length ∧ Hid (Below tb w1 wr))
        case atStart => exact ⟨0, m + 1, max best d, by omega, by omega, rfl, HA, HD2, Nat.le_refl _, by omega, HB2⟩
        case round =>
          obtain ⟨j, m2, b2, hj, rfl, rfl, HI, HD, hm1, hm2, HB⟩ := hrel
          clear HA HD2 HB2
          by_cases hjt : j < ks.length
          · have hI := HI.out
            rw [List.drop_eq_getElem_cons hjt, List.foldl_cons] at hI
            obtain ⟨_, _, hv, _, hcl0⟩ := N4.out.below HB.out
            cases hv
            obtain ⟨kg, ko, rfl, _, hcl⟩ := hcl0 (by omega)
            have hkm := hcl j hjt
            have hkk := HKN.out _ (List.getElem_mem hjt)
            clear hcl hcl0
            generalize ks[j] = kk at *
            obtain ⟨y, rfl⟩ : ∃ y : Nat, kk = (y : Int) := ⟨kk.toNat, by omega⟩
            rw [Int.toNat_natCast] at hI hkk
            have cI := IH.out y m2 (d + 1) b2 wr hkk.2 hm2 (by omega) (by omega) (by omega) HD.out (HG.out.below HB.out)
            have y4 := cell_blk HD.out.fBox 0 _ rfl
            generalize Fl.deep f g y (d + 1) (m2, b2) = r at *
            obtain ⟨m3, b3⟩ := r
            have HI := Lib.hid hI
            have CI := Lib.hid cI
            clear hI cI
            go_wp2_with (go_at_call 64; refine (CI.out).mono ?_; rintro e w5 ⟨rfl, hD5, hB5, h5, h6⟩)
            go_roundg (ks.length - (j + 1))
            case measure => omega
            case rel => exact ⟨j + 1, m3, b3, by omega, rfl, by go_num, HI, Lib.hid hD5, by omega, h6, Lib.hid (HB.out.trans hB5)⟩
          · have hI := HI.out
            rw [List.drop_eq_nil_of_le (by omega)] at hI
            have hI : (m2, b2) = ANS := hI
            subst hI
            clear HI
            go_wp2
            exact ⟨rfl, .tuple #[], by simp [results, go_sem], rfl, HD.out, HB1.out.trans HB.out, by omega⟩

set_option maxHeartbeats 4000000 in
set_option maxRecDepth 100000 in
theorem deep_of_any (v : Value) (g : List Ar.Nd) (w : World) (hg : RdG w w.heap.size v g) (hgl : g.length ≤ 1000000) (hfi : ∀ x ∈ g, Fine x) (hE : Env w) :
    Calls Tryd.prog 36 #[v] w fun e w' => e = .returned (.int .i64 (Fl.deepOf g)) ∧ Below w.heap.size w w' := by
  have cN := Lib.hid (newTeller_any v g w hg hgl hfi hE)
  have hfn := normal_fine g hfi
  unfold Fl.deepOf Fl.deepN
  have hkn : Ar.normal g ≠ [] → Ar.Kids (Ar.normal g) ∧ (Ar.normal g).length ≤ 2000 := by
    intro hne
    have hr : Ar.right g = true := by
      apply Ar.order_right
      intro e
      apply hne
      unfold Ar.normal
      rw [e]; rfl
    have hn := Ar.normal_right g hr
    exact ⟨right_kids hn, (right_len hn).2⟩
  generalize Ar.normal g = n at *
  have HK := Lib.hid hkn
  clear hkn
  by_cases h0 : n.length = 0
  · rw [if_pos h0]
    go_enter Tryd.func36, Tryd.ntmps36
    go_wp2_with (go_at_call 63; refine cN.out.mono ?_; rintro e w1 ⟨⟨b, ga, gc, rfl, hb, hG, hbw, _⟩, hb1⟩; rw [h0] at hb; have q4 : ∀ (o p q : Obj), (((w1.alloc o).alloc p).alloc q).cell? ⟨b, 0, none⟩ = some (.slice ga 0 gc) := fun o p q => cell_blk (blk_below (blk_below (blk_below hb (bnew w1 o)) (bnew _ p)) (bnew _ q)) 0 _ rfl)
    go_ret
    exact ⟨rfl, bthen hb1 (bthen (bthen (bnew _ _) (bnew _ _)) (bnew _ _))⟩
  · rw [if_neg h0]
    obtain ⟨hkids, hn2⟩ := HK.out (fun e => h0 (by rw [e]; rfl))
    have h0i : (0 : Int) < (n.length : Int) := by omega
    go_enter Tryd.func36, Tryd.ntmps36
    go_wp2_with (go_at_call 63; refine cN.out.mono ?_; rintro e w1 ⟨⟨b, ga, gc, rfl, hb, hG, hbw, _⟩, hb1⟩; have q4 : ∀ (o p q : Obj), (((w1.alloc o).alloc p).alloc q).cell? ⟨b, 0, none⟩ = some (.slice ga n.length gc) := fun o p q => cell_blk (blk_below (blk_below (blk_below hb (bnew w1 o)) (bnew _ p)) (bnew _ q)) 0 _ rfl)
    have hlb := (Array.getElem?_eq_some_iff.1 hb).1
    have FIN : ∀ (A B C : Obj), A = .cells #[.pointer (some ⟨b, 0, none⟩)] 92 → B = .cells #[.int .i64 0] 3 →
        C = .cells #[.func (.func 64) #[] #[.pointer (some ⟨w1.heap.size, 0, none⟩), .pointer (some ⟨w1.heap.size + 1, 0, none⟩), .pointer (some ⟨w1.heap.size + 1 + 1, 0, none⟩)]] 94 →
        Calls Tryd.prog 64 #[.int .i64 ((0 : Nat) : Int), .int .i64 1, .pointer (some ⟨w1.heap.size, 0, none⟩), .pointer (some ⟨w1.heap.size + 1, 0, none⟩), .pointer (some ⟨w1.heap.size + 1 + 1, 0, none⟩)] (((w1.alloc A).alloc B).alloc C)
          fun e w' => e = .returned (.tuple #[]) ∧ w'.cell? ⟨w1.heap.size + 1, 0, none⟩ = some (.int .i64 (Fl.deep (n.length + 1) n 0 1 (0, 0)).2) ∧ Below w.heap.size w w' := by
      intro A B C hA hB hC
      have pB := alloc_blk (w1.alloc A) B
      have pC := alloc_blk ((w1.alloc A).alloc B) C
      rw [World.size_alloc] at pB
      rw [World.size_alloc, World.size_alloc] at pC
      have pA := blk_below (blk_below (alloc_blk w1 A) (bnew (w1.alloc A) B)) (bnew ((w1.alloc A).alloc B) C)
      have pB := blk_below pB (bnew ((w1.alloc A).alloc B) C)
      have bb := bthen (bthen (bnew w1 A) (bnew (w1.alloc A) B)) (bnew ((w1.alloc A).alloc B) C)
      have bw : Below w.heap.size w (((w1.alloc A).alloc B).alloc C) := hb1.trans (bb.mono hb1.size)
      have pT := blk_below hb bb
      subst hA hB hC
      refine (deepGo_any n ga gc n.length b w1.heap.size (w1.heap.size + 1) (w1.heap.size + 1 + 1) rfl hn2 hkids hfn (by omega) (by omega) (by omega) (by omega) (by omega) (by omega)
        (n.length + 1) 0 0 1 0 _ (by omega) (by omega) (by omega) (by omega) (by omega) ⟨pA, pT, pB, pC⟩ (hG.below (bb.mono (by omega)))).mono ?_
      rintro e w5 ⟨rfl, hD, hB, _, _⟩
      exact ⟨rfl, cell_blk hD.gBox 0 _ rfl, bw.trans (hB.mono hbw)⟩
    refine (FIN _ _ _ rfl rfl rfl).mono ?_
    rintro e w5 ⟨rfl, c5, hB5⟩
    go_wp2
    go_ret
    exact ⟨rfl, hB5⟩
end Go.Proofs.YtbimjdlkffbncaaDoor
