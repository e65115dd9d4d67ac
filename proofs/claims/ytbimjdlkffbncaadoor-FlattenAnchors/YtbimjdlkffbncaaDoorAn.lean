/-
  Are two graphs the same? The walks of alike, slices.EqualFunc and Same.
-/
import Derived.Test.YtbimjdlkffbncaaDoorAm
namespace Go.Proofs.YtbimjdlkffbncaaDoor
namespace Ar
def alikeN (x y : Nd) : Bool := (x.kind == y.kind) && ((x.tag == y.tag) && ((x.text == y.text) && (x.kids == y.kids)))
theorem alikeN_eq (x y : Nd) : alikeN x y = true ↔ x = y := by
  obtain ⟨a, b, c, d⟩ := x
  obtain ⟨e, f, g, h⟩ := y
  unfold alikeN
  simp only [Bool.and_eq_true, beq_iff_eq, Nd.mk.injEq]
/-- the very same nodes? -/
def equalN : List Nd → List Nd → Bool
  | [], [] => true
  | x :: s, y :: t => alikeN x y && equalN s t
  | _, _ => false
theorem equalN_eq : ∀ (s t : List Nd), equalN s t = true ↔ s = t
  | [], [] => by simp [equalN]
  | [], y :: t => by simp [equalN]
  | x :: s, [] => by simp [equalN]
  | x :: s, y :: t => by unfold equalN; rw [Bool.and_eq_true, alikeN_eq, equalN_eq s t, List.cons.injEq]
theorem equalN_len {s t : List Nd} (h : s.length ≠ t.length) : equalN s t = false := by
  cases he : equalN s t
  · rfl
  · rw [(equalN_eq s t).1 he] at h; exact absurd rfl h
def same (a b : List Nd) : Bool := right a && equalN (normal a) (normal b)
theorem same_iff (a b : List Nd) : same a b = true ↔ right a = true ∧ normal a = normal b := by
  unfold same; rw [Bool.and_eq_true, equalN_eq]
end Ar
open Go.RowKit Go.Maps

theorem str_same (a b : List UInt8) : ((str a).toList == (str b).toList) = (a == b) := by rw [Lib.toList_data, Lib.toList_data, str_dat, str_dat]

set_option maxHeartbeats 2000000 in
theorem alike_any (x y : Ar.Nd) (a b : Option Addr) (c d : Nat) (w : World) (hx : RdI w w.heap.size (.slice a x.kids.length c) x.kids) (hy : RdI w w.heap.size (.slice b y.kids.length d) y.kids) (hlx : x.kids.length ≤ 1000000) (hly : y.kids.length ≤ 1000000) :
    Calls Tryd.prog 62 #[ndV x a c, ndV y b d] w fun e w' => e = .returned (.bool (Ar.alikeN x y)) ∧ Below w.heap.size w w' := by
  obtain ⟨k1, t1, s1, ks1⟩ := x
  obtain ⟨k2, t2, s2, ks2⟩ := y
  simp only at hx hy hlx hly
  unfold ndV Ar.alikeN
  simp only
  have e2 := str_same t1 t2
  have e3 := str_same s1 s2
  have HX := Lib.hid hx
  have HY := Lib.hid hy
  have HB := Lib.hid (bthen (bnew w (.cells #[.int .i64 k1, .string (str t1), .string (str s1), .slice a ks1.length c] 64)) (bnew (w.alloc (.cells #[.int .i64 k1, .string (str t1), .string (str s1), .slice a ks1.length c] 64)) (.cells #[.int .i64 k2, .string (str t2), .string (str s2), .slice b ks2.length d] 64)))
  clear hx hy
  cases h1 : k1 == k2
  · go_enter Tryd.func62, Tryd.ntmps62
    go_wp2
    go_ret
    exact ⟨rfl, HB.out⟩
  · rw [Bool.true_and]
    cases h2 : t1 == t2
    · rw [h2] at e2
      go_enter Tryd.func62, Tryd.ntmps62
      go_wp2
      go_ret
      exact ⟨rfl, HB.out⟩
    · rw [h2] at e2
      rw [Bool.true_and]
      cases h3 : s1 == s2
      · rw [h3] at e3
        go_enter Tryd.func62, Tryd.ntmps62
        go_wp2
        go_ret
        exact ⟨rfl, HB.out⟩
      · rw [h3] at e3
        rw [Bool.true_and]
        go_enter Tryd.func62, Tryd.ntmps62
        go_wp2_with (go_at_call 97; refine (equalI_any _ _ ks1 ks2 w.heap.size w.heap.size _ (HX.out.below HB.out) (HY.out.below HB.out) hlx hly).mono ?_; rintro e w1 ⟨rfl, q, rfl⟩)
        go_ret
        exact ⟨rfl, HB.out.os, HB.out.tape, HB.out.output, HB.out.size, HB.out.block⟩

theorem equalN_drop (xs ys : List Ar.Nd) (j : Nat) (h1 : j < xs.length) (h2 : j < ys.length) : Ar.equalN (xs.drop j) (ys.drop j) = (Ar.alikeN xs[j] ys[j] && Ar.equalN (xs.drop (j + 1)) (ys.drop (j + 1))) := by
  rw [List.drop_eq_getElem_cons h1, List.drop_eq_getElem_cons h2]; rfl
set_option maxHeartbeats 2000000 in
theorem equalFunc_any (v u : Value) (xs ys : List Ar.Nd) (w : World) (hv : RdG w w.heap.size v xs) (hu : RdG w w.heap.size u ys) (hlx : xs.length ≤ 1000000) (hly : ys.length ≤ 1000000) (hkx : ∀ x ∈ xs, x.kids.length ≤ 1000000) (hky : ∀ y ∈ ys, y.kids.length ≤ 1000000) :
    Calls Tryd.prog 61 #[v, u, .func (.func 62) #[] #[]] w fun e w' => e = .returned (.bool (Ar.equalN xs ys)) ∧ Below w.heap.size w w' := by
  have HX := Lib.hid hv
  have HY := Lib.hid hu
  have KX := Lib.hid hkx
  have KY := Lib.hid hky
  clear hkx hky
  obtain ⟨xa, xc, rfl, hxc, _⟩ := hv
  obtain ⟨ya, yc, rfl, hyc, _⟩ := hu
  by_cases hne : xs.length = ys.length
  · obtain ⟨n, hn⟩ : ∃ n, ys.length = n := ⟨_, rfl⟩
    rw [hn] at hne
    rw [hne, hn]
    obtain ⟨ANS, hANS⟩ : ∃ ANS, Ar.equalN xs ys = ANS := ⟨_, rfl⟩
    rw [hANS]
    have HA : Hid (Ar.equalN (xs.drop 0) (ys.drop 0) = ANS) := hANS
    clear hANS
    go_enter Tryd.func61, Tryd.ntmps61
    go_wp2
    go_loopw [17] (fun i wr => ∃ (j : Nat), j ≤ n ∧ i = .int .i64 j ∧ Hid (Ar.equalN (xs.drop j) (ys.drop j) = ANS) ∧ Hid (Below w.heap.size w wr)) (fun i _ => n - (intOf i).toNat)
    case atStart => exact ⟨0, by omega, rfl, HA, Lib.hid (Below.refl _ _)⟩
    case round =>
      obtain ⟨j, hj, rfl, HI, HB⟩ := hrel
      clear HA
      by_cases hln : j < n
      · have hlt : j < xs.length := by omega
        have hlt2 : j < ys.length := by omega
        have hI := HI.out
        rw [equalN_drop xs ys j hlt hlt2] at hI
        clear HI
        have hsz := HB.out.size
        obtain ⟨_, _, hv, _, hcl⟩ := HX.out.below HB.out
        cases hv
        obtain ⟨xg, rfl, hxg, hcl⟩ := hcl (by omega)
        obtain ⟨_, _, hv, _, hcl2⟩ := HY.out.below HB.out
        cases hv
        obtain ⟨yg, rfl, hyg, hcl2⟩ := hcl2 (by omega)
        obtain ⟨m0, m1, m2, ⟨a, c, m3, m4⟩⟩ := hcl j hlt
        obtain ⟨n0, n1, n2, ⟨b, d, n3, n4⟩⟩ := hcl2 j hlt2
        have hlk := KX.out _ (List.getElem_mem hlt)
        have hlk2 := KY.out _ (List.getElem_mem hlt2)
        clear hcl hcl2
        generalize xs[j] = x at *
        generalize ys[j] = y at *
        have b1 := bnew wr (.cells #[.int .i64 x.kind, .string (str x.tag), .string (str x.text), .slice a x.kids.length c] 64)
        have n0' := (b1.cell (p := ⟨yg, j * 4, none⟩) (Nat.lt_of_lt_of_le hyg hsz)).trans n0
        have n1' := (b1.cell (p := ⟨yg, j * 4 + 1, none⟩) (Nat.lt_of_lt_of_le hyg hsz)).trans n1
        have n2' := (b1.cell (p := ⟨yg, j * 4 + 2, none⟩) (Nat.lt_of_lt_of_le hyg hsz)).trans n2
        have n3' := (b1.cell (p := ⟨yg, j * 4 + 3, none⟩) (Nat.lt_of_lt_of_le hyg hsz)).trans n3
        have k1 := alloc_blk wr (.cells #[.int .i64 x.kind, .string (str x.tag), .string (str x.text), .slice a x.kids.length c] 64)
        have b2 := bnew (wr.alloc (.cells #[.int .i64 x.kind, .string (str x.tag), .string (str x.text), .slice a x.kids.length c] 64)) (.cells #[.int .i64 y.kind, .string (str y.tag), .string (str y.text), .slice b y.kids.length d] 64)
        obtain ⟨q0, q1, q2, q3⟩ := quad (blk_below k1 b2)
        have B2 := Lib.hid (HB.out.trans ((bthen b1 b2).mono hsz))
        have cA := Lib.hid (alike_any x y a b c d _ ((m4.below ((bthen b1 b2).mono hsz)).mono B2.out.size) ((n4.below ((bthen b1 b2).mono hsz)).mono B2.out.size) hlk hlk2)
        clear m4 n4 b1 b2 k1
        cases hx : Ar.alikeN x y
        · rw [hx, Bool.false_and] at hI
          subst hI
          rw [hx] at cA
          go_wp2_with (go_at_call 62; refine cA.out.mono ?_; rintro e w2 ⟨rfl, hb2⟩)
          go_ret
          exact ⟨rfl, B2.out.trans (hb2.mono B2.out.size)⟩
        · rw [hx, Bool.true_and] at hI
          rw [hx] at cA
          have HI := Lib.hid hI
          clear hI
          go_wp2_with (go_at_call 62; refine cA.out.mono ?_; rintro e w2 ⟨rfl, hb2⟩)
          go_roundw
          case rel => exact ⟨j + 1, by omega, by go_num, HI, Lib.hid (B2.out.trans (hb2.mono B2.out.size))⟩
          case measure => simp [intOf]; omega
      · have hI := HI.out
        rw [List.drop_eq_nil_of_le (by omega), List.drop_eq_nil_of_le (by omega)] at hI
        have hI : true = ANS := hI
        subst hI
        go_wp2
        go_ret
        exact ⟨rfl, HB.out⟩
  · rw [Ar.equalN_len hne]
    have i0 : ((xs.length : Int) == (ys.length : Int)) = false := beq_eq_false_iff_ne.2 (by omega)
    go_enter Tryd.func61, Tryd.ntmps61
    go_wp2
    go_ret
    exact ⟨rfl, Below.refl _ _⟩
theorem normal_kids (g : List Ar.Nd) (hf : ∀ x ∈ g, Fine x) : ∀ x ∈ Ar.normal g, x.kids.length ≤ 1000000 := by
  intro x hx
  unfold Ar.normal at hx
  obtain ⟨a, ha, rfl⟩ := List.mem_map.1 hx
  have hlt := (Ar.order_nb g).2 a ha
  unfold Ar.renum
  simp only [List.length_map]
  rw [Ar.at_get g a (by omega) (by simpa using hlt)]
  exact (hf _ (List.getElem_mem _)).kids
theorem normal_le (g : List Ar.Nd) : (Ar.normal g).length ≤ g.length := by
  unfold Ar.normal; rw [List.length_map]; exact (Ar.order_nb g).len
set_option maxHeartbeats 2000000 in
theorem same_any (v u : Value) (g h : List Ar.Nd) (w : World) (hg : RdG w w.heap.size v g) (hh : RdG w w.heap.size u h) (hgl : g.length ≤ 1000000) (hhl : h.length ≤ 1000000) (hfg : ∀ x ∈ g, Fine x) (hfh : ∀ x ∈ h, Fine x) (hE : Env w) :
    Calls Tryd.prog 33 #[v, u] w fun e w' => e = .returned (.bool (Ar.same g h)) ∧ Below w.heap.size w w' := by
  have cR := right_any v g w hg hgl hfg hE
  unfold Ar.same
  cases hr : Ar.right g
  · rw [hr] at cR
    have cR := Lib.hid cR
    go_enter Tryd.func33, Tryd.ntmps33
    go_wp2_with (go_at_call 21; refine cR.out.mono ?_; rintro e w1 ⟨rfl, hb1⟩)
    go_ret
    exact ⟨rfl, hb1⟩
  · rw [hr] at cR
    have cR := Lib.hid cR
    rw [Bool.true_and]
    have cN := fun w1 (hb : Below w.heap.size w w1) => normal_any v g w1 ((hg.below hb).mono hb.size) hgl hfg (hE.below hb)
    have cM := fun w1 (hb : Below w.heap.size w w1) => normal_any u h w1 ((hh.below hb).mono hb.size) hhl hfh (hE.below hb)
    have l1 := Nat.le_trans (normal_le g) hgl
    have l2 := Nat.le_trans (normal_le h) hhl
    have k1 := normal_kids g hfg
    have k2 := normal_kids h hfh
    go_enter Tryd.func33, Tryd.ntmps33
    go_wp2_with fail
    refine cR.out.mono ?_
    rintro e w1 ⟨rfl, hb1⟩
    go_wp2_with fail
    refine (cN w1 hb1).mono ?_
    rintro e w2 ⟨⟨p, rfl, hp⟩, hb2⟩
    have hb12 := bthen hb1 hb2
    go_wp2_with fail
    refine (cM w2 hb12).mono ?_
    rintro e w3 ⟨⟨q, rfl, hq⟩, hb3⟩
    have hb13 := bthen hb12 hb3
    go_wp2_with fail
    refine (equalFunc_any p q _ _ w3 (hp.below hb3).rd hq.rd l1 l2 k1 k2).mono ?_
    rintro e w4 ⟨rfl, hb4⟩
    go_wp2
    go_ret
    exact ⟨rfl, bthen hb13 hb4⟩
end Go.Proofs.YtbimjdlkffbncaaDoor
