/-
  The document's Equal (any two graphs), and Same.
  Print tells normal forms apart (plain mathematics).
  The walk of ArenaSame.
-/
import Derived.Test.YtnlbnnnhmdjciaaDoorCf
import Derived.BigQuiet
namespace Go.Proofs.YtnlbnnnhmdjciaaDoor
open Go.RowKit Go.Maps
theorem str_bne (a b : List UInt8) (c : Bool) (h : (a == b) = c) : ((str a).toList == (str b).toList) = c ∧ ((str a).toList != (str b).toList) = !c := by
  have := str_same a b
  rw [h] at this
  exact ⟨this, by rw [bne, this]⟩
theorem beq_drop (xs ys : List Int) (m : Nat) (hx : m < xs.length) (hy : m < ys.length) : (xs.drop m == ys.drop m) = ((xs[m] == ys[m]) && (xs.drop (m + 1) == ys.drop (m + 1))) := by
  rw [List.drop_eq_getElem_cons hx, List.drop_eq_getElem_cons hy]; rfl

set_option maxHeartbeats 8000000 in
set_option maxRecDepth 100000 in
theorem equalR_any (v u : Value) (xs ys : List Ar.Nd) (w : World) (h1 : RdGo w w.heap.size v xs) (h2 : RdGo w w.heap.size u ys) (hlx : xs.length ≤ 1000000) (hly : ys.length ≤ 1000000) (hkx : ∀ x ∈ xs, x.kids.length ≤ 1000000) (hky : ∀ x ∈ ys, x.kids.length ≤ 1000000) :
    Calls Tryd.prog 16 #[v, u] w fun e w' => e = .returned (.bool (Ar.equalN xs ys)) ∧ ∃ n, w' = w.drewN n := by
  obtain ⟨a, c, rfl, hc, hcl⟩ := h1
  obtain ⟨b, d, rfl, hd, hql⟩ := h2
  have H1 := Lib.hid hcl
  have H2 := Lib.hid hql
  have HKX := Lib.hid hkx
  have HKY := Lib.hid hky
  clear hcl hql hkx hky
  by_cases hne : xs.length = ys.length
  · obtain ⟨n0, hn⟩ : ∃ n, ys.length = n := ⟨_, rfl⟩
    rw [hn] at hne
    rw [hne, hn]
    obtain ⟨ANS, hANS⟩ : ∃ ANS, Ar.equalN xs ys = ANS := ⟨_, rfl⟩
    rw [hANS]
    have HA : Hid (Ar.equalN (xs.drop 0) (ys.drop 0) = ANS) := hANS
    clear hANS
    go_enter Tryd.func16, Tryd.ntmps16
    go_wp2
    go_loopg [5] n0 (fun q i wr => ∃ j n : Nat, j ≤ n0 ∧ q = n0 - j ∧ i = .int .i64 j ∧ Hid (Ar.equalN (xs.drop j) (ys.drop j) = ANS) ∧ wr = w.drewN n)
    case atStart => exact ⟨0, 0, by omega, by omega, rfl, HA, rfl⟩
    case round =>
      obtain ⟨j, n, hj, rfl, rfl, HI, rfl⟩ := hrel
      clear HA
      by_cases hln : j < n0
      · have hlt : j < xs.length := by omega
        have hlt2 : j < ys.length := by omega
        have hI := HI.out
        rw [equalN_drop xs ys j hlt hlt2] at hI
        clear HI
        obtain ⟨g, o, rfl, hg, hcl⟩ := H1.out (by omega)
        obtain ⟨q, p, rfl, hq, hql⟩ := H2.out (by omega)
        obtain ⟨c0, c1, c2, ⟨ka, kc, c3, c4⟩⟩ := hcl j hlt
        obtain ⟨d0, d1, d2, ⟨la, lc, d3, d4⟩⟩ := hql j hlt2
        have hkl := HKX.out _ (List.getElem_mem hlt)
        have hkl2 := HKY.out _ (List.getElem_mem hlt2)
        clear hcl hql
        have hi0 : (0 : Int) ≤ (j : Int) := Int.natCast_nonneg _
        have hi1 : (j : Int) < (n0 : Int) := by omega
        generalize xs[j] = x at *
        generalize ys[j] = y at *
        obtain ⟨k1, t1, s1, ks1⟩ := x
        obtain ⟨k2, t2, s2, ks2⟩ := y
        simp only at c0 c1 c2 c3 c4 d0 d1 d2 d3 d4 hkl hkl2
        unfold Ar.alikeN at hI
        simp only at hI
        have C4 := Lib.hid c4
        have D4 := Lib.hid d4
        clear c4 d4
        cases e1 : k1 == k2
        · rw [e1, Bool.false_and, Bool.false_and] at hI
          have HM := Lib.hid hI
          clear hI
          have f1 : (k1 != k2) = true := by rw [bne, e1]; rfl
          go_wp2
          go_quiet (fail)
          go_wp2
          go_ret
          exact ⟨ret_bool HM.out, _, by first | rfl | exact World.drewN_drewN _ _ _⟩
        · rw [e1, Bool.true_and] at hI
          have f1 : (k1 != k2) = false := by rw [bne, e1]; rfl
          cases e2 : t1 == t2
          · rw [e2, Bool.false_and, Bool.false_and] at hI
            have HM := Lib.hid hI
            clear hI
            obtain ⟨g1, g2⟩ := str_bne t1 t2 _ e2
            go_wp2
            go_quiet (fail)
            go_wp2
            go_ret
            exact ⟨ret_bool HM.out, _, by first | rfl | exact World.drewN_drewN _ _ _⟩
          · rw [e2, Bool.true_and] at hI
            obtain ⟨g1, g2⟩ := str_bne t1 t2 _ e2
            cases e3 : s1 == s2
            · rw [e3, Bool.false_and, Bool.false_and] at hI
              have HM := Lib.hid hI
              clear hI
              obtain ⟨h1, h2⟩ := str_bne s1 s2 _ e3
              go_wp2
              go_quiet (fail)
              go_wp2
              go_ret
              exact ⟨ret_bool HM.out, _, by first | rfl | exact World.drewN_drewN _ _ _⟩
            · rw [e3, Bool.true_and] at hI
              obtain ⟨h1, h2⟩ := str_bne s1 s2 _ e3
              by_cases e4 : ks1.length = ks2.length
              · obtain ⟨L, hL⟩ : ∃ L, ks2.length = L := ⟨_, rfl⟩
                rw [hL] at e4 d3 hkl2
                rw [e4] at c3 hkl
                have HI : Hid (((ks1.drop 0 == ks2.drop 0) && Ar.equalN (xs.drop (j + 1)) (ys.drop (j + 1))) = ANS) := hI
                have E4 := Lib.hid e4
                have EL := Lib.hid hL
                clear hI e4 hL
                go_wp2
                go_quiet (fail)
                go_wp2
                go_loopg [6] L (fun q i wr => ∃ m n : Nat, m ≤ L ∧ q = L - m ∧ i = .int .i64 m ∧ Hid (((ks1.drop m == ks2.drop m) && Ar.equalN (xs.drop (j + 1)) (ys.drop (j + 1))) = ANS) ∧ wr = w.drewN n)
                case atStart => exact ⟨0, _, by omega, by omega, rfl, HI, World.drewN_drewN _ _ _⟩
                case round =>
                  obtain ⟨m, n2, hm, rfl, rfl, HI2, rfl⟩ := hrel
                  clear HI
                  by_cases hmt : m < L
                  · have hm1' : m < ks1.length := by have := E4.out; omega
                    have hm2' : m < ks2.length := by have := EL.out; omega
                    have hI2 := HI2.out
                    rw [beq_drop ks1 ks2 m hm1' hm2', Bool.and_assoc] at hI2
                    clear HI2
                    obtain ⟨_, _, hv, _, hcl⟩ := C4.out
                    simp only [Value.slice.injEq] at hv
                    obtain ⟨rfl, _, rfl⟩ := hv
                    obtain ⟨kg, ko, rfl, _, hcl⟩ := hcl (by omega)
                    obtain ⟨_, _, hv, _, hql⟩ := D4.out
                    simp only [Value.slice.injEq] at hv
                    obtain ⟨rfl, _, rfl⟩ := hv
                    obtain ⟨lg, lo, rfl, _, hql⟩ := hql (by omega)
                    have r1 := hcl m hm1'
                    have r2 := hql m hm2'
                    clear hcl hql
                    have hm0 : (0 : Int) ≤ (m : Int) := Int.natCast_nonneg _
                    have hm1 : (m : Int) < (L : Int) := by omega
                    generalize ks1[m] = kk at *
                    generalize ks2[m] = ll at *
                    cases e5 : kk == ll
                    · rw [e5, Bool.false_and] at hI2
                      have HM := Lib.hid hI2
                      clear hI2
                      have f5 : (kk != ll) = true := by rw [bne, e5]; rfl
                      go_wp2
                      go_quiet (fail)
                      go_wp2
                      go_ret
                      exact ⟨ret_bool HM.out, _, by first | rfl | exact World.drewN_drewN _ _ _⟩
                    · rw [e5, Bool.true_and] at hI2
                      have HI2 := Lib.hid hI2
                      clear hI2
                      have f5 : (kk != ll) = false := by rw [bne, e5]; rfl
                      go_wp2
                      go_quiet (fail)
                      go_wp2
                      go_roundg (L - (m + 1))
                      case measure => omega
                      case rel => exact ⟨m + 1, _, by omega, rfl, by go_num, HI2, by first | rfl | exact World.drewN_drewN _ _ _⟩
                  · have hI2 := HI2.out
                    rw [List.drop_eq_nil_of_le (by have := E4.out; omega), List.drop_eq_nil_of_le (by have := EL.out; omega)] at hI2
                    have hI2 : Ar.equalN (xs.drop (j + 1)) (ys.drop (j + 1)) = ANS := by simpa using hI2
                    have HI3 := Lib.hid hI2
                    clear hI2 HI2
                    go_wp2
                    go_roundg (n0 - (j + 1))
                    case measure => omega
                    case rel => exact ⟨j + 1, _, by omega, rfl, by go_num, HI3, rfl⟩
              · have hkf : (ks1 == ks2) = false := beq_eq_false_iff_ne.2 (fun e => e4 (by rw [e]))
                rw [hkf, Bool.false_and] at hI
                have HM := Lib.hid hI
                clear hI hkf
                have f4 : ((ks1.length : Int) != (ks2.length : Int)) = true := bne_iff_ne.2 (by omega)
                go_wp2
                go_quiet (fail)
                go_wp2
                go_ret
                exact ⟨ret_bool HM.out, _, by first | rfl | exact World.drewN_drewN _ _ _⟩
      · have hI := HI.out
        rw [List.drop_eq_nil_of_le (by omega), List.drop_eq_nil_of_le (by omega)] at hI
        have HM : Hid (true = ANS) := hI
        clear hI HI
        go_wp2
        go_ret
        exact ⟨ret_bool HM.out, _, by first | rfl | exact World.drewN_drewN _ _ _⟩
  · rw [Ar.equalN_len hne]
    have i0 : ((xs.length : Int) != (ys.length : Int)) = true := bne_iff_ne.2 (by omega)
    go_enter Tryd.func16, Tryd.ntmps16
    go_wp2
    go_ret
    exact ⟨rfl, 0, rfl⟩
theorem drewC {w w' : World} (h : ∃ n, w' = w.drewN n) : Below w.heap.size w w' := by
  obtain ⟨n, rfl⟩ := h
  exact ⟨rfl, rfl, rfl, Nat.le_refl _, fun _ _ => rfl⟩
def Ar.sameR (a b : List Ar.Nd) : Bool := Ar.right a && (Ar.right b && Ar.equalN (Ar.normal a) (Ar.normal b))
theorem sameR_eq (a b : List Ar.Nd) : Ar.sameR a b = Ar.same a b := by
  rw [Bool.eq_iff_iff, Ar.same_iff]
  unfold Ar.sameR
  rw [Bool.and_eq_true, Bool.and_eq_true, Ar.equalN_eq]
  constructor
  · rintro ⟨h1, _, h3⟩; exact ⟨h1, h3⟩
  · rintro ⟨h1, h3⟩
    refine ⟨h1, ?_, h3⟩
    have hne : Ar.normal b ≠ [] := by
      rw [← h3]
      intro e
      have := congrArg List.length e
      rw [Ar.normal_len] at this
      obtain ⟨t, ht⟩ := Ar.order_zero a h1
      rw [ht] at this
      simp at this
    exact Ar.order_right (fun e => hne (by unfold Ar.normal; rw [e]; rfl))
theorem normal_kidsL (g : List Ar.Nd) (hk : ∀ x ∈ g, x.kids.length ≤ 1000000) : ∀ x ∈ Ar.normal g, x.kids.length ≤ 1000000 := by
  intro x hx
  unfold Ar.normal at hx
  obtain ⟨a, ha, rfl⟩ := List.mem_map.1 hx
  have hlt := (Ar.order_nb g).2 a ha
  unfold Ar.renum
  simp only [List.length_map]
  rw [Ar.at_get g a (by omega) (by simpa using hlt)]
  exact hk _ (List.getElem_mem _)
theorem OwnR.rd2 {w : World} {B : Nat} {v : Value} {ns : List Ar.Nd} (h : OwnR w B v ns) : RdGo w w.heap.size v ns := h.rd.any
set_option maxHeartbeats 4000000 in
theorem sameR_any (v u : Value) (g h : List Ar.Nd) (w : World) (hg : RdGo w w.heap.size v g) (hh : RdGo w w.heap.size u h) (hgl : g.length ≤ 1000000) (hhl : h.length ≤ 1000000) (hkg : ∀ x ∈ g, x.kids.length ≤ 1000000) (hkh : ∀ x ∈ h, x.kids.length ≤ 1000000) (hsg : ∀ x ∈ g, x.tag.length ≤ 50000 ∧ x.text.length ≤ 50000) (hsh : ∀ x ∈ h, x.tag.length ≤ 50000 ∧ x.text.length ≤ 50000) :
    Calls Tryd.prog 12 #[v, u] w fun e w' => e = .returned (.bool (Ar.same g h)) ∧ Below w.heap.size w w' := by
  rw [← sameR_eq]
  unfold Ar.sameR
  have c1 := rightR_any v g w hg hgl hkg hsg
  have c2 := Lib.hid (fun W (hb : Below w.heap.size w W) => rightR_any u h W ((hh.below hb).mono hb.size) hhl hkh hsh)
  have c3 := Lib.hid (fun W (hb : Below w.heap.size w W) => normalR_any v g W ((hg.below hb).mono hb.size) hgl hkg hsg)
  have c4 := Lib.hid (fun W (hb : Below w.heap.size w W) => normalR_any u h W ((hh.below hb).mono hb.size) hhl hkh hsh)
  have l1 := Nat.le_trans (normal_le g) hgl
  have l2 := Nat.le_trans (normal_le h) hhl
  have k1 := normal_kidsL g hkg
  have k2 := normal_kidsL h hkh
  cases hr : Ar.right g
  · rw [hr] at c1
    have c1 := Lib.hid c1
    go_enter Tryd.func12, Tryd.ntmps12
    go_wp2_with (go_at_call 24; refine c1.out.mono ?_; rintro e w1 ⟨rfl, hb1⟩)
    go_ret
    exact ⟨rfl, hb1⟩
  · rw [hr] at c1
    have c1 := Lib.hid c1
    rw [Bool.true_and]
    cases hr2 : Ar.right h
    · rw [hr2] at c2
      go_enter Tryd.func12, Tryd.ntmps12
      go_wp2_with fail
      refine c1.out.mono ?_
      rintro e w1 ⟨rfl, hb1⟩
      go_wp2_with fail
      refine (c2.out w1 hb1).mono ?_
      rintro e w2 ⟨rfl, hb2⟩
      go_wp2
      go_ret
      exact ⟨rfl, bthen hb1 hb2⟩
    · rw [hr2] at c2
      rw [Bool.true_and]
      go_enter Tryd.func12, Tryd.ntmps12
      go_wp2_with fail
      refine c1.out.mono ?_
      rintro e w1 ⟨rfl, hb1⟩
      go_wp2_with fail
      refine (c2.out w1 hb1).mono ?_
      rintro e w2 ⟨rfl, hb2⟩
      have hb12 := bthen hb1 hb2
      go_wp2_with fail
      refine (c3.out w2 hb12).mono ?_
      rintro e w3 ⟨⟨p, rfl, hp⟩, hb3⟩
      have hb13 := bthen hb12 hb3
      go_wp2_with fail
      refine (c4.out w3 hb13).mono ?_
      rintro e w4 ⟨⟨q, rfl, hq⟩, hb4⟩
      have hb14 := bthen hb13 hb4
      go_wp2_with fail
      refine (equalR_any p q _ _ w4 (hp.below hb4).rd2 hq.rd2 l1 l2 k1 k2).mono ?_
      rintro e w5 ⟨rfl, hq5⟩
      go_wp2
      go_ret
      exact ⟨rfl, bthen hb14 (drewC hq5)⟩
end Go.Proofs.YtnlbnnnhmdjciaaDoor
namespace Go.Proofs.YtnlbnnnhmdjciaaDoor
namespace Ar
/-- neither a blank nor a break -/
def Free (l : List UInt8) : Prop := ∀ b ∈ l, b ≠ 32 ∧ b ≠ 10
theorem cut_free : ∀ (l m : List UInt8) (c d : UInt8) (r s : List UInt8), Free l → Free m → (c = 32 ∨ c = 10) → (d = 32 ∨ d = 10) → l ++ c :: r = m ++ d :: s → l = m ∧ c = d ∧ r = s
  | [], [], c, d, r, s, _, _, _, _, h => by
    simp only [List.nil_append, List.cons.injEq] at h
    exact ⟨rfl, h⟩
  | [], b :: m, c, d, r, s, _, hm, hc, _, h => by
    simp only [List.nil_append, List.cons_append, List.cons.injEq] at h
    have := hm b List.mem_cons_self
    rw [← h.1] at this
    rcases hc with rfl | rfl
    · exact absurd rfl this.1
    · exact absurd rfl this.2
  | b :: l, [], c, d, r, s, hl, _, _, hd, h => by
    simp only [List.nil_append, List.cons_append, List.cons.injEq] at h
    have := hl b List.mem_cons_self
    rw [h.1] at this
    rcases hd with rfl | rfl
    · exact absurd rfl this.1
    · exact absurd rfl this.2
  | a :: l, b :: m, c, d, r, s, hl, hm, hc, hd, h => by
    simp only [List.cons_append, List.cons.injEq] at h
    obtain ⟨h1, h2, h3⟩ := cut_free l m c d r s (fun x hx => hl x (List.mem_cons_of_mem _ hx)) (fun x hx => hm x (List.mem_cons_of_mem _ hx)) hc hd h.2
    exact ⟨by rw [h.1, h1], h2, h3⟩
theorem cut_ten : ∀ (l m r s : List UInt8), (10 : UInt8) ∉ l → (10 : UInt8) ∉ m → l ++ 10 :: r = m ++ 10 :: s → l = m ∧ r = s
  | [], [], r, s, _, _, h => by
    simp only [List.nil_append, List.cons.injEq, true_and] at h
    exact ⟨rfl, h⟩
  | [], b :: m, r, s, _, hm, h => by
    simp only [List.nil_append, List.cons_append, List.cons.injEq] at h
    exact absurd (h.1 ▸ List.mem_cons_self) hm
  | b :: l, [], r, s, hl, _, h => by
    simp only [List.nil_append, List.cons_append, List.cons.injEq] at h
    exact absurd (h.1 ▸ List.mem_cons_self) hl
  | a :: l, b :: m, r, s, hl, hm, h => by
    simp only [List.cons_append, List.cons.injEq] at h
    obtain ⟨h1, h2⟩ := cut_ten l m r s (fun hx => hl (List.mem_cons_of_mem _ hx)) (fun hx => hm (List.mem_cons_of_mem _ hx)) h.2
    exact ⟨by rw [h.1, h1], h2⟩
/-! ### numbers -/
def val (l : List UInt8) : Nat := l.foldl (fun a b => a * 10 + (b.toNat - 48)) 0
theorem dec_digits : ∀ (n u : Nat), u ≤ n → (∀ b ∈ Lib.decDigits u, 48 ≤ b.toNat ∧ b.toNat ≤ 57) ∧ val (Lib.decDigits u) = u
  | n, u, h => by
    rw [Lib.decDigits]
    split
    · rename_i h10
      have e : (UInt8.ofNat (48 + u)).toNat = 48 + u := by rw [UInt8.toNat_ofNat']; omega
      refine ⟨fun b hb => ?_, ?_⟩
      · rw [List.mem_singleton.1 hb, e]; omega
      · show 0 * 10 + ((UInt8.ofNat (48 + u)).toNat - 48) = u
        rw [e]; omega
    · rename_i h10
      have e : (UInt8.ofNat (48 + u % 10)).toNat = 48 + u % 10 := by rw [UInt8.toNat_ofNat']; omega
      match n, h with
      | 0, h => omega
      | n + 1, h =>
        obtain ⟨i1, i2⟩ := dec_digits n (u / 10) (by omega)
        refine ⟨fun b hb => ?_, ?_⟩
        · rcases List.mem_append.1 hb with hb | hb
          · exact i1 b hb
          · rw [List.mem_singleton.1 hb, e]; omega
        · unfold val at i2 ⊢
          rw [List.foldl_append, i2, List.foldl_cons, List.foldl_nil, e]
          omega
theorem itoa_free (k : Int) (h : 0 ≤ k) : Free (Lib.itoa k) := by
  intro b hb
  unfold Lib.itoa at hb
  rw [if_neg (by omega)] at hb
  have := (dec_digits k.toNat k.toNat (Nat.le_refl _)).1 b hb
  constructor <;> (intro e; subst e; revert this; decide)
theorem itoa_inj (k m : Int) (h : 0 ≤ k) (h' : 0 ≤ m) (e : Lib.itoa k = Lib.itoa m) : k = m := by
  unfold Lib.itoa at e
  rw [if_neg (by omega), if_neg (by omega)] at e
  have h1 := (dec_digits k.toNat k.toNat (Nat.le_refl _)).2
  have h2 := (dec_digits m.toNat m.toNat (Nat.le_refl _)).2
  rw [e, h2] at h1
  omega
/-! ### tags -/
theorem name_free {b : UInt8} (h : Tg.inName b = true) : b ≠ 32 ∧ b ≠ 10 := by
  constructor <;> (intro e; subst e; revert h; decide)
theorem word_free (t : List UInt8) : Free (Tg.word t) := by
  intro b hb
  unfold Tg.word at hb
  split at hb
  · rename_i h
    have hc : ∀ c ∈ Tg.cores, Free ([33, 33] ++ c) := by
      intro c hc
      unfold Tg.cores at hc
      simp only [List.mem_cons, List.not_mem_nil, or_false] at hc
      rcases hc with rfl | rfl | rfl | rfl | rfl | rfl | rfl <;> (intro b hb; revert b; decide)
    exact hc t (by unfold Tg.core at h; exact List.contains_iff_mem.1 h) b hb
  · split at hb
    · rename_i h1 h2
      unfold Tg.right at h2
      rw [Bool.eq_false_iff.2 h1, Bool.false_or] at h2
      unfold Tg.isOwn Tg.isName at h2
      simp only [Bool.and_eq_true] at h2
      obtain ⟨hp, _, hn⟩ := h2
      cases t with
      | nil => cases hb
      | cons a l =>
        rcases List.mem_cons.1 hb with rfl | hb
        · have h33 : (33 : UInt8) = b := by
            unfold Lib.hasPrefix at hp
            simpa using hp
          rw [← h33]
          decide
        · exact name_free (List.all_eq_true.1 hn b hb)
    · cases hb
theorem fits_right (t s : List UInt8) (h : Tg.fits t s = true) : Tg.right t = true := by
  have hs : ∀ k : Tg.K, Tg.right k.w = true := by intro k; cases k <;> decide +kernel
  unfold Tg.fits Tg.fitsK at h
  split at h
  · rename_i e; rw [e]; exact hs _
  · split at h
    · rename_i e
      rcases e with e | e | e <;> (rw [e]; exact hs _)
    · split at h
      · rename_i e; rw [e]; exact hs _
      · unfold Tg.right; rw [h, Bool.or_true]
/-- a node whose line can be read -/
structure Plain (x : Nd) : Prop where
  told : Told x
  tag : Tg.right x.tag = true
  scal : x.kind = 0 → x.kids = [] ∧ Lib.validD x.text = true
  oth : x.kind ≠ 0 → x.text = []
theorem mayBe_plain {g : List Nd} {x : Nd} (h : mayBe g x = true) (ht : Told x) : Plain x := by
  have hs : Tg.right seqW = true := by decide +kernel
  have hm : Tg.right mapW = true := by decide +kernel
  have htag : ∀ c, Tg.right c = true → isTagOf c x.tag = true → Tg.right x.tag = true := fun c hc h => by
    unfold isTagOf at h
    rw [Bool.or_eq_true, Bool.and_eq_true, beq_iff_eq] at h
    rcases h with h | h
    · rw [h]; exact hc
    · exact h.1
  unfold mayBe may1 at h
  rw [Bool.and_eq_true] at h
  have h := h.2
  split at h
  · rename_i h0
    simp only [Bool.and_eq_true, List.isEmpty_iff] at h
    exact ⟨ht, fits_right _ _ h.2.2, fun _ => ⟨h.1, h.2.1⟩, fun hk => absurd h0 hk⟩
  · rename_i h0
    split at h
    · simp only [Bool.and_eq_true, List.isEmpty_iff] at h
      exact ⟨ht, htag _ hs h.2, fun hk => absurd hk h0, fun _ => h.1⟩
    · split at h
      · simp only [Bool.and_eq_true, List.isEmpty_iff] at h
        exact ⟨ht, htag _ hm h.2.1, fun hk => absurd hk h0, fun _ => h.1⟩
      · cases h
theorem mark_inj {k m : Int} (h0 : 0 ≤ k) (h3 : k < 3) (h0' : 0 ≤ m) (h3' : m < 3) (e : mark k = mark m) : k = m := by
  have h1 : k = 0 ∨ k = 1 ∨ k = 2 := by omega
  have h2 : m = 0 ∨ m = 1 ∨ m = 2 := by omega
  rcases h1 with rfl | rfl | rfl <;> rcases h2 with rfl | rfl | rfl <;> first | rfl | (exfalso; revert e; decide)
theorem kids_cut : ∀ (ks ms : List Int) (r s : List UInt8), (∀ k ∈ ks, 0 ≤ k) → (∀ k ∈ ms, 0 ≤ k) → ks.flatMap kidW ++ 10 :: r = ms.flatMap kidW ++ 10 :: s → ks = ms ∧ r = s
  | [], [], r, s, _, _, h => by
    simp only [List.flatMap_nil, List.nil_append, List.cons.injEq, true_and] at h
    exact ⟨rfl, h⟩
  | [], m :: ms, r, s, _, _, h => by
    rw [List.flatMap_cons] at h
    unfold kidW at h
    simp at h
  | k :: ks, [], r, s, _, _, h => by
    rw [List.flatMap_cons] at h
    unfold kidW at h
    simp at h
  | k :: ks, m :: ms, r, s, hk, hm, h => by
    have next : ∀ (l : List Int) (r : List UInt8), ∃ c t, (c = 32 ∨ c = 10) ∧ l.flatMap kidW ++ 10 :: r = c :: t := by
      intro l r
      cases l with
      | nil => exact ⟨10, r, .inr rfl, rfl⟩
      | cons a l => exact ⟨32, Lib.itoa a ++ (l.flatMap kidW ++ 10 :: r), .inl rfl, by rw [List.flatMap_cons]; unfold kidW; simp⟩
    obtain ⟨c, t, hc, e1⟩ := next ks r
    obtain ⟨d, u, hd, e2⟩ := next ms s
    rw [List.flatMap_cons, List.flatMap_cons, List.append_assoc, List.append_assoc, e1, e2] at h
    unfold kidW at h
    simp only [List.cons_append, List.cons.injEq, true_and] at h
    obtain ⟨h1, h2, h3⟩ := cut_free _ _ c d t u (itoa_free k (hk k List.mem_cons_self)) (itoa_free m (hm m List.mem_cons_self)) hc hd h
    have h4 := itoa_inj k m (hk k List.mem_cons_self) (hm m List.mem_cons_self) h1
    obtain ⟨h5, h6⟩ := kids_cut ks ms r s (fun q hq => hk q (List.mem_cons_of_mem _ hq)) (fun q hq => hm q (List.mem_cons_of_mem _ hq)) (by rw [e1, e2, h2, h3])
    exact ⟨by rw [h4, h5], h6⟩
/-- a line is one node's -/
theorem line_cut (i : Nat) (x y : Nd) (r s : List UInt8) (hx : Plain x) (hy : Plain y) (h : line i x ++ r = line i y ++ s) : x = y ∧ r = s := by
  unfold line headW at h
  simp only [List.append_assoc, List.cons_append, List.nil_append] at h
  have h := List.append_cancel_left h
  simp only [List.cons.injEq, true_and] at h
  obtain ⟨hm, h⟩ := h
  have hk := mark_inj hx.told.k0 hx.told.k3 hy.told.k0 hy.told.k3 hm
  have tl : ∀ (z : Nd), Plain z → ∀ r, ∃ c t, (c = 32 ∨ c = 10) ∧ ((if z.kind = 0 then 32 :: quoteOf z.text else []) ++ (z.kids.flatMap kidW ++ 10 :: r) : List UInt8) = c :: t := by
    intro z hz r
    by_cases h0 : z.kind = 0
    · rw [if_pos h0]; exact ⟨32, _, .inl rfl, rfl⟩
    · rw [if_neg h0]
      cases hzk : z.kids with
      | nil => exact ⟨10, r, .inr rfl, rfl⟩
      | cons a l => exact ⟨32, Lib.itoa a ++ (l.flatMap kidW ++ 10 :: r), .inl rfl, by rw [List.flatMap_cons]; unfold kidW; simp⟩
  obtain ⟨c, t, hc, e1⟩ := tl x hx r
  obtain ⟨d, u, hd, e2⟩ := tl y hy s
  rw [e1, e2] at h
  obtain ⟨h1, h2, h3⟩ := cut_free _ _ c d t u (word_free _) (word_free _) hc hd h
  have htag : x.tag = y.tag := (Tg.word_inj hx.tag hy.tag).1 h1.symm
  have h4 : ((if x.kind = 0 then 32 :: quoteOf x.text else []) ++ (x.kids.flatMap kidW ++ 10 :: r) : List UInt8) = (if y.kind = 0 then 32 :: quoteOf y.text else []) ++ (y.kids.flatMap kidW ++ 10 :: s) := by rw [e1, e2, h2, h3]
  obtain ⟨xk, xt, xs, xn⟩ := x
  obtain ⟨yk, yt, ys, yn⟩ := y
  simp only at hk htag h4
  subst hk; subst htag
  by_cases h0 : xk = 0
  · obtain ⟨a1, a2⟩ := hx.scal h0
    obtain ⟨b1, b2⟩ := hy.scal h0
    simp only at a1 a2 b1 b2
    subst a1; subst b1
    rw [if_pos h0, if_pos h0] at h4
    simp only [List.flatMap_nil, List.nil_append, List.cons_append, List.cons.injEq, true_and] at h4
    obtain ⟨q1, q2⟩ := cut_ten _ _ _ _ (quote_none xs 10 (.inr rfl)) (quote_none ys 10 (.inr rfl)) h4
    have u1 := unquote_quote xs a2
    rw [q1, unquote_quote ys b2] at u1
    simp only [Option.some.injEq] at u1
    exact ⟨by rw [u1], q2⟩
  · have a1 := hx.oth h0
    have b1 := hy.oth h0
    simp only at a1 b1
    subst a1; subst b1
    simp only [if_neg h0, List.nil_append] at h4
    obtain ⟨q1, q2⟩ := kids_cut _ _ _ _ (fun k hk => (hx.told.lim k hk).1) (fun k hk => (hy.told.lim k hk).1) h4
    have q3 : xn = yn := q1
    subst q3
    exact ⟨rfl, q2⟩
theorem line_some (i : Nat) (x : Nd) : line i x ≠ [] := by unfold line; simp
theorem lines_inj : ∀ (i : Nat) (xs ys : List Nd), (∀ x ∈ xs, Plain x) → (∀ y ∈ ys, Plain y) → linesFrom i xs = linesFrom i ys → xs = ys
  | _, [], [], _, _, _ => rfl
  | i, [], y :: ys, _, _, h => by
    have h : [] = line i y ++ linesFrom (i + 1) ys := h
    exact absurd (List.append_eq_nil_iff.1 h.symm).1 (line_some i y)
  | i, x :: xs, [], _, _, h => by
    have h : line i x ++ linesFrom (i + 1) xs = [] := h
    exact absurd (List.append_eq_nil_iff.1 h).1 (line_some i x)
  | i, x :: xs, y :: ys, hx, hy, h => by
    have h : line i x ++ linesFrom (i + 1) xs = line i y ++ linesFrom (i + 1) ys := h
    obtain ⟨h1, h2⟩ := line_cut i x y _ _ (hx x List.mem_cons_self) (hy y List.mem_cons_self) h
    rw [h1, lines_inj (i + 1) xs ys (fun q hq => hx q (List.mem_cons_of_mem _ hq)) (fun q hq => hy q (List.mem_cons_of_mem _ hq)) h2]
theorem normal_plain (g : List Nd) (hr : right g = true) (hf : ∀ x ∈ g, Fine x) (hs : ∀ x ∈ g, x.tag.length ≤ 50000 ∧ x.text.length ≤ 50000) : ∀ x ∈ normal g, Plain x := fun x hx =>
  mayBe_plain ((right_parts (normal_right g hr)).1 x hx) (normal_told g hf hs x hx)
/-- GRAPHS ARE THE SAME JUST IF THEY ARE TOLD ALIKE -/
theorem same_print (g h : List Nd) (hr : right g = true) (hr' : right h = true) (hf : ∀ x ∈ g, Fine x) (hf' : ∀ x ∈ h, Fine x) (hs : ∀ x ∈ g, x.tag.length ≤ 50000 ∧ x.text.length ≤ 50000) (hs' : ∀ x ∈ h, x.tag.length ≤ 50000 ∧ x.text.length ≤ 50000) : same g h = (print g == print h) := by
  rw [Bool.eq_iff_iff, same_iff, beq_iff_eq]
  constructor
  · rintro ⟨_, e⟩; unfold print; rw [e]
  · intro e
    exact ⟨hr, lines_inj 0 _ _ (normal_plain g hr hf hs) (normal_plain h hr' hf' hs') e⟩
end Ar
end Go.Proofs.YtnlbnnnhmdjciaaDoor
namespace Go.Proofs.YtnlbnnnhmdjciaaDoor
open Go.RowKit Go.Maps
theorem same_comm (a b : List Ar.Nd) : Ar.same a b = Ar.same b a := by
  rw [← sameR_eq, ← sameR_eq]
  unfold Ar.sameR
  have e : Ar.equalN (Ar.normal a) (Ar.normal b) = Ar.equalN (Ar.normal b) (Ar.normal a) := by
    rw [Bool.eq_iff_iff, Ar.equalN_eq, Ar.equalN_eq]
    exact ⟨Eq.symm, Eq.symm⟩
  rw [e]
  cases Ar.right a <;> cases Ar.right b <;> simp
set_option maxHeartbeats 8000000 in
set_option maxRecDepth 100000 in
theorem same_walk (v u : Value) (g h : List Ar.Nd) (w : World) (hg : RdGo w w.heap.size v g) (hh : RdGo w w.heap.size u h) (hgl : g.length ≤ 2199023255488) (hhl : h.length ≤ 2199023255488) (hE : Env w) :
    Calls Tryd.prog 3 #[v, u] w fun e w' => e = .returned (.bool true) ∧ Below w.heap.size w w' := by
  have cA := Lib.hid (arAlive_any w hE)
  have cG := Lib.hid (fun W (hb : Below w.heap.size w W) => heavy_any v g W ((hg.below hb).mono hb.size) hgl)
  have cH := Lib.hid (fun W (hb : Below w.heap.size w W) => heavy_any u h W ((hh.below hb).mono hb.size) hhl)
  have HE := Lib.hid hE
  have HG := Lib.hid hg
  have HH := Lib.hid hh
  clear hE
  obtain ⟨ga, gc, rfl, _, _⟩ := hg
  obtain ⟨ha, hc, rfl, _, _⟩ := hh
  go_enter Tryd.func3, Tryd.ntmps3
  go_wp2_with fail
  refine cA.out.mono ?_
  rintro e w1 ⟨rfl, hb1⟩
  cases e1 : Ar.heavy g
  · rw [e1] at cG
    cases e2 : Ar.heavy h
    · rw [e2] at cH
      have hL := Ar.light_of g e1
      have hM := Ar.light_of h e2
      have hlg := hL.len
      have hlh := hM.len
      have kg : ∀ x ∈ g, x.kids.length ≤ 17592186044160 := fun x hx => by have := (hL.each x hx).1; omega
      have kh : ∀ x ∈ h, x.kids.length ≤ 17592186044160 := fun x hx => by have := (hM.each x hx).1; omega
      have cT := Lib.hid (fun W (hb : Below w.heap.size w W) => theirs_any _ g W ((HG.out.below hb).mono hb.size) hgl kg)
      have cU := Lib.hid (fun W (hb : Below w.heap.size w W) => theirs_any _ h W ((HH.out.below hb).mono hb.size) hhl kh)
      have cS := Lib.hid (fun W (hb : Below w.heap.size w W) => sameR_any _ _ g h W ((HG.out.below hb).mono hb.size) ((HH.out.below hb).mono hb.size) (by omega) (by omega) (fun x hx => (hL.fine x hx).kids) (fun x hx => (hM.fine x hx).kids) hL.small hM.small)
      clear kg kh
      go_wp2_with fail
      refine (cG.out w1 hb1).mono ?_
      rintro e w2 ⟨rfl, hb2⟩
      have hb02 := bthen hb1 hb2
      go_wp2_with fail
      refine (cH.out w2 hb02).mono ?_
      rintro e w3 ⟨rfl, hb3⟩
      have hb03 := bthen hb02 hb3
      go_wp2_with fail
      refine (cT.out w3 hb03).mono ?_
      rintro e w4 ⟨⟨x, rfl, hx⟩, hb4⟩
      have hb04 := bthen hb03 hb4
      go_wp2_with fail
      refine (cU.out w4 hb04).mono ?_
      rintro e w5 ⟨⟨y, rfl, hy⟩, hb5⟩
      have hb05 := bthen hb04 hb5
      have hx5 := (hx.below hb5).rd
      have hy5 := hy.rd
      have HX := Lib.hid hx5
      have HY := Lib.hid hy5
      have pS := same_any x y g h w5 hx5 hy5 (by omega) (by omega) hL.fine hM.fine (HE.out.below hb05)
      have pT := Lib.hid (fun W (hb : Below w5.heap.size w5 W) => same_any y x h g W ((HY.out.below hb).mono hb.size) ((HX.out.below hb).mono hb.size) (by omega) (by omega) hM.fine hL.fine (HE.out.below (bthen hb05 hb)))
      have pR := Lib.hid (fun W (hb : Below w5.heap.size w5 W) => right_any x g W ((HX.out.below hb).mono hb.size) (by omega) hL.fine (HE.out.below (bthen hb05 hb)))
      have pQ := Lib.hid (fun W (hb : Below w5.heap.size w5 W) => right_any y h W ((HY.out.below hb).mono hb.size) (by omega) hM.fine (HE.out.below (bthen hb05 hb)))
      have pP := Lib.hid (fun W (hb : Below w5.heap.size w5 W) => print_any x g W ((HX.out.below hb).mono hb.size) (by omega) hL.fine hL.small (HE.out.below (bthen hb05 hb)))
      have pO := Lib.hid (fun W (hb : Below w5.heap.size w5 W) => print_any y h W ((HY.out.below hb).mono hb.size) (by omega) hM.fine hM.small (HE.out.below (bthen hb05 hb)))
      rw [same_comm h g] at pT
      have hsp := fun hr hr' => Ar.same_print g h hr hr' hL.fine hM.fine hL.small hM.small
      have HSP := Lib.hid hsp
      clear hx hy hx5 hy5 hsp hL hM cT cU cG cH cA
      generalize Ar.same g h = S at *
      go_wp2_with fail
      refine pS.mono ?_
      rintro e w6 ⟨rfl, hb6⟩
      go_wp2_with fail
      refine (cS.out w6 (bthen hb05 hb6)).mono ?_
      rintro e w7 ⟨rfl, hb7⟩
      have hb57 := bthen hb6 hb7
      have bS : (S != S) = false := by simp
      go_wp2_with fail
      refine (pT.out w7 hb57).mono ?_
      rintro e w8 ⟨rfl, hb8⟩
      have hb58 := bthen hb57 hb8
      cases hr : Ar.right g
      · rw [hr] at pR
        go_wp2_with fail
        refine (pR.out w8 hb58).mono ?_
        rintro e w9 ⟨rfl, hb9⟩
        go_wp2
        go_ret
        exact ⟨rfl, bthen hb05 (bthen hb58 hb9)⟩
      · rw [hr] at pR
        cases hr2 : Ar.right h
        · rw [hr2] at pQ
          go_wp2_with fail
          refine (pR.out w8 hb58).mono ?_
          rintro e w9 ⟨rfl, hb9⟩
          have hb59 := bthen hb58 hb9
          go_wp2_with fail
          refine (pQ.out w9 hb59).mono ?_
          rintro e w10 ⟨rfl, hb10⟩
          go_wp2
          go_ret
          exact ⟨rfl, bthen hb05 (bthen hb59 hb10)⟩
        · rw [hr2] at pQ
          have hSP := HSP.out hr hr2
          go_wp2_with fail
          refine (pR.out w8 hb58).mono ?_
          rintro e w9 ⟨rfl, hb9⟩
          have hb59 := bthen hb58 hb9
          go_wp2_with fail
          refine (pQ.out w9 hb59).mono ?_
          rintro e w10 ⟨rfl, hb10⟩
          have hb510 := bthen hb59 hb10
          go_wp2_with fail
          refine (pP.out w10 hb510).mono ?_
          rintro e w11 ⟨rfl, hb11⟩
          have hb511 := bthen hb510 hb11
          go_wp2_with fail
          refine (pO.out w11 hb511).mono ?_
          rintro e w12 ⟨rfl, hb12⟩
          have e9 : ((str (Ar.print g)).toList == (str (Ar.print h)).toList) = S := by rw [str_same, hSP]
          have HS9 := Lib.hid hSP.symm
          clear hSP
          go_wp2
          go_ret
          exact ⟨ret_bool (by simp; exact HS9.out), bthen hb05 (bthen hb511 hb12)⟩
    · rw [e2] at cH
      go_wp2_with fail
      refine (cG.out w1 hb1).mono ?_
      rintro e w2 ⟨rfl, hb2⟩
      have hb02 := bthen hb1 hb2
      go_wp2_with fail
      refine (cH.out w2 hb02).mono ?_
      rintro e w3 ⟨rfl, hb3⟩
      go_wp2
      go_ret
      exact ⟨rfl, bthen hb02 hb3⟩
  · rw [e1] at cG
    go_wp2_with fail
    refine (cG.out w1 hb1).mono ?_
    rintro e w2 ⟨rfl, hb2⟩
    go_wp2
    go_ret
    exact ⟨rfl, bthen hb1 hb2⟩
end Go.Proofs.YtnlbnnnhmdjciaaDoor
