/-
  The document's walks of layer 8: alike, Twice.
  The document's Twice.
-/
import Derived.Test.YtnlbnnnhmdjciaaDoorBe
import Derived.Test.YtnlbnnnhmdjciaaDoorBo
import Derived.Deep.RegionHeld3
namespace Go.Proofs.YtnlbnnnhmdjciaaDoor
open Go.RowKit Go.Maps
theorem at_lt {g : List Ar.Nd} {k : Int} (h : Ar.isNode g.length k = true) : ∃ m : Nat, k = (m : Int) ∧ m < g.length := by
  unfold Ar.isNode at h
  simp only [Bool.and_eq_true, decide_eq_true_eq] at h
  exact ⟨k.toNat, by omega, by omega⟩
set_option maxHeartbeats 4000000 in
set_option maxRecDepth 100000 in
theorem alikeR_any (v : Value) (g : List Ar.Nd) (a b : Int) (w : World) (hg : RdGo w w.heap.size v g) (hgl : g.length ≤ 1000000) :
    Calls Tryd.prog 47 #[v, .int .i64 a, .int .i64 b] w fun e w' => e = .returned (.bool (Ar.alikeK g a b)) ∧ Below w.heap.size w w' := by
  have HG := Lib.hid hg
  obtain ⟨ga, gc, rfl, _, _⟩ := hg
  unfold Ar.alikeK
  cases ha : Ar.isNode g.length a
  · unfold Ar.isNode at ha
    by_cases h0 : 0 ≤ a
    · have b0 : decide (a < 0) = false := decide_eq_false (by omega)
      have b1 : decide ((g.length : Int) ≤ a) = true := by rw [decide_eq_true h0, Bool.true_and, decide_eq_false_iff_not] at ha; exact decide_eq_true (by omega)
      clear ha
      go_enter Tryd.func47, Tryd.ntmps47
      go_wp2
      go_ret
      exact ⟨rfl, Below.refl _ _⟩
    · have b0 : decide (a < 0) = true := decide_eq_true (by omega)
      clear ha
      go_enter Tryd.func47, Tryd.ntmps47
      go_wp2
      go_ret
      exact ⟨rfl, Below.refl _ _⟩
  · obtain ⟨m, rfl, hm⟩ := at_lt ha
    rw [Bool.true_and]
    cases hb : Ar.isNode g.length b
    · unfold Ar.isNode at hb
      by_cases h0 : 0 ≤ b
      · have b0 : decide (b < 0) = false := decide_eq_false (by omega)
        have b1 : decide ((g.length : Int) ≤ b) = true := by rw [decide_eq_true h0, Bool.true_and, decide_eq_false_iff_not] at hb; exact decide_eq_true (by omega)
        clear ha hb
        go_enter Tryd.func47, Tryd.ntmps47
        go_wp2
        go_ret
        exact ⟨rfl, Below.refl _ _⟩
      · have b0 : decide (b < 0) = true := decide_eq_true (by omega)
        clear ha hb
        go_enter Tryd.func47, Tryd.ntmps47
        go_wp2
        go_ret
        exact ⟨rfl, Below.refl _ _⟩
    · obtain ⟨n, rfl, hn⟩ := at_lt hb
      rw [Bool.true_and]
      clear ha hb
      obtain ⟨_, _, hv, _, hcl⟩ := HG.out
      cases hv
      obtain ⟨gg, go, rfl, hgg, hcl⟩ := hcl (by omega)
      obtain ⟨x0, x1, x2, ⟨xa, xc, x3, _⟩⟩ := hcl m hm
      have hy := hcl n hn
      rw [Ar.at_mem g m hm, Ar.at_mem g n hn]
      have i0 : (0 : Int) ≤ (m : Int) := by omega
      have i1 : (m : Int) < (g.length : Int) := by omega
      have i2 : (0 : Int) ≤ (n : Int) := by omega
      have i3 : (n : Int) < (g.length : Int) := by omega
      clear hcl
      generalize g[m] = x at *
      generalize g[n] = y at *
      have b1 := bnew w (.cells #[.int .i64 x.kind, .string (str x.tag), .string (str x.text), .slice xa x.kids.length xc] 42)
      have k1 := alloc_blk w (.cells #[.int .i64 x.kind, .string (str x.tag), .string (str x.text), .slice xa x.kids.length xc] 42)
      obtain ⟨y0, y1, y2, ⟨ya, yc, y3, _⟩⟩ := hy.below b1 hgg
      have b2 := bnew (w.alloc (.cells #[.int .i64 x.kind, .string (str x.tag), .string (str x.text), .slice xa x.kids.length xc] 42)) (.cells #[.int .i64 y.kind, .string (str y.tag), .string (str y.text), .slice ya y.kids.length yc] 42)
      have k2 := alloc_blk (w.alloc (.cells #[.int .i64 x.kind, .string (str x.tag), .string (str x.text), .slice xa x.kids.length xc] 42)) (.cells #[.int .i64 y.kind, .string (str y.tag), .string (str y.text), .slice ya y.kids.length yc] 42)
      rw [World.size_alloc] at k2
      obtain ⟨p0, p1, p2, p3⟩ := quad (blk_below k1 b2)
      obtain ⟨q0, q1, q2, q3⟩ := quad k2
      have HB := Lib.hid (bthen b1 b2)
      have e1 := str_same x.tag y.tag
      have e2 := str_same x.text y.text
      clear b1 b2 k1 k2 hy
      by_cases hmn : m = n
      · subst hmn
        have c0 : ((m : Int) == (m : Int)) = true := by simp
        rw [c0, Bool.true_or]
        go_enter Tryd.func47, Tryd.ntmps47
        go_wp2
        go_ret
        exact ⟨rfl, HB.out⟩
      · have c0 : ((m : Int) == (n : Int)) = false := beq_eq_false_iff_ne.2 (by omega)
        rw [c0, Bool.false_or]
        cases c1 : x.kind == 0
        · go_enter Tryd.func47, Tryd.ntmps47
          go_wp2
          go_ret
          exact ⟨rfl, HB.out⟩
        · rw [Bool.true_and]
          cases c2 : y.kind == 0
          · go_enter Tryd.func47, Tryd.ntmps47
            go_wp2
            go_ret
            exact ⟨rfl, HB.out⟩
          · rw [Bool.true_and]
            cases c3 : x.tag == y.tag
            · rw [c3] at e1
              go_enter Tryd.func47, Tryd.ntmps47
              go_wp2
              go_ret
              exact ⟨rfl, HB.out⟩
            · rw [c3] at e1
              rw [Bool.true_and]
              cases c4 : x.text == y.text
              · rw [c4] at e2
                go_enter Tryd.func47, Tryd.ntmps47
                go_wp2
                go_ret
                exact ⟨rfl, HB.out⟩
              · rw [c4] at e2
                go_enter Tryd.func47, Tryd.ntmps47
                go_wp2
                go_ret
                exact ⟨rfl, HB.out⟩
end Go.Proofs.YtnlbnnnhmdjciaaDoor
namespace Go.Proofs.YtnlbnnnhmdjciaaDoor
namespace Ar
theorem keys_take : ∀ (ks : List Int) (k : Nat) (h : k < ks.length), k % 2 = 0 → keys (ks.take (k + 2)) = keys (ks.take k) ++ [ks[k]]
  | [], _, h, _ => absurd h (by simp)
  | [a], 0, _, _ => rfl
  | [a], k + 1, h, _ => absurd h (by simp)
  | a :: b :: t, 0, _, _ => rfl
  | a :: b :: t, 1, _, h2 => absurd h2 (by decide)
  | a :: b :: t, k + 2, h, h2 => by
    have ih := keys_take t k (by simpa using h) (by omega)
    show a :: keys (t.take (k + 2)) = a :: keys (t.take k) ++ [(a :: b :: t)[k + 2]]
    rw [ih]; rfl
def twiceR (g : List Nd) : Bool := g.any fun x => (x.kind == 2) && pairGo g [] (keys x.kids)
theorem twiceR_eq (g : List Nd) : twiceR g = twice g := by
  unfold twiceR twice
  congr 1
  funext x
  rw [key_pair]
end Ar
open Go.RowKit Go.Maps

set_option maxHeartbeats 8000000 in
set_option maxRecDepth 100000 in
theorem twiceR_any (v : Value) (g : List Ar.Nd) (w : World) (hg : RdGo w w.heap.size v g) (hgl : g.length ≤ 1000000) (hkl : ∀ x ∈ g, x.kids.length ≤ 1000000) :
    Calls Tryd.prog 32 #[v] w fun e w' => e = .returned (.bool (Ar.twice g)) ∧ Below w.heap.size w w' := by
  rw [← Ar.twiceR_eq]
  obtain ⟨ANS, hANS⟩ : ∃ ANS, Ar.twiceR g = ANS := ⟨_, rfl⟩
  rw [hANS]
  have HA : Hid (((g.drop 0).any fun x => (x.kind == 2) && Ar.pairGo g [] (Ar.keys x.kids)) = ANS) := hANS
  have HG := Lib.hid hg
  have HKL := Lib.hid hkl
  clear hANS hkl
  obtain ⟨ga, gc, rfl, _, _⟩ := hg
  have cL := Lib.hid (fun (a b : Int) (W : World) (hb : Below w.heap.size w W) => alikeR_any _ g a b W ((HG.out.below hb).mono hb.size) hgl)
  go_enter Tryd.func32, Tryd.ntmps32
  go_wp2
  go_loopg [3] g.length (fun q i wr => ∃ (j : Nat), j ≤ g.length ∧ q = g.length - j ∧ i = .int .i64 j ∧ Hid (((g.drop j).any fun x => (x.kind == 2) && Ar.pairGo g [] (Ar.keys x.kids)) = ANS) ∧ Hid (Below w.heap.size w wr))
  case atStart => exact ⟨0, by omega, by omega, rfl, HA, Lib.hid (Below.refl _ _)⟩
  case round =>
    obtain ⟨j, hj, rfl, rfl, HI, HB⟩ := hrel
    clear HA
    by_cases hlt : j < g.length
    · have hI := HI.out
      rw [List.drop_eq_getElem_cons hlt, List.any_cons] at hI
      clear HI
      have hkl := HKL.out _ (List.getElem_mem hlt)
      have HN : Hid (∃ gg go, ga = some ⟨gg, go, none⟩ ∧ gg < w.heap.size ∧ ∀ W, Below w.heap.size w W → NdAt W w.heap.size gg (go + j * 4) g[j]) := by
        obtain ⟨_, _, hv, _, hcl⟩ := HG.out
        cases hv
        obtain ⟨gg, go, hga, hgg, hcl⟩ := hcl (by omega)
        exact ⟨gg, go, hga, hgg, fun W hb => (hcl j hlt).below hb hgg⟩
      obtain ⟨gg, go, rfl, hggw, hnd⟩ := HN.out
      obtain ⟨n0, n1, n2, ⟨ka, kc, n3, n4⟩⟩ := hnd wr HB.out
      have HND := Lib.hid hnd
      clear hnd HN n4
      have i0 : (0 : Int) ≤ (j : Int) := by omega
      have i1 : (j : Int) < (g.length : Int) := by omega
      generalize g[j] = X at *
      obtain ⟨k, t, s, ks⟩ := X
      simp only at n0 n1 n2 n3 hkl hI
      obtain ⟨REST, hREST⟩ : ∃ REST, ((g.drop (j + 1)).any fun x => (x.kind == 2) && Ar.pairGo g [] (Ar.keys x.kids)) = REST := ⟨_, rfl⟩
      rw [hREST] at hI
      cases hk2 : k == 2
      · rw [hk2, Bool.false_and, Bool.false_or] at hI
        subst hI
        have hne : (k != 2) = true := by rw [bne, hk2]; rfl
        go_wp2
        go_roundg (g.length - (j + 1))
        case measure => omega
        case rel => exact ⟨j + 1, by omega, rfl, by go_num, Lib.hid hREST, HB⟩
      · rw [hk2, Bool.true_and] at hI
        have hne : (k != 2) = false := by rw [bne, hk2]; rfl
        have HI : Hid ((Ar.pairGo g (Ar.keys (ks.take 0)) (Ar.keys (ks.drop 0)) || REST) = ANS) := hI
        have HREST := Lib.hid hREST
        clear hI hREST
        go_wp2
        obtain ⟨wo, hwo⟩ : ∃ wo, wo = wr := ⟨_, rfl⟩
        subst hwo
        clear n0 n1 n2 n3
        go_loopg [4] (ks.length + 1) (fun q i wr => ∃ (m : Nat), m ≤ ks.length + 1 ∧ q = ks.length + 1 - m ∧ i = .int .i64 m ∧ m % 2 = 0 ∧ Hid ((Ar.pairGo g (Ar.keys (ks.take m)) (Ar.keys (ks.drop m)) || REST) = ANS) ∧ Hid (Below w.heap.size w wr))
        case atStart => exact ⟨0, by omega, by omega, rfl, rfl, HI, HB⟩
        case round =>
          obtain ⟨m, hm, rfl, rfl, hm2, HI2, HB2⟩ := hrel
          clear HI
          obtain ⟨n0, n1, n2, ⟨ka', kc', n3, n4⟩⟩ := HND.out wr HB2.out
          by_cases hmt : m < ks.length
          · have hI2 := HI2.out
            rw [Ar.keys_step ks m hmt] at hI2
            unfold Ar.pairGo at hI2
            clear HI2
            obtain ⟨R2, hR2⟩ : ∃ R2, (Ar.pairGo g (Ar.keys (ks.take m) ++ [ks[m]]) (Ar.keys (ks.drop (m + 2))) || REST) = R2 := ⟨_, rfl⟩
            rw [Bool.or_assoc, hR2] at hI2
            rw [← Ar.keys_take ks m hmt hm2] at hR2
            have HR2 := Lib.hid hR2
            have HI3 : Hid (((Ar.keys ((ks.take m).drop 0)).any (fun s => Ar.alikeK g ks[m] s) || R2) = ANS) := hI2
            clear hI2 hR2
            obtain ⟨K, hK⟩ : ∃ K, ks[m] = K := ⟨_, rfl⟩
            rw [hK] at HI3
            have HK := Lib.hid hK
            clear hK n4
            have hm0 : (0 : Int) ≤ (m : Int) := by omega
            have hm1 : (m : Int) < (ks.length : Int) := by omega
            go_wp2
            obtain ⟨wp, hwp⟩ : ∃ wp, wp = wr := ⟨_, rfl⟩
            subst hwp
            clear n0 n1 n2 n3
            go_loopg [5] m (fun q i wr => ∃ (p : Nat), p ≤ m ∧ q = m - p ∧ i = .int .i64 p ∧ p % 2 = 0 ∧ Hid (((Ar.keys ((ks.take m).drop p)).any (fun s => Ar.alikeK g K s) || R2) = ANS) ∧ Hid (Below w.heap.size w wr))
            case atStart => exact ⟨0, by omega, by omega, rfl, rfl, HI3, HB2⟩
            case round =>
              obtain ⟨p, hp, rfl, rfl, hp2, HI4, HB3⟩ := hrel
              clear HI3
              by_cases hpm : p < m
              · have hlt3 : p < (ks.take m).length := by rw [List.length_take]; omega
                have hpk : p < ks.length := by omega
                have hI4 := HI4.out
                rw [Ar.keys_step (ks.take m) p hlt3, List.any_cons, List.getElem_take] at hI4
                clear HI4
                obtain ⟨n0, n1, n2, ⟨ka2, kc2, n3, n4⟩⟩ := HND.out wr HB3.out
                obtain ⟨_, _, hv, _, hcl⟩ := n4
                simp only [Value.slice.injEq] at hv
                obtain ⟨rfl, _, rfl⟩ := hv
                obtain ⟨kg, ko, rfl, hkg, hcl⟩ := hcl (by simp only; omega)
                have e1 := hcl m hmt
                have e2 := hcl p hpk
                simp only at e1 e2
                rw [HK.out] at e1
                clear hcl
                generalize ks[p] = P at *
                have p0 : (0 : Int) ≤ (p : Int) := by omega
                have p1 : (p : Int) < (ks.length : Int) := by omega
                have cX := Lib.hid (fun W (hb : Below w.heap.size w W) => cL.out K P W hb)
                have gl : gg < wr.heap.size := Nat.lt_of_lt_of_le hggw HB3.out.size
                have kl : kg < wr.heap.size := Nat.lt_of_lt_of_le hkg HB3.out.size
                cases hx : Ar.alikeK g K P
                · rw [hx] at cX hI4
                  rw [Bool.false_or] at hI4
                  have HI4 := Lib.hid hI4
                  clear hI4
                  go_wp2
                  go_region_held3 (fun w' => w'.cell? ⟨gg, go + j * 4 + 3, none⟩ = some (.slice (some ⟨kg, ko, none⟩) ks.length kc2) ∧ w'.cell? ⟨kg, ko + m, none⟩ = some (.int .i64 K) ∧ w'.cell? ⟨kg, ko + p, none⟩ = some (.int .i64 P))
                    (first
                      | go_keep
                      | (go_split_ands
                         refine ⟨?_, ?_, ?_⟩
                         · rw [hb2.cell (by exact gl)]; assumption
                         · rw [hb2.cell (by exact kl)]; assumption
                         · rw [hb2.cell (by exact kl)]; assumption))
                    (first | (go_at_call 47; refine (cX.out _ HB3.out.drew).mono ?_; rintro e w2 ⟨rfl, hb2⟩; have HB4 := Lib.hid (HB3.out.trans ((⟨hb2.os, hb2.tape, hb2.output, hb2.size, hb2.block⟩ : Below wr.heap.size wr w2).mono HB3.out.size))))
                  go_wp2
                  go_roundg (m - (p + 2))
                  case measure => omega
                  case rel => exact ⟨p + 2, by omega, rfl, by go_num, by omega, HI4, HB4⟩
                · rw [hx] at cX hI4
                  rw [Bool.true_or, Bool.true_or] at hI4
                  subst hI4
                  go_wp2
                  go_region_held3 (fun w' => w'.cell? ⟨gg, go + j * 4 + 3, none⟩ = some (.slice (some ⟨kg, ko, none⟩) ks.length kc2) ∧ w'.cell? ⟨kg, ko + m, none⟩ = some (.int .i64 K) ∧ w'.cell? ⟨kg, ko + p, none⟩ = some (.int .i64 P))
                    (first
                      | go_keep
                      | (go_split_ands
                         refine ⟨?_, ?_, ?_⟩
                         · rw [hb2.cell (by exact gl)]; assumption
                         · rw [hb2.cell (by exact kl)]; assumption
                         · rw [hb2.cell (by exact kl)]; assumption))
                    (first | (go_at_call 47; refine (cX.out _ HB3.out.drew).mono ?_; rintro e w2 ⟨rfl, hb2⟩; have HB4 := Lib.hid (HB3.out.trans ((⟨hb2.os, hb2.tape, hb2.output, hb2.size, hb2.block⟩ : Below wr.heap.size wr w2).mono HB3.out.size))))
                  go_wp2
                  go_ret
                  exact ⟨rfl, HB4.out⟩
              · have hpe : p = m := by omega
                have hI4 := HI4.out
                rw [List.drop_eq_nil_of_le (by rw [List.length_take]; omega)] at hI4
                have hI4 : R2 = ANS := hI4
                have HI5 := Lib.hid (HR2.out.trans hI4)
                clear hI4
                go_wp2
                go_roundg (ks.length + 1 - (m + 2))
                case measure => omega
                case rel => exact ⟨m + 2, by omega, rfl, by go_num, by omega, HI5, HB3⟩
          · have hI2 := HI2.out
            rw [List.drop_eq_nil_of_le (by omega)] at hI2
            have hI2 : REST = ANS := hI2
            have HI5 := Lib.hid (HREST.out.trans hI2)
            clear hI2 n4
            go_wp2
            go_roundg (g.length - (j + 1))
            case measure => omega
            case rel => exact ⟨j + 1, by omega, rfl, by go_num, HI5, HB2⟩
    · have hI := HI.out
      rw [List.drop_eq_nil_of_le (by omega)] at hI
      have hI : false = ANS := hI
      subst hI
      go_wp2
      go_ret
      exact ⟨rfl, HB.out⟩
end Go.Proofs.YtnlbnnnhmdjciaaDoor
