/-
  Walk of the document's plain: the characters of bytes.
-/
import Derived.Test.YtlfmaeodkghbbaaDoorRc
namespace Go.Proofs.YtlfmaeodkghbbaaDoor
open Go.RowKit

def sliceLen : Value → Nat
  | .slice _ n _ => n
  | _ => 0
def JoinsI (a : List Nat) (o ANS : Option (List Nat)) : Prop := o.map (a ++ ·) = ANS
theorem JoinsI.step {a : List Nat} {r : Nat} {o ANS : Option (List Nat)} (h : JoinsI a (o.map (r :: ·)) ANS) : JoinsI (a ++ [r]) o ANS := by
  unfold JoinsI at *
  rw [← h, Option.map_map]
  congr 1
  funext y
  simp
/-- what a call that answers characters, or that there are none, returns -/
def ChR (B : Nat) (w : World) (o : Option (List Nat)) (e : Ending) (w' : World) : Prop :=
  ∃ v, e = .returned (.tuple #[v, .bool o.isSome]) ∧ OwnI w' B v (o.getD []) ∧ Below B w w'
theorem leadN_le (c : Nat) : (Sc.leadN c).1 ≤ 4 ∧ ((Sc.leadN c).1 ≠ 0 → (Sc.leadN c).2 < 128) := by
  unfold Sc.leadN
  repeat' split
  all_goals exact ⟨by simp, by simp; try omega⟩

def stepK (l : List UInt8) (n r0 : Nat) : Option (Nat × Nat) :=
  if n = 0 ∨ l.length < n then none else (Sc.contR ((l.drop 1).take (n - 1)) r0).bind fun r => if Sc.isCh r ∧ (Sc.enc r).length = n then some (r, n) else none
theorem stepR_eq (l : List UInt8) : Sc.stepR l = stepK l (Sc.leadN (l.getD 0 0).toNat).1 (Sc.leadN (l.getD 0 0).toNat).2 := by
  unfold Sc.stepR stepK
  split
  · rfl
  · cases Sc.contR ((l.drop 1).take ((Sc.leadN (l.getD 0 0).toNat).1 - 1)) (Sc.leadN (l.getD 0 0).toNat).2 <;> rfl

set_option maxHeartbeats 4000000 in
set_option maxRecDepth 100000 in
theorem plainR_any (a : Option Addr) (L : List UInt8) (cap : Nat) (w : World) (hb : RdB w w.heap.size a L) (hc : L.length ≤ cap) (hcm : cap ≤ maxLen) (hL : L.length ≤ 100000) :
    Calls Tryd.prog 64 #[.slice a L.length cap] w (ChR w.heap.size w (Sc.charsOf L)) := by
  unfold maxLen at hcm
  obtain ⟨ANS, hANS⟩ : ∃ ANS, Sc.charsOf L = ANS := ⟨_, rfl⟩
  have HA : JoinsI [] (Sc.charsOf L) ANS := by unfold JoinsI; rw [hANS]; simp
  rw [hANS]
  clear hANS
  go_enter Tryd.func64, Tryd.ntmps64
  go_wp2
  go_loopw [0, 4] (fun b v wr => ∃ (a : Option Addr) (l : List UInt8) (cap : Nat) (acc : List Nat), b = .slice a l.length cap ∧ l.length ≤ cap ∧ cap ≤ 9223372036854775807 ∧ RdB w w.heap.size a l ∧ OwnI wr w.heap.size v acc ∧ Below w.heap.size w wr ∧ JoinsI acc (Sc.charsOf l) ANS ∧ acc.length + l.length ≤ 100000) (fun b _ _ => sliceLen b)
  case atStart => exact ⟨a, L, cap, [], rfl, hc, hcm, hb, ownI_nil _ _, Below.refl _ _, HA, by simpa using hL⟩
  case round =>
    clear hb hc hcm hL HA
    obtain ⟨a, l, cap, acc, rfl, hc, hcm, hb, hown, hbw, HJ, hal⟩ := hrel
    have hsz := hbw.size
    by_cases h0 : l.length = 0
    · have hl : l = [] := List.eq_nil_of_length_eq_zero h0
      have hA : some acc = ANS := by
        unfold JoinsI at HJ; rw [hl] at HJ; simpa [Sc.charsOf, Lib.validD_nil, Sc.rns_nil] using HJ
      subst hA
      subst hl
      clear HJ
      go_wp2
      go_ret2
      exact ⟨_, rfl, hown, hbw⟩
    · obtain ⟨g, off, rfl, hg, hcb⟩ := hb (by omega)
      have hne : l ≠ [] := fun e => h0 (by rw [e]; rfl)
      have hp : 0 < l.length := by omega
      have c0 := (hbw.cell (p := ⟨g, off + 0, none⟩) hg).trans (hcb 0 hp)
      rw [Nat.add_zero] at c0
      have hx0 := l[0].toNat_lt
      have hgd : l.getD 0 0 = l[0] := by simp [List.getD, hp]
      obtain ⟨x, hx⟩ : ∃ x, l[0] = x := ⟨_, rfl⟩
      rw [hx] at c0 hx0 hgd
      obtain ⟨hn4, hr128⟩ := leadN_le x.toNat
      have cL := lead_any x.toNat
      have hst := stepR_eq l
      rw [hgd] at hst
      obtain ⟨n, r0, hnr⟩ : ∃ n r0, Sc.leadN x.toNat = (n, r0) := ⟨_, _, rfl⟩
      rw [hnr] at hn4 hr128 cL hst
      simp only at hn4 hr128 cL hst
      clear hgd hnr hx h0
      have HST := Lib.hid hst
      have CL := Lib.hid (fun w1 => cL w1 hx0)
      clear hst cL
      by_cases hbad : n = 0 ∨ l.length < n
      · have hA : ANS = none := by
          have := Sc.charsOf_none l hne (by rw [HST.out]; unfold stepK; rw [if_pos hbad])
          unfold JoinsI at HJ; rw [this] at HJ; exact HJ.symm
        subst hA
        clear HJ HST hcb
        rcases hbad with rfl | hbad
        · go_wp2_with (go_at_call 81; refine (CL.out _).mono ?_; rintro e w' ⟨rfl, rfl⟩)
          go_ret2
          exact ⟨_, rfl, ownI_nil _ _, hbw⟩
        · by_cases hn0 : n = 0
          · subst hn0
            exact absurd hbad (by omega)
          · have b1 : ((n : Int) == 0) = false := beq_eq_false_iff_ne.2 (by omega)
            clear hn0
            go_wp2_with (go_at_call 81; refine (CL.out _).mono ?_; rintro e w' ⟨rfl, rfl⟩)
            go_ret2
            exact ⟨_, rfl, ownI_nil _ _, hbw⟩
      · have HS2 : Hid (Sc.stepR l = (Sc.contR ((l.drop 1).take (n - 1)) r0).bind fun r => if Sc.isCh r ∧ (Sc.enc r).length = n then some (r, n) else none) := by
          have := HST.out; unfold stepK at this; rw [if_neg hbad] at this; exact this
        clear HST
        have hn1 : 1 ≤ n := by omega
        have hnl : n ≤ l.length := by omega
        have hr0 : r0 < 128 := hr128 (by omega)
        have b1 : ((n : Int) == 0) = false := beq_eq_false_iff_ne.2 (by omega)
        have b2 : decide (l.length < n) = false := decide_eq_false (by omega)
        have b3 : decide ((l.length : Int) < (n : Int)) = false := decide_eq_false (by omega)
        have b4 : decide (0 < l.length) = true := decide_eq_true (by omega)
        have b5 : decide ((0 : Int) < (l.length : Int)) = true := decide_eq_true (by omega)
        clear hbad hr128
        go_wp2_with (go_at_call 81; refine (CL.out _).mono ?_; rintro e w' ⟨rfl, rfl⟩)
        clear CL c0
        go_loop [6, 7] (fun rr i => ∃ k r : Nat, 1 ≤ k ∧ k ≤ n ∧ i = .int .i64 k ∧ rr = .int .i64 r ∧ Hid (r < 128 * 64 ^ (k - 1)) ∧ Hid (Sc.contR ((l.drop 1).take (n - 1)) r0 = Sc.contR ((l.drop k).take (n - k)) r)) (fun _ i => n - (intOf i).toNat)
        case atStart => exact ⟨1, r0, by omega, hn1, rfl, rfl, (by simpa using hr0 : r0 < 128 * 64 ^ (1 - 1)), (rfl : Sc.contR _ _ = _)⟩
        case round =>
          obtain ⟨k, r, hk1, hkn, rfl, rfl, HB, HK⟩ := hrel
          have hrb : r < 33554432 := by
            have h1 := HB.out
            have h2 : 64 ^ (k - 1) ≤ 64 ^ 3 := Nat.pow_le_pow_right (by decide) (by omega)
            have h3 : (64 : Nat) ^ 3 = 262144 := by decide
            rw [h3] at h2
            have h4 : 128 * 64 ^ (k - 1) ≤ 128 * 262144 := Nat.mul_le_mul_left 128 h2
            omega
          by_cases hlt : k < n
          · have hkl : k < l.length := by omega
            have ck := (hbw.cell (p := ⟨g, off + k, none⟩) hg).trans (hcb k hkl)
            have hdr : (l.drop k).take (n - k) = l[k] :: (l.drop (k + 1)).take (n - (k + 1)) := by
              rw [List.drop_eq_getElem_cons hkl]
              obtain ⟨d, hd⟩ : ∃ d, n - k = d + 1 := ⟨n - k - 1, by omega⟩
              have hd2 : n - (k + 1) = d := by omega
              rw [hd, hd2, List.take_succ_cons]
            have hxk := l[k].toNat_lt
            generalize l[k] = y at *
            by_cases hy : y.toNat < 128 ∨ 191 < y.toNat
            · have hA : ANS = none := by
                have h1 := HK.out; rw [hdr] at h1; simp only [Sc.contR, if_pos hy] at h1
                have h2 := HS2.out; rw [h1] at h2
                have := Sc.charsOf_none l hne h2
                unfold JoinsI at HJ; rw [this] at HJ; exact HJ.symm
              subst hA
              clear HJ HS2 HK HB hcb hdr
              by_cases hy1 : y.toNat < 128
              · clear hy
                go_wp2
                go_ret2
                exact ⟨_, rfl, ownI_nil _ _, hbw⟩
              · have hy2 : 191 < y.toNat := by omega
                clear hy
                go_wp2
                go_ret2
                exact ⟨_, rfl, ownI_nil _ _, hbw⟩
            · have HN : Hid (Sc.contR ((l.drop 1).take (n - 1)) r0 = Sc.contR ((l.drop (k + 1)).take (n - (k + 1))) (r * 64 + y.toNat - 128)) := by
                have h1 := HK.out; rw [hdr] at h1; simp only [Sc.contR, if_neg hy] at h1; exact h1
              have HB2 : Hid (r * 64 + y.toNat - 128 < 128 * 64 ^ (k + 1 - 1)) := by
                have h1 := HB.out
                show r * 64 + y.toNat - 128 < 128 * 64 ^ (k + 1 - 1)
                obtain ⟨d, rfl⟩ : ∃ d, k = d + 1 := ⟨k - 1, by omega⟩
                have e1 : d + 1 - 1 = d := by omega
                have e2 : d + 1 + 1 - 1 = d + 1 := by omega
                rw [e1] at h1
                rw [e2, Nat.pow_succ]
                omega
              have hy1 : 128 ≤ y.toNat := by omega
              have hy2 : y.toNat ≤ 191 := by omega
              clear hy hdr HK HB HJ HS2 hcb
              go_wp2
              go_round
              case rel => exact ⟨k + 1, r * 64 + y.toNat - 128, by omega, by omega, by go_num, by go_num, HB2, HN⟩
              case measure => simp [intOf]; omega
          · obtain rfl : k = n := by omega
            have HC : Hid (Sc.contR ((l.drop 1).take (k - 1)) r0 = some r) := by
              have h1 := HK.out; rw [Nat.sub_self, List.take_zero] at h1; exact h1
            clear HK HB
            have HS3 : Hid (Sc.stepR l = if Sc.isCh r ∧ (Sc.enc r).length = k then some (r, k) else none) := by
              have := HS2.out; rw [HC.out] at this; exact this
            clear HS2 HC hcb
            by_cases hch : Sc.isCh r
            · have b6 : chI (r : Int) = true := by rw [chI_nat]; exact decide_eq_true hch
              by_cases hw : (Sc.enc r).length = k
              · have b7 : (((Sc.enc r).length : Int) != (k : Int)) = false := by rw [hw]; simp
                have hsome : Sc.stepR l = some (r, k) := by rw [HS3.out, if_pos ⟨hch, hw⟩]
                have HN : JoinsI (acc ++ [r]) (Sc.charsOf (l.drop k)) ANS := by
                  have := HJ; rw [Sc.charsOf_step l r k hsome] at this; exact this.step
                have hbr : RdB w w.heap.size (if cap = k then some ⟨g, off, none⟩ else some ⟨g, off + k, none⟩) (l.drop k) := by
                  by_cases hck : cap = k
                  · intro h0; rw [List.length_drop] at h0; omega
                  · rw [if_neg hck]
                    by_cases hkl : k < l.length
                    · have e : (⟨g, off, none⟩ : Addr).add k = ⟨g, off + k, none⟩ := by unfold Addr.add; split <;> simp_all
                      have := hb.cut k hkl
                      simp only [cutA, Option.map_some, e] at this
                      exact this
                    · intro h0; rw [List.length_drop] at h0; omega
                have hdl : (l.drop k).length = l.length - k := List.length_drop ..
                have HBR := Lib.hid hbr
                have hal2 : (acc ++ [r]).length + (l.length - k) ≤ 100000 := by rw [List.length_append]; simp; omega
                obtain ⟨m, hm⟩ : ∃ m, m = l.drop k := ⟨_, rfl⟩
                rw [← hm] at HN HBR hdl
                clear hsome HS3 HJ hbr hw hm
                by_cases hck : cap = k
                · subst hck
                  rw [if_pos rfl] at HBR
                  go_wp2_with (first | (go_at_call 49; refine (character_any _ _).mono ?_; rintro e w' ⟨rfl, rfl⟩) | (go_at_call 50; refine (bytes_any r _ hch).mono ?_; rintro e w2 ⟨rfl, rfl⟩) | (at_builtin; refine wpList_pushI rfl (.tmp 63) (.tmp 65) rfl w.heap.size _ acc [r] (wr.alloc (.cells (Lib.byteCells (Sc.enc r)).toArray 5)) _ _ _ rfl _ rfl (by rw [World.size_alloc]) rfl rfl (ownI_alloc hown _) (by simp; omega) (by rw [World.size_alloc]; omega) ?_; intro v' w' ho' hk' hB'))
                  go_roundw
                  case rel => exact ⟨_, m, cap - cap, acc ++ [r], by rw [hdl]; go_num, by omega, by omega, HBR.out, ho', (hbw.alloc hsz _).trans hk', HN, by rw [hdl]; exact hal2⟩
                  case measure => simp [sliceLen]; omega
                · rw [if_neg hck] at HBR
                  go_wp2_with (first | (go_at_call 49; refine (character_any _ _).mono ?_; rintro e w' ⟨rfl, rfl⟩) | (go_at_call 50; refine (bytes_any r _ hch).mono ?_; rintro e w2 ⟨rfl, rfl⟩) | (at_builtin; refine wpList_pushI rfl (.tmp 63) (.tmp 65) rfl w.heap.size _ acc [r] (wr.alloc (.cells (Lib.byteCells (Sc.enc r)).toArray 5)) _ _ _ rfl _ rfl (by rw [World.size_alloc]) rfl rfl (ownI_alloc hown _) (by simp; omega) (by rw [World.size_alloc]; omega) ?_; intro v' w' ho' hk' hB'))
                  go_roundw
                  case rel => exact ⟨_, m, cap - k, acc ++ [r], by rw [hdl], by omega, by omega, HBR.out, ho', (hbw.alloc hsz _).trans hk', HN, by rw [hdl]; exact hal2⟩
                  case measure => simp [sliceLen]; omega
              · have b7 : (((Sc.enc r).length : Int) != (k : Int)) = true := bne_iff_ne.2 (by omega)
                have hA : ANS = none := by
                  have := Sc.charsOf_none l hne (by rw [HS3.out, if_neg (fun h => hw h.2)])
                  unfold JoinsI at HJ; rw [this] at HJ; exact HJ.symm
                subst hA
                clear HJ HS3 hw
                go_wp2_with (first | (go_at_call 49; refine (character_any _ _).mono ?_; rintro e w' ⟨rfl, rfl⟩) | (go_at_call 50; refine (bytes_any r _ hch).mono ?_; rintro e w2 ⟨rfl, rfl⟩))
                go_ret2
                exact ⟨_, rfl, ownI_nil _ _, hbw.alloc hsz _⟩
            · have b6 : chI (r : Int) = false := by rw [chI_nat]; exact decide_eq_false hch
              have hA : ANS = none := by
                have := Sc.charsOf_none l hne (by rw [HS3.out, if_neg (fun h => hch h.1)])
                unfold JoinsI at HJ; rw [this] at HJ; exact HJ.symm
              subst hA
              clear HJ HS3 hch
              go_wp2_with (go_at_call 49; refine (character_any _ _).mono ?_; rintro e w' ⟨rfl, rfl⟩)
              go_ret2
              exact ⟨_, rfl, ownI_nil _ _, hbw⟩
end Go.Proofs.YtlfmaeodkghbbaaDoor
