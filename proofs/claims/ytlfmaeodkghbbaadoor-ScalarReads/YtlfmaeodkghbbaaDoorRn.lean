/-
  Walk of the document's Unquote.
-/
import Derived.Test.YtlfmaeodkghbbaaDoorRm
namespace Go.Proofs.YtlfmaeodkghbbaaDoor
open Go.RowKit

/-- what stands between double quotes, by characters, with fuel -/
def unqNGo : Nat → List Nat → Option (List Nat)
  | 0, _ => some []
  | _ + 1, [] => some []
  | n + 1, c :: t =>
    if c = 34 ∨ c = 10 then none
    else if c = 92 then (meantN t).bind fun p => (unqNGo n (t.drop p.2)).map (p.1 :: ·)
    else (unqNGo n t).map (c :: ·)
theorem unqNGo_fuel : ∀ (n m : Nat) (l : List Nat), l.length ≤ n → l.length ≤ m → unqNGo n l = unqNGo m l
  | 0, m, l, h, _ => by
    have : l = [] := List.eq_nil_of_length_eq_zero (by omega)
    subst this; cases m <;> rfl
  | n + 1, 0, l, _, h => by
    have : l = [] := List.eq_nil_of_length_eq_zero (by omega)
    subst this; rfl
  | n + 1, m + 1, [], _, _ => rfl
  | n + 1, m + 1, c :: t, h1, h2 => by
    simp only [List.length_cons] at h1 h2
    simp only [unqNGo]
    rw [unqNGo_fuel n m t (by omega) (by omega)]
    have : (fun p : Nat × Nat => (unqNGo n (t.drop p.2)).map (p.1 :: ·)) = fun p => (unqNGo m (t.drop p.2)).map (p.1 :: ·) := by
      funext p
      rw [unqNGo_fuel n m (t.drop p.2) (by rw [List.length_drop]; omega) (by rw [List.length_drop]; omega)]
    rw [this]
def unqN (l : List Nat) : Option (List Nat) := unqNGo l.length l
theorem unqN_nil : unqN [] = some [] := rfl
theorem unqN_cons (c : Nat) (t : List Nat) : unqN (c :: t) = if c = 34 ∨ c = 10 then none
    else if c = 92 then (meantN t).bind fun p => (unqN (t.drop p.2)).map (p.1 :: ·) else (unqN t).map (c :: ·) := by
  unfold unqN
  simp only [List.length_cons, unqNGo]
  have : (fun p : Nat × Nat => (unqNGo t.length (t.drop p.2)).map (p.1 :: ·)) = fun p => (unqNGo (t.drop p.2).length (t.drop p.2)).map (p.1 :: ·) := by
    funext p
    rw [unqNGo_fuel t.length (t.drop p.2).length (t.drop p.2) (by rw [List.length_drop]; omega) (Nat.le_refl _)]
  rw [this]
theorem meantN_good (l : List Nat) (r z : Nat) (h : meantN l = some (r, z)) : Sc.isCh r ∧ 1 ≤ z ∧ z ≤ l.length := by
  cases l with
  | nil => cases h
  | cons c t =>
    change (if c = 47 then some (47, 1) else match charFrom 0 c with
      | some r => some (r, 1)
      | none => numM c t) = some (r, z) at h
    split at h
    · cases h; exact ⟨by unfold Sc.isCh; omega, by omega, by simp⟩
    · cases hc : charFrom 0 c with
      | some x =>
        rw [hc] at h
        cases h
        have := charFrom_le c r hc
        exact ⟨by unfold Sc.isCh; omega, by omega, by simp⟩
      | none =>
        rw [hc] at h
        simp only [numM] at h
        split at h
        · cases h
        · cases hn : nmbN t (widN c) with
          | none => rw [hn] at h; cases h
          | some n =>
            rw [hn, Option.bind_some] at h
            split at h
            · rename_i hi
              cases h
              refine ⟨hi, by omega, ?_⟩
              unfold nmbN at hn
              split at hn
              · cases hn
              · rw [List.length_cons]; omega
            · cases h

/-- the document's Unquote -/
def unquoteRef (s : List UInt8) (l : List Nat) : Option (List UInt8) :=
  if Lib.validD s = true ∧ 2 ≤ l.length ∧ l.head? = some 34 ∧ l.getLast? = some 34 then (unqN ((l.drop 1).take (l.length - 2))).map Sc.encs else none

set_option maxHeartbeats 4000000 in
set_option maxRecDepth 100000 in
theorem unquoteR_any (s : ByteArray) (w : World) (hs : s.size ≤ 10000) :
    Calls Tryd.prog 18 #[.string s] w fun e w' => e = txtR (unquoteRef s.data.toList (Sc.rns s.data.toList)) ∧ Below w.heap.size w w' := by
  have CC := Lib.hid (fun w1 => chars_any s w1 (by omega))
  unfold unquoteRef
  by_cases hv : Lib.validD s.data.toList = true
  · have hco : Sc.charsOf s.data.toList = some (Sc.rns s.data.toList) := by unfold Sc.charsOf; rw [if_pos hv]
    rw [hco] at CC
    have hrl := rns_len s.data.toList.length s.data.toList (Nat.le_refl _)
    rw [← Lib.size_eq] at hrl
    have HCH := Lib.hid (Sc.ch_rns s.data.toList)
    rw [hv]
    clear hv hco
    generalize Sc.rns s.data.toList = l at *
    by_cases h2 : l.length < 2
    · rw [if_neg (by omega)]
      have b1 : decide ((l.length : Int) < 2) = true := decide_eq_true (by omega)
      go_enter Tryd.func18, Tryd.ntmps18
      go_wp2_with fail
      refine (CC.out _).mono ?_
      rintro e w1 ⟨v, rfl, ho, hb⟩
      clear CC
      obtain ⟨a, cap, hv, hc1, hc2, hrd⟩ := ho.form
      simp only [Option.getD_some] at hv
      subst hv
      clear ho hrd
      go_wp2
      go_ret2
      exact ⟨rfl, hb⟩
    · have hp : 0 < l.length := by omega
      have hpl : l.length - 1 < l.length := by omega
      have b1 : decide ((l.length : Int) < 2) = false := decide_eq_false (by omega)
      have hh : (l.head? = some 34) ↔ l[0] = 34 := by
        cases l with
        | nil => simp at hp
        | cons x t => simp
      have hgl : (l.getLast? = some 34) ↔ l[l.length - 1] = 34 := by
        rw [List.getLast?_eq_getElem?, List.getElem?_eq_getElem hpl]; simp
      obtain ⟨x0, hx0⟩ : ∃ x, l[0] = x := ⟨_, rfl⟩
      obtain ⟨xn, hxn⟩ : ∃ x, l[l.length - 1] = x := ⟨_, rfl⟩
      rw [hx0] at hh
      rw [hxn] at hgl
      by_cases e1 : x0 = 34
      case neg =>
        rw [if_neg (fun h => e1 (hh.1 h.2.2.1))]
        have b2 : ((x0 : Int) != 34) = true := bne_iff_ne.2 (by omega)
        clear HCH hh hgl
        go_enter Tryd.func18, Tryd.ntmps18
        go_wp2_with fail
        refine (CC.out _).mono ?_
        rintro e w1 ⟨v, rfl, ho, hb⟩
        clear CC
        obtain ⟨a, cap, hv, hc1, hc2, hrd⟩ := ho.form
        simp only [Option.getD_some] at hv hrd
        subst hv
        obtain ⟨g, off, rfl, hg, hcb⟩ := hrd hp
        have c0 := hcb 0 hp
        rw [hx0, Nat.add_zero] at c0
        clear ho hcb hrd
        go_wp2
        go_ret2
        exact ⟨rfl, hb⟩
      by_cases e2 : xn = 34
      case neg =>
        rw [if_neg (fun h => e2 (hgl.1 h.2.2.2))]
        have b2 : ((x0 : Int) != 34) = false := bne_eq_false_iff_eq.2 (by omega)
        have b3 : ((xn : Int) != 34) = true := bne_iff_ne.2 (by omega)
        clear HCH hh hgl
        go_enter Tryd.func18, Tryd.ntmps18
        go_wp2_with fail
        refine (CC.out _).mono ?_
        rintro e w1 ⟨v, rfl, ho, hb⟩
        clear CC
        obtain ⟨a, cap, hv, hc1, hc2, hrd⟩ := ho.form
        simp only [Option.getD_some] at hv hrd
        subst hv
        obtain ⟨g, off, rfl, hg, hcb⟩ := hrd hp
        have c0 := hcb 0 hp
        have cn := hcb (l.length - 1) hpl
        rw [hx0, Nat.add_zero] at c0
        rw [hxn] at cn
        clear ho hcb hrd
        go_wp2
        go_ret2
        exact ⟨rfl, hb⟩
      rw [if_pos ⟨rfl, by omega, hh.2 e1, hgl.2 e2⟩]
      have b2 : ((x0 : Int) != 34) = false := bne_eq_false_iff_eq.2 (by omega)
      have b3 : ((xn : Int) != 34) = false := bne_eq_false_iff_eq.2 (by omega)
      clear hh hgl e1 e2
      obtain ⟨ANS, hANS⟩ : ∃ ANS, unqN ((l.drop 1).take (l.length - 2)) = ANS := ⟨_, rfl⟩
      rw [hANS]
      have HA : JoinsI [] (unqN ((l.drop 1).take (l.length - 2))) ANS := by unfold JoinsI; rw [hANS]; simp
      clear hANS
      have hml : ((l.drop 1).take (l.length - 2)).length = l.length - 2 := by rw [List.length_take, List.length_drop]; omega
      have HMC : Hid (∀ r ∈ (l.drop 1).take (l.length - 2), Sc.isCh r) := fun r hr => HCH.out r (List.mem_of_mem_drop (List.mem_of_mem_take hr))
      go_enter Tryd.func18, Tryd.ntmps18
      go_wp2_with fail
      refine (CC.out _).mono ?_
      rintro e w1 ⟨v, rfl, ho, hb⟩
      clear CC
      obtain ⟨a, cap, hv, hc1, hc2, hrd⟩ := ho.form
      unfold maxLen at hc2
      simp only [Option.getD_some] at hv hrd hc1
      subst hv
      obtain ⟨g, off, rfl, hg, hcb⟩ := hrd hp
      have c0 := hcb 0 hp
      have cn := hcb (l.length - 1) hpl
      rw [hx0, Nat.add_zero] at c0
      rw [hxn] at cn
      have HRM : Hid (RdI w1 w1.heap.size (some ⟨g, off + 1, none⟩) ((l.drop 1).take (l.length - 2))) := by
        intro _
        refine ⟨g, off + 1, rfl, hg, fun j hj => ?_⟩
        rw [hml] at hj
        have := hcb (1 + j) (by omega)
        rw [Nat.add_assoc, this]
        congr 3
        rw [List.getElem_take, List.getElem_drop]
      clear ho hcb hrd HCH
      generalize (l.drop 1).take (l.length - 2) = mid at *
      go_wp2
      clear c0 cn hx0 hxn b2 b3
      go_loopw [7, 8] (fun o b wr => ∃ (a : Option Addr) (m : List Nat) (cap : Nat) (acc : List Nat), b = .slice a m.length cap ∧ m.length < cap ∧ cap ≤ 9223372036854775807 ∧ RdI w1 w1.heap.size a m ∧ OwnI wr w1.heap.size o acc ∧ Below w1.heap.size w1 wr ∧ JoinsI acc (unqN m) ANS ∧ acc.length + m.length ≤ 10000 ∧ Hid (∀ r ∈ m, Sc.isCh r) ∧ Hid (∀ r ∈ acc, Sc.isCh r)) (fun _ b _ => sliceLen b)
      case atStart => exact ⟨_, mid, cap - 1, [], slice_eq rfl (by omega) rfl, by omega, by omega, HRM.out, ownI_nil _ _, Below.refl _ _, HA, by simp; omega, HMC, (show ∀ r ∈ ([] : List Nat), Sc.isCh r from fun r hr => absurd hr List.not_mem_nil)⟩
      case round =>
        clear HRM HA HMC hml
        obtain ⟨a, m, cap', acc, rfl, hcm, hcm2, hrd, hown, hbw, HJ, hal, HC1, HC2⟩ := hrel
        have hsz := hbw.size
        by_cases h0 : m.length = 0
        · have hl : m = [] := List.eq_nil_of_length_eq_zero h0
          subst hl
          have hA : ANS = some acc := by
            unfold JoinsI at HJ; rw [unqN_nil] at HJ; simpa using HJ.symm
          subst hA
          obtain ⟨a', cap2, hv', hc1', hc2', hrd'⟩ := hown.form
          subst hv'
          have CT := Lib.hid (text_any a' acc cap2 wr hrd' HC2.out (by omega))
          clear hrd' hown HJ hrd
          go_wp2_with fail
          refine CT.out.mono ?_
          rintro e w2 ⟨rfl, h2⟩
          clear CT
          go_wp2
          go_ret2
          exact ⟨rfl, hb.trans ((hbw.trans (h2.mono hsz)).mono hb.size)⟩
        · have hmp : 0 < m.length := by omega
          obtain ⟨g', off', rfl, hg', hcb⟩ := hrd hmp
          have c0 := (hbw.cell (p := ⟨g', off' + 0, none⟩) hg').trans (hcb 0 hmp)
          rw [Nat.add_zero] at c0
          have hmc : m = m[0] :: m.drop 1 := by rw [← List.drop_eq_getElem_cons hmp, List.drop_zero]
          have HU : Hid (unqN m = if m[0] = 34 ∨ m[0] = 10 then none else if m[0] = 92 then (meantN (m.drop 1)).bind fun p => (unqN ((m.drop 1).drop p.2)).map (p.1 :: ·) else (unqN (m.drop 1)).map (m[0] :: ·)) := by
            show _ = _
            conv => lhs; rw [hmc]
            rw [unqN_cons]
          have hx := HC1.out _ (List.getElem_mem hmp)
          obtain ⟨x, hxe⟩ : ∃ x, m[0] = x := ⟨_, rfl⟩
          rw [hxe] at c0 HU hx
          clear hmc hxe
          by_cases hq : x = 34 ∨ x = 10
          · have hA : ANS = none := by
              have := HU.out; rw [if_pos hq] at this
              unfold JoinsI at HJ; rw [this] at HJ; exact HJ.symm
            subst hA
            clear HU HJ hcb hrd hx
            rcases hq with rfl | rfl
            · go_wp2
              go_ret2
              exact ⟨rfl, hb.trans (hbw.mono hb.size)⟩
            · go_wp2
              go_ret2
              exact ⟨rfl, hb.trans (hbw.mono hb.size)⟩
          · have HU2 := Lib.hid (HU.out.trans (if_neg hq))
            have bq1 : ((x : Int) == 34) = false := beq_eq_false_iff_ne.2 (by omega)
            have bq2 : ((x : Int) == 10) = false := beq_eq_false_iff_ne.2 (by omega)
            clear HU hq
            have hcut : ∀ k, k ≤ m.length → RdI w1 w1.heap.size (some ⟨g', off' + k, none⟩) (m.drop k) := by
              intro k hk hpos
              refine ⟨g', off' + k, rfl, hg', fun j hj => ?_⟩
              rw [List.length_drop] at hj
              have := hcb (k + j) (by omega)
              rw [Nat.add_assoc, this, List.getElem_drop]
            have HCUT := Lib.hid hcut
            clear hcut hcb hrd
            by_cases h92 : x = 92
            · have HU3 := Lib.hid (HU2.out.trans (if_pos h92))
              have b92 : ((x : Int) != 92) = false := bne_eq_false_iff_eq.2 (by omega)
              clear HU2
              have hd1 : (m.drop 1).length = m.length - 1 := List.length_drop
              have CM : Hid (∀ v1, v1 = .slice (some ⟨g', off' + 1, none⟩) (m.length - 1) (cap' - 1) → Calls Tryd.prog 40 #[v1] wr fun e w' => e = meR (meantN (m.drop 1)) ∧ Below wr.heap.size wr w') := by
                intro v1 e1
                rw [e1, ← hd1]
                exact meant_any _ (m.drop 1) (cap' - 1) wr (((HCUT.out 1 (by omega)).below hbw).more hsz) (by omega) (by omega) (fun r hr => HC1.out r (List.mem_of_mem_drop hr))
              have HMG := Lib.hid (fun r z h => meantN_good (m.drop 1) r z h)
              cases hme : meantN (m.drop 1) with
              | none =>
                have hA : ANS = none := by
                  have := HU3.out; rw [hme] at this
                  unfold JoinsI at HJ; rw [this] at HJ; exact HJ.symm
                subst hA
                rw [hme] at CM
                simp only [meR] at CM
                clear HU3 HJ HMG hme HCUT hx hd1
                go_wp2_with fail
                refine (CM.out _ (slice_eq rfl (by omega) (by omega))).mono ?_
                rintro e w2 ⟨rfl, h2⟩
                clear CM
                go_wp2
                go_ret2
                exact ⟨rfl, hb.trans ((hbw.trans (h2.mono hsz)).mono hb.size)⟩
              | some p =>
                obtain ⟨r, z⟩ := p
                obtain ⟨hr, hz1, hz2⟩ := HMG.out r z hme
                rw [hd1] at hz2
                have HN : JoinsI (acc ++ [r]) (unqN (m.drop (1 + z))) ANS := by
                  have := HU3.out; rw [hme, Option.bind_some] at this
                  rw [this] at HJ
                  have h3 := HJ.step
                  rw [List.drop_drop] at h3
                  exact h3
                rw [hme] at CM
                simp only [meR] at CM
                have hrn : r ≤ 1114111 := by unfold Sc.isCh at hr; omega
                have HRI := Lib.hid hr
                clear HU3 HJ HMG hme hx hd1 hr
                go_wp2_with fail
                refine (CM.out _ (slice_eq rfl (by omega) (by omega))).mono ?_
                rintro e w2 ⟨rfl, h2⟩
                have hown2 := ownI_below hown h2
                have hB2 : w1.heap.size ≤ w2.heap.size := Nat.le_trans hsz h2.size
                clear CM hown
                have br : decide ((r : Int) < 0) = false := decide_eq_false (by omega)
                go_wp2_with (at_builtin; refine wpList_pushI rfl (.tmp 75) (.tmp 77) rfl w1.heap.size _ acc [r] w2 _ _ _ rfl _ rfl rfl rfl rfl hown2 (by simp; omega) hB2 ?_; intro v' w' ho' hk' hB')
                go_roundw
                case rel => exact ⟨_, m.drop (1 + z), cap' - (1 + z), acc ++ [r], slice_eq rfl (by rw [List.length_drop]) (by omega), by rw [List.length_drop]; omega, by omega, HCUT.out (1 + z) (by omega), ho', (hbw.trans (h2.mono hsz)).trans hk', HN, by rw [List.length_append, List.length_drop]; simp; omega, (fun y hy => HC1.out y (List.mem_of_mem_drop hy) : ∀ y ∈ m.drop (1 + z), Sc.isCh y), (by intro y hy; rcases List.mem_append.1 hy with h | h; exact HC2.out y h; rw [List.mem_singleton.1 h]; exact HRI.out : ∀ y ∈ acc ++ [r], Sc.isCh y)⟩
                case measure => simp [sliceLen]; omega
            · have HU3 := Lib.hid (HU2.out.trans (if_neg h92))
              have b92 : ((x : Int) != 92) = true := bne_iff_ne.2 (by omega)
              have HN : JoinsI (acc ++ [x]) (unqN (m.drop 1)) ANS := by
                have := HU3.out
                rw [this] at HJ
                exact HJ.step
              have HRI := Lib.hid hx
              clear HU2 HU3 HJ h92 hx
              go_wp2_with (at_builtin; refine wpList_pushI rfl (.tmp 59) (.tmp 63) rfl w1.heap.size _ acc [x] wr _ _ _ rfl _ rfl rfl rfl rfl hown (by simp; omega) hsz ?_; intro v' w' ho' hk' hB')
              go_roundw
              case rel => exact ⟨_, m.drop 1, cap' - 1, acc ++ [x], slice_eq rfl (by rw [List.length_drop]) (by omega), by rw [List.length_drop]; omega, by omega, HCUT.out 1 (by omega), ho', hbw.trans hk', HN, by rw [List.length_append, List.length_drop]; simp; omega, (fun y hy => HC1.out y (List.mem_of_mem_drop hy) : ∀ y ∈ m.drop 1, Sc.isCh y), (by intro y hy; rcases List.mem_append.1 hy with h | h; exact HC2.out y h; rw [List.mem_singleton.1 h]; exact HRI.out : ∀ y ∈ acc ++ [x], Sc.isCh y)⟩
              case measure => simp [sliceLen]; omega
  · rw [if_neg (fun h => hv h.1)]
    have hco : Sc.charsOf s.data.toList = none := by unfold Sc.charsOf; rw [if_neg hv]
    rw [hco] at CC
    clear hv hco
    go_enter Tryd.func18, Tryd.ntmps18
    go_wp2_with fail
    refine (CC.out _).mono ?_
    rintro e w1 ⟨v, rfl, ho, hb⟩
    clear CC
    obtain ⟨a, cap, hv, hc1, hc2, hrd⟩ := ho.form
    simp only [Option.getD_none, List.length_nil] at hv
    subst hv
    clear ho hrd
    go_wp2
    go_ret2
    exact ⟨rfl, hb⟩
end Go.Proofs.YtlfmaeodkghbbaaDoor
