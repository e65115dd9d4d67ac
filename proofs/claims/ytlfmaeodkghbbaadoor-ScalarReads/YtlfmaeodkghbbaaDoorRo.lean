/-
  Walk of the document's Unsingle.
-/
import Derived.Test.YtlfmaeodkghbbaaDoorRn
import Derived.Test.YtlfmaeodkghbbaaDoorRi
namespace Go.Proofs.YtlfmaeodkghbbaaDoor
open Go.RowKit

/-- behind a quote, one character is passed over -/
def undblN : List Nat → List Nat
  | [] => []
  | [c] => [c]
  | c :: d :: t => if c = 39 then c :: undblN t else c :: undblN (d :: t)
theorem undblN_cons (c : Nat) (t : List Nat) : undblN (c :: t) = c :: undblN (if c = 39 then t.drop 1 else t) := by
  cases t with
  | nil => by_cases h : c = 39 <;> simp [undblN, h]
  | cons d u => by_cases h : c = 39 <;> simp [undblN, h]
theorem undblN_sub : ∀ (n : Nat) (l : List Nat), l.length ≤ n → (undblN l).length ≤ l.length ∧ ∀ r ∈ undblN l, r ∈ l
  | 0, l, h => by
    have : l = [] := List.eq_nil_of_length_eq_zero (by omega)
    subst this; exact ⟨by simp [undblN], fun r hr => hr⟩
  | n + 1, l, h => by
    cases l with
    | nil => exact ⟨by simp [undblN], fun r hr => hr⟩
    | cons c t =>
      rw [List.length_cons] at h
      have h2 : (if c = 39 then t.drop 1 else t).length ≤ t.length := by
        by_cases e : c = 39
        · rw [if_pos e, List.length_drop]; omega
        · rw [if_neg e]; omega
      have ih := undblN_sub n (if c = 39 then t.drop 1 else t) (by omega)
      have h3 : ∀ r ∈ (if c = 39 then t.drop 1 else t), r ∈ t := by
        intro r hr
        by_cases e : c = 39
        · rw [if_pos e] at hr; exact List.mem_of_mem_drop hr
        · rw [if_neg e] at hr; exact hr
      rw [undblN_cons]
      refine ⟨by simp only [List.length_cons]; omega, fun r hr => ?_⟩
      rcases List.mem_cons.1 hr with rfl | hr
      · simp
      · simp [h3 r (ih.2 r hr)]

/-- the document's Unsingle -/
def unsingleRef (s : List UInt8) (l : List Nat) : Option (List UInt8) :=
  if Lib.validD s = true ∧ 2 ≤ l.length then (if singleOf (Sc.encs (undblN ((l.drop 1).take (l.length - 2)))) = some s then some (Sc.encs (undblN ((l.drop 1).take (l.length - 2)))) else none) else none

set_option maxHeartbeats 4000000 in
set_option maxRecDepth 100000 in
theorem unsingleR_any (s : ByteArray) (w : World) (hs : s.size ≤ 2000) :
    Calls Tryd.prog 20 #[.string s] w fun e w' => e = txtR (unsingleRef s.data.toList (Sc.rns s.data.toList)) ∧ Below w.heap.size w w' := by
  have CC := Lib.hid (fun w1 => chars_any s w1 (by omega))
  unfold unsingleRef
  by_cases hv : Lib.validD s.data.toList = true
  · have hco : Sc.charsOf s.data.toList = some (Sc.rns s.data.toList) := by unfold Sc.charsOf; rw [if_pos hv]
    rw [hco] at CC
    have hrl := rns_len s.data.toList.length s.data.toList (Nat.le_refl _)
    rw [← Lib.size_eq] at hrl
    have HCH := Lib.hid (Sc.ch_rns s.data.toList)
    rw [hv]
    clear hv hco
    generalize Sc.rns s.data.toList = l at *
    by_cases h2 : l.length < 2
    · rw [if_neg (by omega)]
      have b1 : decide ((l.length : Int) < 2) = true := decide_eq_true (by omega)
      go_enter Tryd.func20, Tryd.ntmps20
      go_wp2_with fail
      refine (CC.out _).mono ?_
      rintro e w1 ⟨v, rfl, ho, hb⟩
      clear CC
      obtain ⟨a, cap, hv, hc1, hc2, hrd⟩ := ho.form
      simp only [Option.getD_some] at hv
      subst hv
      clear ho hrd
      go_wp2
      go_ret2
      exact ⟨rfl, hb⟩
    · have hp : 0 < l.length := by omega
      have b1 : decide ((l.length : Int) < 2) = false := decide_eq_false (by omega)
      rw [if_pos ⟨rfl, by omega⟩]
      have hml : ((l.drop 1).take (l.length - 2)).length = l.length - 2 := by rw [List.length_take, List.length_drop]; omega
      have HMC : Hid (∀ r ∈ (l.drop 1).take (l.length - 2), Sc.isCh r) := fun r hr => HCH.out r (List.mem_of_mem_drop (List.mem_of_mem_take hr))
      have HRD : ∀ (w1 : World) g off, g < w1.heap.size → (∀ (j : Nat) (h : j < l.length), w1.cell? ⟨g, off + j, none⟩ = some (.int .i64 (l[j]'h : Nat))) → Hid (RdI w1 w1.heap.size (some ⟨g, off + 1, none⟩) ((l.drop 1).take (l.length - 2))) := by
        intro w1 g off hg hcb _
        refine ⟨g, off + 1, rfl, hg, fun j hj => ?_⟩
        rw [hml] at hj
        have := hcb (1 + j) (by omega)
        rw [Nat.add_assoc, this]
        congr 3
        rw [List.getElem_take, List.getElem_drop]
      generalize (l.drop 1).take (l.length - 2) = mid at *
      have hus := undblN_sub mid.length mid (Nat.le_refl _)
      have HUC : Hid (∀ r ∈ undblN mid, Sc.isCh r) := fun r hr => HMC.out r (hus.2 r hr)
      have hul := hus.1
      obtain ⟨ANS, hANS⟩ : ∃ ANS, undblN mid = ANS := ⟨_, rfl⟩
      have HA : Hid ([] ++ undblN (mid.drop 0) = ANS) := hANS
      rw [hANS] at HUC hul ⊢
      clear hANS hus
      obtain ⟨O, hO⟩ : ∃ O, O = str (Sc.encs ANS) := ⟨_, rfl⟩
      have hOd : Sc.encs ANS = O.data.toList := by rw [hO]; rfl
      have hOs : O.size ≤ 10000 := by
        have := encs_len ANS
        rw [Lib.size_eq, ← hOd]; omega
      have CS := Lib.hid (fun w1 => singleR_any O w1 hOs)
      have CT := Lib.hid (fun (w2 : World) a cap (h : RdI w2 w2.heap.size a ANS) => text_any a ANS cap w2 h HUC.out (by omega))
      rw [← hO] at CT
      rw [hOd]
      obtain ⟨RES, hRES⟩ : ∃ RES, (if singleOf O.data.toList = some s.data.toList then some O.data.toList else none) = RES := ⟨_, rfl⟩
      rw [hRES]
      have HQ := Lib.hid hRES
      clear hRES hO hOd hOs HCH
      go_enter Tryd.func20, Tryd.ntmps20
      go_wp2_with fail
      refine (CC.out _).mono ?_
      rintro e w1 ⟨v, rfl, ho, hb⟩
      clear CC
      obtain ⟨a, cap, hv, hc1, hc2, hrd⟩ := ho.form
      unfold maxLen at hc2
      simp only [Option.getD_some] at hv hrd hc1
      subst hv
      obtain ⟨g, off, rfl, hg, hcb⟩ := hrd hp
      have HRM := HRD w1 g off hg hcb
      clear ho hcb hrd HRD
      go_wp2
      rw [show l.length - 1 - 1 = mid.length by omega]
      have hmle : mid.length ≤ 2000 := by omega
      clear hml
      go_loopw [6, 8] (fun o i wr => ∃ (k : Nat) (acc : List Nat), i = .int .i64 k ∧ k ≤ mid.length + 1 ∧ OwnI wr w1.heap.size o acc ∧ Below w1.heap.size w1 wr ∧ Hid (acc ++ undblN (mid.drop k) = ANS) ∧ acc.length ≤ k) (fun _ i _ => mid.length + 1 - (intOf i).toNat)
      case atStart => exact ⟨0, [], rfl, by omega, ownI_nil _ _, Below.refl _ _, HA, by simp⟩
      case round =>
        clear HA
        obtain ⟨k, acc, rfl, hk, hown, hbw, HK, hal⟩ := hrel
        have hsz := hbw.size
        by_cases hlt : k < mid.length
        · obtain ⟨g', off', he, hg', hcb⟩ := HRM.out (by omega)
          cases he
          have ck := (hbw.cell (p := ⟨g, off + 1 + k, none⟩) hg').trans (hcb k hlt)
          have HS : Hid ((acc ++ [mid[k]]) ++ undblN (if mid[k] = 39 then mid.drop (k + 2) else mid.drop (k + 1)) = ANS) := by
            have := HK.out
            rw [List.drop_eq_getElem_cons hlt, undblN_cons, List.drop_drop] at this
            show _ = _
            rw [← this]; simp
          clear hcb HK
          generalize mid[k] = x at *
          by_cases h39 : x = 39
          · have HN : Hid ((acc ++ [x]) ++ undblN (mid.drop (k + 2)) = ANS) := by
              have := HS.out; rw [if_pos h39] at this; exact this
            have b39 : ((x : Int) == 39) = true := beq_iff_eq.2 (by omega)
            clear HS h39
            go_wp2_with (at_builtin; refine wpList_pushI rfl (.tmp 34) (.tmp 39) rfl w1.heap.size _ acc [x] wr _ _ _ rfl _ rfl rfl rfl rfl hown (by simp; omega) hsz ?_; intro v' w' ho' hk' hB'; have ck2 := (hk'.cell (p := ⟨g, off + 1 + k, none⟩) hg').trans ck)
            go_roundw
            case rel => exact ⟨k + 2, acc ++ [x], by go_num, by omega, ho', hbw.trans hk', HN, by simp; omega⟩
            case measure => simp [intOf]; omega
          · have HN : Hid ((acc ++ [x]) ++ undblN (mid.drop (k + 1)) = ANS) := by
              have := HS.out; rw [if_neg h39] at this; exact this
            have b39 : ((x : Int) == 39) = false := beq_eq_false_iff_ne.2 (by omega)
            clear HS h39
            go_wp2_with (at_builtin; refine wpList_pushI rfl (.tmp 34) (.tmp 39) rfl w1.heap.size _ acc [x] wr _ _ _ rfl _ rfl rfl rfl rfl hown (by simp; omega) hsz ?_; intro v' w' ho' hk' hB'; have ck2 := (hk'.cell (p := ⟨g, off + 1 + k, none⟩) hg').trans ck)
            go_roundw
            case rel => exact ⟨k + 1, acc ++ [x], by go_num, by omega, ho', hbw.trans hk', HN, by simp; omega⟩
            case measure => simp [intOf]; omega
        · have hA : acc = ANS := by
            have := HK.out; rw [List.drop_eq_nil_of_le (by omega)] at this; simpa [undblN] using this
          subst hA
          clear HK HRM HMC
          obtain ⟨a', cap2, hv', hc1', hc2', hrd'⟩ := hown.form
          subst hv'
          have C1 := Lib.hid (CT.out wr a' cap2 hrd')
          have HRW := Lib.hid hrd'
          clear hrd' hown
          go_wp2_with fail
          refine C1.out.mono ?_
          rintro e w2 ⟨rfl, h2⟩
          clear C1
          have hbw2 := hbw.trans (h2.mono hsz)
          have HRW2 := Lib.hid ((HRW.out.below h2).more h2.size)
          cases hq : singleOf O.data.toList with
          | none =>
            rw [hq, txtR_none] at CS
            have hR : RES = none := by have := HQ.out; rw [hq] at this; exact this.symm
            subst hR
            clear hq HQ HRW CT
            go_wp2_with fail
            refine (CS.out _).mono ?_
            rintro e w3 ⟨rfl, h3⟩
            clear CS
            go_wp2
            go_ret2
            exact ⟨rfl, hb.trans ((hbw2.trans (h3.mono hbw2.size)).mono hb.size)⟩
          | some q =>
            obtain ⟨Q, rfl⟩ : ∃ Q : ByteArray, q = Q.data.toList := ⟨str q, rfl⟩
            rw [hq] at CS
            unfold txtR at CS
            simp only [Option.getD_some, Option.isSome_some, if_true, str_eq] at CS
            by_cases he : Q = s
            · have hR : RES = some O.data.toList := by have := HQ.out; rw [hq, he, if_pos rfl] at this; exact this.symm
              subst hR
              subst he
              have hbs : (Q.toList != Q.toList) = false := by simp
              clear hq HQ HRW
              go_wp2_with fail
              refine (CS.out _).mono ?_
              rintro e w3 ⟨rfl, h3⟩
              clear CS
              have hbw3 := hbw2.trans (h3.mono hbw2.size)
              have C2 := Lib.hid (CT.out w3 a' cap2 ((HRW2.out.below h3).more h3.size))
              clear CT HRW2
              go_wp2_with fail
              refine C2.out.mono ?_
              rintro e w4 ⟨rfl, h4⟩
              clear C2
              go_wp2
              go_ret2
              refine ⟨?_, hb.trans ((hbw3.trans (h4.mono hbw3.size)).mono hb.size)⟩
              exact txtR_some _ O rfl
            · have he' : Q.data.toList ≠ s.data.toList := fun x => he (str_inj x)
              have hR : RES = none := by
                have := HQ.out; rw [hq, if_neg (by simpa using he')] at this; exact this.symm
              subst hR
              have hb1 : (Q.toList == s.toList) = false := by rw [Lib.toList_data, Lib.toList_data]; simpa using he'
              have hb2 : (Q.toList != s.toList) = true := by rw [Lib.toList_data, Lib.toList_data]; simpa using he'
              clear hq HQ HRW he he' CT
              go_wp2_with fail
              refine (CS.out _).mono ?_
              rintro e w3 ⟨rfl, h3⟩
              clear CS
              go_wp2
              go_ret2
              exact ⟨rfl, hb.trans ((hbw2.trans (h3.mono hbw2.size)).mono hb.size)⟩
  · rw [if_neg (fun h => hv h.1)]
    have hco : Sc.charsOf s.data.toList = none := by unfold Sc.charsOf; rw [if_neg hv]
    rw [hco] at CC
    clear hv hco
    go_enter Tryd.func20, Tryd.ntmps20
    go_wp2_with fail
    refine (CC.out _).mono ?_
    rintro e w1 ⟨v, rfl, ho, hb⟩
    clear CC
    obtain ⟨a, cap, hv, hc1, hc2, hrd⟩ := ho.form
    simp only [Option.getD_none, List.length_nil] at hv
    subst hv
    clear ho hrd
    go_wp2
    go_ret2
    exact ⟨rfl, hb⟩
end Go.Proofs.YtlfmaeodkghbbaaDoor
