/-
  Walk of scalar.Unquote.
-/
import Derived.Test.YthkedlcmpibkjaaGreatDoorWh
namespace Go.Proofs.YthkedlcmpibkjaaGreatDoor
open Go.RowKit

theorem charFrom_le (b r : Nat) (h : charFrom 0 b = some r) : r ≤ 10000 := by
  unfold charFrom at h
  obtain ⟨p, hp, rfl⟩ := Option.map_eq_some_iff.1 h
  have hm := List.mem_of_find?_eq_some hp
  have : ∀ q ∈ namedTab, q.1 ≤ 10000 := by decide
  exact this p (by simpa using hm)
theorem numOf_le (l : List UInt8) (d : Nat) : (numOf l d).1 ≤ 1114111 ∧ (numOf l d).2 ≤ l.length := by
  unfold numOf
  split
  · exact ⟨by simp, by simp⟩
  · rename_i hl
    cases hexNum ((l.drop 1).take d) 0 with
    | none => exact ⟨by simp, by simp⟩
    | some n =>
      simp only
      split
      · rename_i hc; unfold Sc.isCh at hc; exact ⟨by simp only; omega, by simp only; omega⟩
      · exact ⟨by simp, by simp⟩
theorem escOf_le (l : List UInt8) : (escOf l).1 ≤ 1114111 ∧ (escOf l).2 ≤ l.length := by
  cases l with
  | nil => simp [escOf]
  | cons c t =>
    simp only [escOf]
    repeat' split
    · simp
    · exact numOf_le _ _
    · exact numOf_le _ _
    · exact numOf_le _ _
    · cases h : charFrom 0 c.toNat with
      | none => simp [nmR]
      | some r => have := charFrom_le _ _ h; simp [nmR]; omega

/-- what stands between double quotes, with fuel -/
def unqGo : Nat → List UInt8 → Option (List UInt8)
  | 0, _ => some []
  | _ + 1, [] => some []
  | n + 1, b :: t =>
    if b.toNat = 34 ∨ b.toNat = 10 then none
    else if b.toNat = 92 then (if (escOf t).2 = 0 then none else (unqGo n (t.drop (escOf t).2)).map (Sc.enc (escOf t).1 ++ ·))
    else (unqGo n t).map ([b] ++ ·)
theorem unqGo_fuel : ∀ (n m : Nat) (l : List UInt8), l.length ≤ n → l.length ≤ m → unqGo n l = unqGo m l
  | 0, m, l, h, _ => by
    have : l = [] := List.eq_nil_of_length_eq_zero (by omega)
    subst this; cases m <;> rfl
  | n + 1, 0, l, _, h => by
    have : l = [] := List.eq_nil_of_length_eq_zero (by omega)
    subst this; rfl
  | n + 1, m + 1, [], _, _ => rfl
  | n + 1, m + 1, b :: t, h1, h2 => by
    simp only [List.length_cons] at h1 h2
    simp only [unqGo]
    rw [unqGo_fuel n m t (by omega) (by omega), unqGo_fuel n m (t.drop (escOf t).2) (by rw [List.length_drop]; omega) (by rw [List.length_drop]; omega)]
def unq (l : List UInt8) : Option (List UInt8) := unqGo l.length l
theorem unq_nil : unq [] = some [] := rfl
theorem unq_cons (b : UInt8) (t : List UInt8) : unq (b :: t) = if b.toNat = 34 ∨ b.toNat = 10 then none
    else if b.toNat = 92 then (if (escOf t).2 = 0 then none else (unq (t.drop (escOf t).2)).map (Sc.enc (escOf t).1 ++ ·)) else (unq t).map ([b] ++ ·) := by
  unfold unq
  simp only [List.length_cons, unqGo]
  rw [unqGo_fuel t.length (t.drop (escOf t).2).length (t.drop (escOf t).2) (by rw [List.length_drop]; omega) (Nat.le_refl _)]

/-- Unquote, by its bytes -/
def unquoteOf (l : List UInt8) : Option (List UInt8) :=
  if Lib.validD l = true ∧ 2 ≤ l.length ∧ l.head? = some 34 ∧ l.getLast? = some 34 then unq ((l.drop 1).take (l.length - 2)) else none

theorem own_below {w w' : World} {B : Nat} {v : Value} {l : List UInt8} (h : Own w B v l) (hb : Below w.heap.size w w') : Own w' B v l := by
  obtain ⟨h1, h2⟩ := h
  refine ⟨h1, ?_⟩
  rcases h2 with h2 | ⟨g, cap, cur, hv, hB, hh, hr⟩
  · exact .inl h2
  · exact .inr ⟨g, cap, cur, hv, hB, (hb.block g (Array.getElem?_eq_some_iff.1 hh).1).trans hh, hr⟩
/-- the loop's word: what was read, and what is left -/
def Joins (a : List UInt8) (o ANS : Option (List UInt8)) : Prop := o.map (a ++ ·) = ANS
theorem Joins.step {a x : List UInt8} {o ANS : Option (List UInt8)} (h : Joins a (o.map (x ++ ·)) ANS) : Joins (a ++ x) o ANS := by
  unfold Joins at *
  rw [← h, Option.map_map]
  congr 1
  funext y
  simp

set_option maxHeartbeats 2000000 in
set_option maxRecDepth 100000 in
theorem unquote_good (s : ByteArray) (w : World) (hs : s.size ≤ 50000) (hE : Env w) (hv : Lib.validD s.data.toList = true) (h2 : 2 ≤ s.size) (h3 : ((s[0].toNat : Int) != 34) = false) (h4 : ((s[s.size - 1].toNat : Int) != 34) = false) :
    Calls Tryz.prog 42 #[.string s] w fun e w' => e = txtR (unq ((s.data.toList.drop 1).take (s.data.toList.length - 2))) ∧ Below w.heap.size w w' := by
  have cV := valid_any s w (by omega) hE
  rw [hv] at cV
  clear hv
  obtain ⟨I, hI⟩ : ∃ I, s.extract 1 (s.size - 1) = I := ⟨_, rfl⟩
  have hId : I.data.toList = (s.data.toList.drop 1).take (s.data.toList.length - 2) := by
    rw [← hI, Lib.extract_data, ← Lib.size_eq]; congr 1
  have hIs : I.size ≤ 50000 := by
    rw [Lib.size_eq, hId, List.length_take, List.length_drop, ← Lib.size_eq]; omega
  rw [← hId]
  clear hId
  obtain ⟨ANS, hANS⟩ : ∃ ANS, unq I.data.toList = ANS := ⟨_, rfl⟩
  rw [hANS]
  have HA : Joins [] (unq (I.data.toList.drop 0)) ANS := by unfold Joins; rw [← hANS]; simp
  clear hANS
  go_enter Tryz.func42, Tryz.ntmps42
  go_wp2_with (go_at_call 32; refine cV.mono ?_; rintro e w1 ⟨rfl, hb⟩)
  clear cV
  have hE1 : Env w1 := hE.below hb
  clear hE hI
  go_loopw [5, 6] (fun v i wr => ∃ (k : Nat) (a : List UInt8), k ≤ I.size ∧ i = .int .i64 k ∧ Own wr w1.heap.size v a ∧ Below w1.heap.size w1 wr ∧ Joins a (unq (I.data.toList.drop k)) ANS ∧ a.length ≤ 4 * k) (fun _ i _ => I.size - (intOf i).toNat)
  case atStart => exact ⟨0, [], by omega, rfl, own_nil _ _, Below.refl _ _, HA, by simp⟩
  case round =>
    obtain ⟨k, a, hk, rfl, hown, hbw, HJ, hal⟩ := hrel
    clear HA
    have hsz := hbw.size
    by_cases hlt : k < I.size
    · have hbl := Sc.drop_cons I k hlt
      rw [hbl, unq_cons] at HJ
      clear hbl
      have hb256 := I[k].toNat_lt
      by_cases c1 : I[k].toNat = 34 ∨ I[k].toNat = 10
      · rw [if_pos c1] at HJ
        have HF : Hid (ANS = none) := HJ.symm
        clear HJ
        rcases c1 with c1 | c1
        · have b1 : ((I[k].toNat : Int) == 34) = true := beq_iff_eq.2 (by omega)
          clear c1
          go_wp2
          go_ret2
          rw [HF.out]
          exact ⟨rfl, hb.trans (hbw.mono hb.size)⟩
        · have b1 : ((I[k].toNat : Int) == 34) = false := beq_eq_false_iff_ne.2 (by omega)
          have b2 : ((I[k].toNat : Int) == 10) = true := beq_iff_eq.2 (by omega)
          clear c1
          go_wp2
          go_ret2
          rw [HF.out]
          exact ⟨rfl, hb.trans (hbw.mono hb.size)⟩
      · rw [if_neg c1] at HJ
        have b1 : ((I[k].toNat : Int) == 34) = false := beq_eq_false_iff_ne.2 (by omega)
        have b2 : ((I[k].toNat : Int) == 10) = false := beq_eq_false_iff_ne.2 (by omega)
        clear c1
        by_cases c2 : I[k].toNat = 92
        · rw [if_pos c2] at HJ
          have b3 : ((I[k].toNat : Int) == 92) = true := beq_iff_eq.2 (by omega)
          clear c2
          have hTd : (I.extract (k + 1) I.size).data.toList = I.data.toList.drop (k + 1) := Lib.extract_to_end I (k + 1)
          have hTs : (I.extract (k + 1) I.size).size ≤ 100000 := by
            rw [Lib.size_eq, hTd, List.length_drop, ← Lib.size_eq]; omega
          have hEr : Env wr := hE1.kept hE1.size hbw
          have cE := escaped_any (I.extract (k + 1) I.size) wr hTs hEr
          rw [hTd] at cE
          have hle := escOf_le (I.data.toList.drop (k + 1))
          rw [List.length_drop, ← Lib.size_eq] at hle
          rw [List.drop_drop] at HJ
          clear hTd hTs hEr
          generalize escOf (I.data.toList.drop (k + 1)) = P at *
          obtain ⟨r, z⟩ := P
          simp only at hle HJ
          obtain ⟨hr, hz⟩ := hle
          unfold pairR at cE
          simp only at cE
          by_cases c3 : z = 0
          · subst c3
            have HF : Hid (ANS = none) := HJ.symm
            clear HJ
            go_wp2_with (go_at_call 68; refine cE.mono ?_; rintro e w2 ⟨rfl, hb2⟩)
            go_ret2
            rw [HF.out]
            exact ⟨rfl, hb.trans ((hbw.trans (hb2.mono hsz)).mono hb.size)⟩
          · rw [if_neg c3] at HJ
            have HN := HJ.step
            have b4 : ((z : Int) == 0) = false := beq_eq_false_iff_ne.2 (by omega)
            have hel := Sc.enc_len r
            clear c3 HJ
            have CR := Lib.hid (fun w2 (hb2 : Below wr.heap.size wr w2) => rune_any w1.heap.size _ a r w2 hr (own_below hown hb2) (by omega) (Nat.le_trans hsz hb2.size))
            clear hown
            go_wp2_with (first | (go_at_call 68; refine cE.mono ?_; rintro e w2 ⟨rfl, hb2⟩) | (go_at_call 69; refine (CR.out _ hb2).mono ?_; rintro e w3 ⟨v3, rfl, ho3, hk3⟩))
            go_roundw
            case rel =>
              refine ⟨k + 1 + z, a ++ Sc.enc r, by omega, by go_num, ho3, (hbw.trans (hb2.mono hsz)).trans hk3.1, HN, ?_⟩
              rw [List.length_append]; omega
            case measure => simp [intOf]; omega
        · rw [if_neg c2] at HJ
          have b3 : ((I[k].toNat : Int) == 92) = false := beq_eq_false_iff_ne.2 (by omega)
          have HN := HJ.step
          clear c2 HJ
          go_wp2_with (at_builtin; refine wpList_push rfl (.tmp 46) (.tmp 48) rfl w1.heap.size _ a [I[k]] wr _ _ _ rfl _ rfl rfl rfl rfl hown (by simp; omega) hsz ?_; intro v' w' ho' hk' hB')
          go_roundw
          case rel => exact ⟨k + 1, a ++ [I[k]], by omega, by go_num, ho', hbw.trans hk'.1, HN, by simp; omega⟩
          case measure => simp [intOf]; omega
    · have hA : some a = ANS := by
        have h := HJ; unfold Joins at h; rw [Sc.drop_nil I k (by omega), unq_nil] at h; simpa using h
      subst hA
      clear HJ
      have hcv := own_string hown
      go_wp2
      go_ret2
      exact ⟨rfl, hb.trans (hbw.mono hb.size)⟩

theorem txtR_none : txtR none = .returned (.tuple #[.string ⟨#[]⟩, .int .i64 10]) := rfl
set_option maxHeartbeats 1000000 in
theorem unquote_bad (s : ByteArray) (w : World) (hs : s.size ≤ 50000) (hE : Env w) (h : Lib.validD s.data.toList = false ∨ s.size < 2 ∨ ∃ h2 : 2 ≤ s.size, ((s[0].toNat : Int) != 34) = true ∨ (((s[0].toNat : Int) != 34) = false ∧ ((s[s.size - 1].toNat : Int) != 34) = true)) :
    Calls Tryz.prog 42 #[.string s] w fun e w' => e = txtR none ∧ Below w.heap.size w w' := by
  have cV := valid_any s w (by omega) hE
  clear hE
  rw [txtR_none]
  cases hv : Lib.validD s.data.toList
  · rw [hv] at cV
    clear hv h
    go_enter Tryz.func42, Tryz.ntmps42
    go_wp2_with (go_at_call 32; refine cV.mono ?_; rintro e w1 ⟨rfl, hb⟩)
    go_ret2
    exact ⟨rfl, hb⟩
  · rw [hv] at cV
    rw [hv] at h
    clear hv
    rcases h with h | h | ⟨h2, h | ⟨h3, h⟩⟩
    · cases h
    · go_enter Tryz.func42, Tryz.ntmps42
      go_wp2_with (go_at_call 32; refine cV.mono ?_; rintro e w1 ⟨rfl, hb⟩)
      go_ret2
      exact ⟨rfl, hb⟩
    · go_enter Tryz.func42, Tryz.ntmps42
      go_wp2_with (go_at_call 32; refine cV.mono ?_; rintro e w1 ⟨rfl, hb⟩)
      go_ret2
      exact ⟨rfl, hb⟩
    · go_enter Tryz.func42, Tryz.ntmps42
      go_wp2_with (go_at_call 32; refine cV.mono ?_; rintro e w1 ⟨rfl, hb⟩)
      go_ret2
      exact ⟨rfl, hb⟩

theorem ba_last (s : ByteArray) (h : 0 < s.size) : s.data.toList.getLast? = some s[s.size - 1] := by
  rw [List.getLast?_eq_getElem?, ← Lib.size_eq]
  exact Lib.data_getElem? s (s.size - 1) (by omega)
theorem ba_head (s : ByteArray) (h : 0 < s.size) : s.data.toList.head? = some s[0] := by
  rw [List.head?_eq_getElem?]
  exact Lib.data_getElem? s 0 h
theorem u8_34 (b : UInt8) : (b = 34) ↔ (b.toNat : Int) = 34 := ⟨fun h => by rw [h]; rfl, fun h => Sc.u8_eq 34 (by omega)⟩
/-- THE CONTRACT of Unquote -/
theorem unquote_any (s : ByteArray) (w : World) (hs : s.size ≤ 50000) (hE : Env w) :
    Calls Tryz.prog 42 #[.string s] w fun e w' => e = txtR (unquoteOf s.data.toList) ∧ Below w.heap.size w w' := by
  unfold unquoteOf
  by_cases h : Lib.validD s.data.toList = true ∧ 2 ≤ s.data.toList.length ∧ s.data.toList.head? = some 34 ∧ s.data.toList.getLast? = some 34
  · rw [if_pos h]
    obtain ⟨hv, h2, h3, h4⟩ := h
    rw [← Lib.size_eq] at h2
    rw [ba_head s (by omega)] at h3
    rw [ba_last s (by omega)] at h4
    exact unquote_good s w hs hE hv h2 (by rw [(u8_34 _).1 (Option.some.inj h3)]; rfl) (by rw [(u8_34 _).1 (Option.some.inj h4)]; rfl)
  · rw [if_neg h]
    refine unquote_bad s w hs hE ?_
    cases hv : Lib.validD s.data.toList
    · exact Or.inl rfl
    · right
      by_cases h2 : s.size < 2
      · exact Or.inl h2
      · right
        refine ⟨by omega, ?_⟩
        by_cases h3 : (s[0].toNat : Int) = 34
        · right
          refine ⟨by rw [h3]; rfl, bne_iff_ne.2 fun h4 => h ⟨hv, by rw [← Lib.size_eq]; omega, ?_, ?_⟩⟩
          · rw [ba_head s (by omega), (u8_34 _).2 h3]
          · rw [ba_last s (by omega), (u8_34 _).2 h4]
        · exact Or.inl (bne_iff_ne.2 h3)
end Go.Proofs.YthkedlcmpibkjaaGreatDoor
