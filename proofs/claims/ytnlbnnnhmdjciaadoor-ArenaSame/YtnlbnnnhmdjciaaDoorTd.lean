/-
  Walks of the document's bare, begins, one, find, only.
  Walk of the document's only.
  Walks of the document's fraction and whole.
  Walks of the document's float and Resolve.
  Walks of the document's own, Core, Right, Word, Read, Fits.
-/
import Derived.Test.YtnlbnnnhmdjciaaDoorGg
import Derived.Deep.QuietTactic
import Derived.BigQuiet
namespace Go.Proofs.YtnlbnnnhmdjciaaDoor
namespace Tag
open Go.RowKit

set_option maxHeartbeats 400000 in
theorem bareR_any (s : ByteArray) (w : World) :
    Calls Tryd.prog 90 #[.string s] w fun e w' => e = .returned (.string (str (Tg.bare s.data.toList))) ∧ w = w' := by
  by_cases h0 : s.size = 0
  · obtain rfl := ba_nil s h0
    clear h0
    go_enter Tryd.func90, Tryd.ntmps90
    go_wp2
    go_ret
    exact ⟨rfl, rfl⟩
  · have hp : 0 < s.size := by omega
    have hemp := ba_isEmpty s hp
    have hnil := ba_notnil s hp
    by_cases h1 : (s[0].toNat : Int) = 43
    · have H := Lib.hid (bare_yes s hp (Or.inl h1))
      have b1 : ((s[0].toNat : Int) == 43) = true := beq_iff_eq.2 h1
      clear h1
      go_enter Tryd.func90, Tryd.ntmps90
      go_wp2
      go_ret
      exact ⟨ret_str H.out, rfl⟩
    · have b1 : ((s[0].toNat : Int) == 43) = false := beq_eq_false_iff_ne.2 h1
      by_cases h2 : (s[0].toNat : Int) = 45
      · have H := Lib.hid (bare_yes s hp (Or.inr h2))
        have b2 : ((s[0].toNat : Int) == 45) = true := beq_iff_eq.2 h2
        clear h1 h2
        go_enter Tryd.func90, Tryd.ntmps90
        go_wp2
        go_ret
        exact ⟨ret_str H.out, rfl⟩
      · have b2 : ((s[0].toNat : Int) == 45) = false := beq_eq_false_iff_ne.2 h2
        have H := Lib.hid (bare_no s hp h1 h2)
        clear h1 h2
        go_enter Tryd.func90, Tryd.ntmps90
        go_wp2
        go_ret
        exact ⟨ret_str H.out, rfl⟩

set_option maxHeartbeats 400000 in
theorem begins_any (s p : ByteArray) (w : World) :
    Calls Tryd.prog 72 #[.string s, .string p] w fun e w' => e = .returned (.bool (Lib.hasPrefix s.data.toList p.data.toList)) ∧ w = w' := by
  by_cases h : p.size ≤ s.size
  · have HP := Lib.hid (pre_take s p)
    have b0 : decide ((p.size : Int) ≤ (s.size : Int)) = true := decide_eq_true (by omega)
    go_enter Tryd.func72, Tryd.ntmps72
    go_wp2
    go_ret
    exact ⟨ret_bool HP.out.symm, rfl⟩
  · have b0 : decide ((p.size : Int) ≤ (s.size : Int)) = false := decide_eq_false (by omega)
    go_enter Tryd.func72, Tryd.ntmps72
    go_wp2
    go_ret
    exact ⟨ret_bool (pre_len s p (by omega)).symm, rfl⟩

set_option maxHeartbeats 1000000 in
set_option maxRecDepth 100000 in
theorem one_any (s : ByteArray) (b : Nat) (ws : List ByteArray) (w : World) (hn : ws.length ≤ 100) (hcell : ∀ j x, ws[j]? = some x → w.cell? ⟨b, j, none⟩ = some (.string x)) :
    Calls Tryd.prog 57 #[.string s, .slice (some ⟨b, 0, none⟩) ws.length ws.length] w fun e w' => e = .returned (.bool (ws.any fun x => x.toList == s.toList)) ∧ w = w' := by
  obtain ⟨ANS, hANS⟩ : ∃ ANS, (ws.any fun x => x.toList == s.toList) = ANS := ⟨_, rfl⟩
  rw [hANS]
  have HA : Hid (((ws.drop 0).any fun x => x.toList == s.toList) = ANS) := hANS
  have HC := Lib.hid hcell
  clear hANS hcell
  go_enter Tryd.func57, Tryd.ntmps57
  go_wp2
  go_loop [5] (fun i => ∃ k : Nat, k ≤ ws.length ∧ i = .int .i64 k ∧ Hid (((ws.drop k).any fun x => x.toList == s.toList) = ANS)) (fun i => ws.length - (intOf i).toNat)
  case atStart => exact ⟨0, by omega, rfl, HA⟩
  case round =>
    obtain ⟨k, hk, rfl, HK⟩ := hrel
    clear HA
    by_cases hlt : k < ws.length
    · have hc := HC.out k ws[k] (List.getElem?_eq_getElem hlt)
      have HS : Hid ((ws[k].toList == s.toList || (ws.drop (k + 1)).any fun x => x.toList == s.toList) = ANS) := by
        have h := HK.out; rw [List.drop_eq_getElem_cons hlt, List.any_cons] at h; exact h
      clear HK
      generalize ws[k] = x at *
      cases hx : (x.toList == s.toList)
      · have HN : Hid (((ws.drop (k + 1)).any fun x => x.toList == s.toList) = ANS) := by have h := HS.out; rw [hx, Bool.false_or] at h; exact h
        clear HS
        go_wp2
        go_round
        case rel => exact ⟨k + 1, by omega, by go_num, HN⟩
        case measure => simp [intOf]; omega
      · have HF : Hid (true = ANS) := by have h := HS.out; rw [hx, Bool.true_or] at h; exact h
        clear HS
        go_wp2
        go_ret
        exact ⟨ret_bool HF.out, rfl⟩
    · have HF : Hid (false = ANS) := by have h := HK.out; rw [List.drop_eq_nil_of_le (by omega)] at h; exact h
      clear HK
      go_wp2
      go_ret
      exact ⟨ret_bool HF.out, rfl⟩
/-- over a row that has just been laid -/
theorem one_new (s : ByteArray) (ws : List (List UInt8)) (w : World) (hn : ws.length ≤ 100) :
    Calls Tryd.prog 57 #[.string s, .slice (some ⟨w.heap.size, 0, none⟩) (ws.map str).length (ws.map str).length] (w.alloc (.cells ((ws.map str).map fun x => Value.string x).toArray 9)) fun e w' =>
      e = .returned (.bool (ws.contains s.data.toList)) ∧ (w.alloc (.cells ((ws.map str).map fun x => Value.string x).toArray 9)) = w' := by
  have hcell : ∀ j x, (ws.map str)[j]? = some x → (w.alloc (.cells ((ws.map str).map fun x => Value.string x).toArray 9)).cell? ⟨w.heap.size, j, none⟩ = some (.string x) := by
    intro j x hj
    have : ((ws.map str).map fun x => Value.string x)[j]? = some (.string x) := by rw [List.getElem?_map, hj]; rfl
    simp only [World.cell?, World.alloc]
    simp [this]
    simpa using hj
  have c := one_any s w.heap.size (ws.map str) (w.alloc (.cells ((ws.map str).map fun x => Value.string x).toArray 9)) (by simpa using hn) hcell
  have e : ((ws.map str).any fun x => x.toList == s.toList) = ws.contains s.data.toList := by
    rw [List.any_map, Bool.eq_iff_iff, List.any_eq_true, List.contains_iff_mem]
    constructor
    · rintro ⟨x, hx, he⟩
      have he' : (str x).toList = s.toList := beq_iff_eq.1 he
      rw [str_toList, Lib.toList_data] at he'
      rw [← he']; exact hx
    · intro h
      refine ⟨_, h, ?_⟩
      show ((str s.data.toList).toList == s.toList) = true
      rw [str_toList, Lib.toList_data]; simp
  rw [e] at c
  exact c

theorem find_at (a b : UInt8) (s : ByteArray) (k : Nat) (h : k < s.size) : Tg.find a b (s.data.toList.drop k) = if s[k] = a ∨ s[k] = b then 0 else Tg.find a b (s.data.toList.drop (k + 1)) + 1 := by
  rw [drop_cons s k h]
  by_cases c : s[k] = a ∨ s[k] = b
  · rw [if_pos c, Tg.find_here _ _ _ _ c]
  · rw [if_neg c]
    unfold Tg.find
    rw [List.takeWhile_cons_of_pos (by simp at c ⊢; exact c)]; rfl
set_option maxHeartbeats 1000000 in
theorem find_any (s : ByteArray) (A B : Int) (a b : UInt8) (hA : A = a.toNat) (hB : B = b.toNat) (w : World) (hs : s.size ≤ 1000000) :
    Calls Tryd.prog 91 #[.string s, .int .u8 A, .int .u8 B] w fun e w' => e = .returned (.int .i64 (Tg.find a b s.data.toList : Nat)) ∧ w = w' := by
  subst hA
  subst hB
  obtain ⟨ANS, hANS⟩ : ∃ ANS, Tg.find a b s.data.toList = ANS := ⟨_, rfl⟩
  rw [hANS]
  have HA : Hid (0 + Tg.find a b (s.data.toList.drop 0) = ANS) := by show _ = _; rw [← hANS]; simp
  clear hANS
  go_enter Tryd.func91, Tryd.ntmps91
  go_wp2
  go_loop [7] (fun i => ∃ k : Nat, k ≤ s.size ∧ i = .int .i64 k ∧ Hid (k + Tg.find a b (s.data.toList.drop k) = ANS)) (fun i => s.size - (intOf i).toNat)
  case atStart => exact ⟨0, by omega, rfl, HA⟩
  case round =>
    obtain ⟨k, hk, rfl, HK⟩ := hrel
    clear HA
    by_cases hlt : k < s.size
    · have HS : Hid (_ = _) := find_at a b s k hlt
      by_cases c1 : s[k] = a
      · have HN : Hid (k = ANS) := by have h := HK.out; rw [HS.out, if_pos (Or.inl c1)] at h; exact h
        have b1 : ((s[k].toNat : Int) == (a.toNat : Int)) = true := by rw [c1]; simp
        clear HS HK c1
        go_wp2
        go_ret
        exact ⟨ret_int (by rw [HN.out]), rfl⟩
      · have b1 : ((s[k].toNat : Int) == (a.toNat : Int)) = false := beq_eq_false_iff_ne.2 (fun e => c1 (UInt8.toNat_inj.1 (by omega)))
        by_cases c2 : s[k] = b
        · have HN : Hid (k = ANS) := by have h := HK.out; rw [HS.out, if_pos (Or.inr c2)] at h; exact h
          have b2 : ((s[k].toNat : Int) == (b.toNat : Int)) = true := by rw [c2]; simp
          clear HS HK c1 c2
          go_wp2
          go_ret
          exact ⟨ret_int (by rw [HN.out]), rfl⟩
        · have b2 : ((s[k].toNat : Int) == (b.toNat : Int)) = false := beq_eq_false_iff_ne.2 (fun e => c2 (UInt8.toNat_inj.1 (by omega)))
          have HN : Hid ((k + 1) + Tg.find a b (s.data.toList.drop (k + 1)) = ANS) := by
            have h := HK.out; rw [HS.out, if_neg (by simp [c1, c2])] at h; show _ = _; omega
          clear HS HK c1 c2
          go_wp2
          go_round
          case rel => exact ⟨k + 1, by omega, by go_num, HN⟩
          case measure => simp [intOf]; omega
    · have HN : Hid (s.size = ANS) := by
        have h := HK.out; rw [drop_nil s k (by omega)] at h; have : Tg.find a b [] = 0 := rfl; show _ = _; omega
      clear HK
      go_wp2
      go_ret
      exact ⟨ret_int (by rw [HN.out]), rfl⟩
end Tag
end Go.Proofs.YtnlbnnnhmdjciaaDoor
namespace Go.Proofs.YtnlbnnnhmdjciaaDoor
namespace Tag
open Go.RowKit

theorem only_at (s : ByteArray) (of : List UInt8) (k : Nat) (h : k < s.size) : (s.data.toList.drop k).all (of.contains ·) = (of.contains s[k] && (s.data.toList.drop (k + 1)).all (of.contains ·)) := by
  rw [drop_cons s k h, List.all_cons]
theorem has_at (o : ByteArray) (y : UInt8) (q : Nat) (h : q < o.size) : (o.data.toList.drop q).contains y = (o[q] == y || (o.data.toList.drop (q + 1)).contains y) := by
  rw [drop_cons o q h, List.contains_cons, Bool.beq_comm]
set_option maxHeartbeats 2000000 in
set_option maxRecDepth 100000 in
theorem onlyR_any (s o : ByteArray) (w : World) (hs : s.size ≤ 1000000) (ho : o.size ≤ 1000000) :
    Calls Tryd.prog 73 #[.string s, .string o] w fun e w' => e = .returned (.bool (Tg.only s.data.toList o.data.toList)) ∧ Below w.heap.size w w' := by
  unfold Tg.only
  obtain ⟨ALL, hALL⟩ : ∃ ALL, s.data.toList.all (o.data.toList.contains ·) = ALL := ⟨_, rfl⟩
  obtain ⟨EMP, hEMP⟩ : ∃ EMP, s.data.toList.isEmpty = EMP := ⟨_, rfl⟩
  rw [hALL, hEMP]
  have HA : Hid ((s.data.toList.drop 0).all (o.data.toList.contains ·) = ALL) := hALL
  have hE : s.toList.isEmpty = EMP := by rw [Lib.toList_data]; exact hEMP
  have HE := Lib.hid hE
  clear hALL hEMP hE
  go_enter Tryd.func73, Tryd.ntmps73
  go_wp2
  go_loopw [5] (fun i wr => ∃ p : Nat, p ≤ s.size ∧ i = .int .i64 p ∧ Below w.heap.size w wr ∧ Hid ((s.data.toList.drop p).all (o.data.toList.contains ·) = ALL)) (fun i _ => s.size - (intOf i).toNat)
  case atStart => exact ⟨0, by omega, rfl, Below.refl _ _, HA⟩
  case round =>
    obtain ⟨p, hp, rfl, hbw, HK⟩ := hrel
    clear HA
    by_cases hlt : p < s.size
    · have HS : Hid ((o.data.toList.contains s[p] && (s.data.toList.drop (p + 1)).all (o.data.toList.contains ·)) = ALL) := by
        have h := HK.out; rw [only_at s _ p hlt] at h; exact h
      clear HK
      obtain ⟨C, hC⟩ : ∃ C, o.data.toList.contains s[p] = C := ⟨_, rfl⟩
      rw [hC] at HS
      have HCI : Hid ((false || (o.data.toList.drop 0).contains s[p]) = C) := by show _ = _; rw [Bool.false_or]; exact hC
      clear hC
      go_wp2
      go_loopw [6, 7] (fun v i wr => ∃ (q : Nat) (b : Bool), q ≤ o.size ∧ v = .bool b ∧ i = .int .i64 q ∧ Below w.heap.size w wr ∧ Hid ((b || (o.data.toList.drop q).contains s[p]) = C)) (fun _ i _ => o.size - (intOf i).toNat)
      case atStart => exact ⟨0, false, by omega, rfl, rfl, hbw, HCI⟩
      case round =>
        obtain ⟨q, b, hq, rfl, rfl, hbr, HQ⟩ := hrel
        clear HCI
        by_cases hql : q < o.size
        · cases b
          · have HT : Hid ((o[q] == s[p] || (o.data.toList.drop (q + 1)).contains s[p]) = C) := by
              have h := HQ.out; rw [Bool.false_or, has_at o s[p] q hql] at h; exact h
            clear HQ
            by_cases hc : o[q] = s[p]
            · have b1 : ((o[q].toNat : Int) == (s[p].toNat : Int)) = true := by rw [hc]; simp
              have HN : Hid ((true || (o.data.toList.drop (q + 1)).contains s[p]) = C) := by
                have h := HT.out; rw [hc, beq_self_eq_true] at h; exact h
              clear HT hc
              go_wp2
              go_quiet (fail)
              go_wp2
              go_roundw
              case rel => exact ⟨q + 1, true, by omega, rfl, by go_num, below_drewN hbr _, HN⟩
              case measure => simp [intOf]; omega
            · have b1 : ((o[q].toNat : Int) == (s[p].toNat : Int)) = false := beq_eq_false_iff_ne.2 (fun e => hc (UInt8.toNat_inj.1 (by omega)))
              have HN : Hid ((false || (o.data.toList.drop (q + 1)).contains s[p]) = C) := by
                have h := HT.out; rw [beq_eq_false_iff_ne.2 hc] at h; exact h
              clear HT hc
              go_wp2
              go_quiet (fail)
              go_wp2
              go_roundw
              case rel => exact ⟨q + 1, false, by omega, rfl, by go_num, below_drewN hbr _, HN⟩
              case measure => simp [intOf]; omega
          · have HN : Hid ((true || (o.data.toList.drop (q + 1)).contains s[p]) = C) := by
              have h := HQ.out; rw [Bool.true_or] at h; show _ = _; rw [Bool.true_or]; exact h
            clear HQ
            go_wp2
            go_quiet (fail)
            go_wp2
            go_roundw
            case rel => exact ⟨q + 1, true, by omega, rfl, by go_num, below_drewN hbr _, HN⟩
            case measure => simp [intOf]; omega
        · have HB : Hid (b = C) := by
            have h := HQ.out; rw [drop_nil o q (by omega)] at h; show _ = _; rw [← h]; simp
          clear HQ
          cases b
          · have HF : Hid (ALL = false) := by have h := HS.out; rw [← HB.out, Bool.false_and] at h; exact h.symm
            clear HS HB
            go_wp2
            go_ret
            exact ⟨ret_bool (by rw [HF.out]; rfl), hbr⟩
          · have HN : Hid ((s.data.toList.drop (p + 1)).all (o.data.toList.contains ·) = ALL) := by have h := HS.out; rw [← HB.out, Bool.true_and] at h; exact h
            clear HS HB
            go_wp2
            go_roundw
            case rel => exact ⟨p + 1, by omega, by go_num, hbr, HN⟩
            case measure => simp [intOf]; omega
    · have HF : Hid (ALL = true) := by have h := HK.out; rw [drop_nil s p (by omega)] at h; exact h.symm
      clear HK
      by_cases h0 : s.size = 0
      · obtain rfl := ba_nil s h0
        have hEM : EMP = true := by rw [← HE.out, Lib.toList_data]; rfl
        subst hEM
        go_wp2
        go_ret
        exact ⟨ret_bool (by rw [HF.out]; rfl), hbw⟩
      · have h1 : 0 < s.size := by omega
        have hemp := ba_isEmpty s h1
        have hnil := ba_notnil s h1
        have hEM : EMP = false := by rw [← HE.out]; exact hemp
        subst hEM
        go_wp2
        go_ret
        exact ⟨ret_bool (by rw [HF.out]; rfl), hbw⟩
end Tag
end Go.Proofs.YtnlbnnnhmdjciaaDoor
namespace Go.Proofs.YtnlbnnnhmdjciaaDoor
namespace Tag
open Go.RowKit

theorem onlyD (s : ByteArray) (w : World) (hs : s.size ≤ 1000000) :
    Calls Tryd.prog 73 #[.string s, .string ⟨#[48, 49, 50, 51, 52, 53, 54, 55, 56, 57]⟩] w fun e w' => e = .returned (.bool (Tg.only s.data.toList Tg.digs)) ∧ Below w.heap.size w w' :=
  onlyR_any s ⟨#[48, 49, 50, 51, 52, 53, 54, 55, 56, 57]⟩ w hs (by decide)
theorem onlyO (s : ByteArray) (w : World) (hs : s.size ≤ 1000000) :
    Calls Tryd.prog 73 #[.string s, .string ⟨#[48, 49, 50, 51, 52, 53, 54, 55]⟩] w fun e w' => e = .returned (.bool (Tg.only s.data.toList Tg.octs)) ∧ Below w.heap.size w w' :=
  onlyR_any s ⟨#[48, 49, 50, 51, 52, 53, 54, 55]⟩ w hs (by decide)
theorem onlyX (s : ByteArray) (w : World) (hs : s.size ≤ 1000000) :
    Calls Tryd.prog 73 #[.string s, .string ⟨#[48, 49, 50, 51, 52, 53, 54, 55, 56, 57, 97, 98, 99, 100, 101, 102, 65, 66, 67, 68, 69, 70]⟩] w fun e w' => e = .returned (.bool (Tg.only s.data.toList Tg.hexs)) ∧ Below w.heap.size w w' :=
  onlyR_any s ⟨#[48, 49, 50, 51, 52, 53, 54, 55, 56, 57, 97, 98, 99, 100, 101, 102, 65, 66, 67, 68, 69, 70]⟩ w hs (by decide)

theorem take_size_le (s : ByteArray) (k : Nat) : (s.extract 0 k).size ≤ s.size := by
  rw [Lib.size_eq, ext_take, List.length_take, ← Lib.size_eq]; omega

set_option maxHeartbeats 2000000 in
set_option maxRecDepth 100000 in
theorem fraction_any (s : ByteArray) (w : World) (hs : s.size ≤ 1000000) :
    Calls Tryd.prog 92 #[.string s] w fun e w' => e = .returned (.bool (Tg.fractionR s.data.toList)) ∧ Below w.heap.size w w' := by
  unfold Tg.fractionR
  have c1 := find_any s 46 46 46 46 rfl rfl w hs
  have hpl : Tg.find 46 46 s.data.toList ≤ s.size := by rw [Lib.size_eq]; exact Tg.find_le _ _ _
  obtain ⟨p, hp⟩ : ∃ p, Tg.find 46 46 s.data.toList = p := ⟨_, rfl⟩
  rw [hp] at c1 hpl ⊢
  clear hp
  rw [← Lib.size_eq]
  by_cases h1 : p = s.size
  · rw [if_pos h1]
    have b1 : ((p : Int) == (s.size : Int)) = true := beq_iff_eq.2 (by omega)
    have c2 := onlyD s w hs
    clear h1
    go_enter Tryd.func92, Tryd.ntmps92
    go_wp2_with fail
    refine c1.mono ?_
    rintro e w1 ⟨rfl, rfl⟩
    go_wp2_with fail
    refine c2.mono ?_
    rintro e w1 ⟨rfl, hb⟩
    go_wp2
    go_ret
    exact ⟨rfl, hb⟩
  · rw [if_neg h1]
    have b1 : ((p : Int) == (s.size : Int)) = false := beq_eq_false_iff_ne.2 (by omega)
    have hps : p < s.size := by omega
    obtain ⟨T, hT⟩ : ∃ T, T = s.extract (p + 1) s.size := ⟨_, rfl⟩
    have hTd : s.data.toList.drop (p + 1) = T.data.toList := by rw [hT, ext_drop]
    have hTs : T.size ≤ 1000000 := by have := ext_size_le s (p + 1); rw [← hT] at this; omega
    rw [hTd]
    have HT := Lib.hid hT
    clear hT hTd h1
    have CT := Lib.hid (fun w1 => onlyD T w1 hTs)
    by_cases h2 : p = 0
    · rw [if_pos h2]
      have b2 : ((p : Int) == 0) = true := beq_iff_eq.2 (by omega)
      have b3 : (p == 0) = true := beq_iff_eq.2 h2
      clear h2
      go_enter Tryd.func92, Tryd.ntmps92
      go_wp2_with fail
      refine c1.mono ?_
      rintro e w1 ⟨rfl, rfl⟩
      go_wp2_with fail
      rw [← HT.out]
      refine (CT.out _).mono ?_
      rintro e w1 ⟨rfl, hb⟩
      go_wp2
      go_ret
      exact ⟨rfl, hb⟩
    · rw [if_neg h2]
      have b2 : ((p : Int) == 0) = false := beq_eq_false_iff_ne.2 (by omega)
      have b3 : (p == 0) = false := beq_eq_false_iff_ne.2 h2
      obtain ⟨H, hH⟩ : ∃ H, H = s.extract 0 p := ⟨_, rfl⟩
      have hHd : s.data.toList.take p = H.data.toList := by rw [hH, ext_take]
      have hHs : H.size ≤ 1000000 := by have := take_size_le s p; rw [← hH] at this; omega
      rw [hHd]
      have HH := Lib.hid hH
      clear hH hHd
      have CH := Lib.hid (fun w1 => onlyD H w1 hHs)
      cases ho : Tg.only H.data.toList Tg.digs
      · rw [ho] at CH
        clear ho
        rw [Bool.false_and]
        go_enter Tryd.func92, Tryd.ntmps92
        go_wp2_with fail
        refine c1.mono ?_
        rintro e w1 ⟨rfl, rfl⟩
        go_wp2_with fail
        rw [← HH.out]
        refine (CH.out _).mono ?_
        rintro e w1 ⟨rfl, hb⟩
        go_wp2
        go_ret
        exact ⟨rfl, hb⟩
      · rw [ho] at CH
        clear ho
        rw [Bool.true_and]
        by_cases h0 : T.size = 0
        · have HZ : Hid (s.extract (p + 1) s.size = ⟨#[]⟩) := by rw [HT.out] at h0; exact ba_nil _ h0
          obtain rfl := ba_nil T h0
          clear h0 CT
          have hz := HZ.out
          go_enter Tryd.func92, Tryd.ntmps92
          go_wp2_with fail
          refine c1.mono ?_
          rintro e w1 ⟨rfl, rfl⟩
          go_wp2_with fail
          rw [← HH.out]
          refine (CH.out _).mono ?_
          rintro e w1 ⟨rfl, hb⟩
          go_wp2
          go_ret
          exact ⟨rfl, hb⟩
        · have hp0 : 0 < T.size := by omega
          have hemp := ba_isEmpty T hp0
          have hnil := ba_notnil T hp0
          have g : T.data.toList.isEmpty = false := by rw [← Lib.toList_data]; exact hemp
          rw [g, Bool.false_or]
          clear g h0
          rw [HT.out] at hemp hnil
          go_enter Tryd.func92, Tryd.ntmps92
          go_wp2_with fail
          refine c1.mono ?_
          rintro e w1 ⟨rfl, rfl⟩
          go_wp2_with fail
          rw [← HH.out]
          refine (CH.out _).mono ?_
          rintro e w1 ⟨rfl, hb⟩
          go_wp2_with fail
          rw [← HT.out]
          refine (CT.out _).mono ?_
          rintro e w2 ⟨rfl, hb2⟩
          go_wp2
          go_ret
          exact ⟨rfl, Below.then hb hb2⟩

/-- the document's only behind its bare -/
theorem bareOnly (t : ByteArray) (w : World) (ht : t.size ≤ 1000000) :
    Calls Tryd.prog 73 #[.string (str (Tg.bare t.data.toList)), .string ⟨#[48, 49, 50, 51, 52, 53, 54, 55, 56, 57]⟩] w fun e w' => e = .returned (.bool (Tg.only (Tg.bare t.data.toList) Tg.digs)) ∧ Below w.heap.size w w' :=
  onlyD (str (Tg.bare t.data.toList)) w (by rw [str_size]; have := bare_le t.data.toList; rw [← Lib.size_eq] at this; omega)

set_option maxHeartbeats 2000000 in
set_option maxRecDepth 100000 in
theorem whole_any (s : ByteArray) (w : World) (hs : s.size ≤ 1000000) :
    Calls Tryd.prog 74 #[.string s] w fun e w' => e = .returned (.bool (Tg.wholeR s.data.toList)) ∧ Below w.heap.size w w' := by
  unfold Tg.wholeR
  have c1 := bareR_any s w
  have c2 := bareOnly s w hs
  cases h1 : Tg.only (Tg.bare s.data.toList) Tg.digs
  · rw [h1] at c2
    clear h1
    rw [if_neg (by simp)]
    have C3 := Lib.hid (fun w1 => begins_any s ⟨#[48, 111]⟩ w1)
    cases h2 : Lib.hasPrefix s.data.toList [48, 111]
    · rw [show (⟨#[48, 111]⟩ : ByteArray).data.toList = [48, 111] from rfl, h2] at C3
      clear h2
      rw [if_neg (by simp)]
      have C4 := Lib.hid (fun w1 => begins_any s ⟨#[48, 120]⟩ w1)
      cases h3 : Lib.hasPrefix s.data.toList [48, 120]
      · rw [show (⟨#[48, 120]⟩ : ByteArray).data.toList = [48, 120] from rfl, h3] at C4
        clear h3
        rw [Bool.false_and]
        go_enter Tryd.func74, Tryd.ntmps74
        go_wp2_with fail
        refine c1.mono ?_
        rintro e w1 ⟨rfl, rfl⟩
        go_wp2_with fail
        refine c2.mono ?_
        rintro e w1 ⟨rfl, hb⟩
        go_wp2_with fail
        refine (C3.out _).mono ?_
        rintro e w2 ⟨rfl, rfl⟩
        go_wp2_with fail
        refine (C4.out _).mono ?_
        rintro e w2 ⟨rfl, rfl⟩
        go_wp2
        go_ret
        exact ⟨rfl, hb⟩
      · have hl : 2 ≤ s.size := pre_le s ⟨#[48, 120]⟩ h3
        rw [show (⟨#[48, 120]⟩ : ByteArray).data.toList = [48, 120] from rfl, h3] at C4
        clear h3
        rw [Bool.true_and]
        obtain ⟨T, hT⟩ : ∃ T, T = s.extract 2 s.size := ⟨_, rfl⟩
        have hTd : s.data.toList.drop 2 = T.data.toList := by rw [hT, ext_drop]
        have hTs : T.size ≤ 1000000 := by have := ext_size_le s 2; rw [← hT] at this; omega
        rw [hTd]
        have HT := Lib.hid hT
        clear hT hTd
        have CT := Lib.hid (fun w1 => onlyX T w1 hTs)
        go_enter Tryd.func74, Tryd.ntmps74
        go_wp2_with fail
        refine c1.mono ?_
        rintro e w1 ⟨rfl, rfl⟩
        go_wp2_with fail
        refine c2.mono ?_
        rintro e w1 ⟨rfl, hb⟩
        go_wp2_with fail
        refine (C3.out _).mono ?_
        rintro e w2 ⟨rfl, rfl⟩
        go_wp2_with fail
        refine (C4.out _).mono ?_
        rintro e w2 ⟨rfl, rfl⟩
        go_wp2_with fail
        rw [← HT.out]
        refine (CT.out _).mono ?_
        rintro e w2 ⟨rfl, hb2⟩
        go_wp2
        go_ret
        exact ⟨rfl, Below.then hb hb2⟩
    · have hl : 2 ≤ s.size := pre_le s ⟨#[48, 111]⟩ h2
      rw [show (⟨#[48, 111]⟩ : ByteArray).data.toList = [48, 111] from rfl, h2] at C3
      clear h2
      rw [if_pos rfl]
      obtain ⟨T, hT⟩ : ∃ T, T = s.extract 2 s.size := ⟨_, rfl⟩
      have hTd : s.data.toList.drop 2 = T.data.toList := by rw [hT, ext_drop]
      have hTs : T.size ≤ 1000000 := by have := ext_size_le s 2; rw [← hT] at this; omega
      rw [hTd]
      have HT := Lib.hid hT
      clear hT hTd
      have CT := Lib.hid (fun w1 => onlyO T w1 hTs)
      go_enter Tryd.func74, Tryd.ntmps74
      go_wp2_with fail
      refine c1.mono ?_
      rintro e w1 ⟨rfl, rfl⟩
      go_wp2_with fail
      refine c2.mono ?_
      rintro e w1 ⟨rfl, hb⟩
      go_wp2_with fail
      refine (C3.out _).mono ?_
      rintro e w2 ⟨rfl, rfl⟩
      go_wp2_with fail
      rw [← HT.out]
      refine (CT.out _).mono ?_
      rintro e w2 ⟨rfl, hb2⟩
      go_wp2
      go_ret
      exact ⟨rfl, Below.then hb hb2⟩
  · rw [h1] at c2
    clear h1
    rw [if_pos rfl]
    go_enter Tryd.func74, Tryd.ntmps74
    go_wp2_with fail
    refine c1.mono ?_
    rintro e w1 ⟨rfl, rfl⟩
    go_wp2_with fail
    refine c2.mono ?_
    rintro e w1 ⟨rfl, hb⟩
    go_wp2
    go_ret
    exact ⟨rfl, hb⟩

end Tag
end Go.Proofs.YtnlbnnnhmdjciaaDoor
namespace Go.Proofs.YtnlbnnnhmdjciaaDoor
namespace Tag
open Go.RowKit

/-! The rows that are laid, word for word. -/
def infsO : Obj := .cells #[.string ⟨#[46, 105, 110, 102]⟩, .string ⟨#[46, 73, 110, 102]⟩, .string ⟨#[46, 73, 78, 70]⟩] 9
def nansO : Obj := .cells #[.string ⟨#[46, 110, 97, 110]⟩, .string ⟨#[46, 78, 97, 78]⟩, .string ⟨#[46, 78, 65, 78]⟩] 9
def nullsO : Obj := .cells #[.string ⟨#[]⟩, .string ⟨#[126]⟩, .string ⟨#[110, 117, 108, 108]⟩, .string ⟨#[78, 117, 108, 108]⟩, .string ⟨#[78, 85, 76, 76]⟩] 9
def boolsO : Obj := .cells #[.string ⟨#[116, 114, 117, 101]⟩, .string ⟨#[84, 114, 117, 101]⟩, .string ⟨#[84, 82, 85, 69]⟩, .string ⟨#[102, 97, 108, 115, 101]⟩, .string ⟨#[70, 97, 108, 115, 101]⟩, .string ⟨#[70, 65, 76, 83, 69]⟩] 9
theorem one_infs (s : ByteArray) (w : World) (b : Nat) (hb : b = w.heap.size) : Calls Tryd.prog 57 #[.string s, .slice (some ⟨b, 0, none⟩) 3 3] (w.alloc infsO) fun e w' => e = .returned (.bool (Tg.infs.contains s.data.toList)) ∧ w.alloc infsO = w' :=
  hb ▸ one_new s Tg.infs w (by decide)
theorem one_nans (s : ByteArray) (w : World) (b : Nat) (hb : b = w.heap.size) : Calls Tryd.prog 57 #[.string s, .slice (some ⟨b, 0, none⟩) 3 3] (w.alloc nansO) fun e w' => e = .returned (.bool (Tg.nans.contains s.data.toList)) ∧ w.alloc nansO = w' :=
  hb ▸ one_new s Tg.nans w (by decide)
theorem one_nulls (s : ByteArray) (w : World) (b : Nat) (hb : b = w.heap.size) : Calls Tryd.prog 57 #[.string s, .slice (some ⟨b, 0, none⟩) 5 5] (w.alloc nullsO) fun e w' => e = .returned (.bool (Tg.nulls.contains s.data.toList)) ∧ w.alloc nullsO = w' :=
  hb ▸ one_new s Tg.nulls w (by decide)
theorem one_bools (s : ByteArray) (w : World) (b : Nat) (hb : b = w.heap.size) : Calls Tryd.prog 57 #[.string s, .slice (some ⟨b, 0, none⟩) 6 6] (w.alloc boolsO) fun e w' => e = .returned (.bool (Tg.bools.contains s.data.toList)) ∧ w.alloc boolsO = w' :=
  hb ▸ one_new s Tg.bools w (by decide)
theorem alloc_below (w : World) (o : Obj) : Below w.heap.size w (w.alloc o) := (Below.refl _ w).alloc (Nat.le_refl _) o

set_option maxHeartbeats 4000000 in
set_option maxRecDepth 100000 in
theorem floatR_any (s : ByteArray) (w : World) (hs : s.size ≤ 1000000) :
    Calls Tryd.prog 75 #[.string s] w fun e w' => e = .returned (.bool (Tg.floatR s.data.toList)) ∧ Below w.heap.size w w' := by
  unfold Tg.floatR
  have C1 := Lib.hid (fun w1 => bareR_any s w1)
  obtain ⟨B, hB⟩ : ∃ B, B = str (Tg.bare s.data.toList) := ⟨_, rfl⟩
  have hBd : Tg.bare s.data.toList = B.data.toList := by rw [hB]; rfl
  have hBs : B.size ≤ 1000000 := by rw [hB, str_size]; have := bare_le s.data.toList; rw [← Lib.size_eq] at this; omega
  rw [← hB] at C1
  rw [hBd]
  clear hB hBd
  have CI := Lib.hid (fun w1 b hb => one_infs B w1 b hb)
  unfold infsO at CI
  cases h1 : Tg.infs.contains B.data.toList
  · rw [h1] at CI
    clear h1
    rw [Bool.false_or]
    have CN := Lib.hid (fun w1 b hb => one_nans s w1 b hb)
    unfold nansO at CN
    cases h2 : Tg.nans.contains s.data.toList
    · rw [h2] at CN
      clear h2
      rw [Bool.false_or]
      unfold Tg.decR
      have CF := Lib.hid (fun w1 => find_any B 101 69 101 69 rfl rfl w1 hBs)
      have hel : Tg.find 101 69 B.data.toList ≤ B.size := by rw [Lib.size_eq]; exact Tg.find_le _ _ _
      obtain ⟨E, hE⟩ : ∃ E, Tg.find 101 69 B.data.toList = E := ⟨_, rfl⟩
      rw [hE] at CF hel ⊢
      clear hE
      rw [← Lib.size_eq]
      obtain ⟨H, hH⟩ : ∃ H, H = B.extract 0 E := ⟨_, rfl⟩
      have hHd : B.data.toList.take E = H.data.toList := by rw [hH, ext_take]
      have hHs : H.size ≤ 1000000 := by have := take_size_le B E; rw [← hH] at this; omega
      rw [hHd]
      have HH := Lib.hid hH
      clear hH hHd
      have CR := Lib.hid (fun w1 => fraction_any H w1 hHs)
      by_cases h3 : E < B.size
      · have b1 : decide ((E : Int) < (B.size : Int)) = true := decide_eq_true (by omega)
        obtain ⟨T, hT⟩ : ∃ T, T = B.extract (E + 1) B.size := ⟨_, rfl⟩
        have hTd : B.data.toList.drop (E + 1) = T.data.toList := by rw [hT, ext_drop]
        have hTs : T.size ≤ 1000000 := by have := ext_size_le B (E + 1); rw [← hT] at this; omega
        rw [hTd]
        have HT := Lib.hid hT
        clear hT hTd
        have CB := Lib.hid (fun w1 => bareR_any T w1)
        have CO := Lib.hid (fun w1 => bareOnly T w1 hTs)
        cases h4 : Tg.only (Tg.bare T.data.toList) Tg.digs
        · rw [h4] at CO
          rw [if_pos ⟨h3, rfl⟩]
          clear h4
          go_enter Tryd.func75, Tryd.ntmps75
          go_wp2_with fail
          refine (C1.out _).mono ?_
          rintro e w1 ⟨rfl, rfl⟩
          go_wp2_with fail
          refine (CI.out _ _ (by simp)).mono ?_
          rintro e w1 ⟨rfl, rfl⟩
          go_wp2_with fail
          refine (CN.out _ _ (by simp)).mono ?_
          rintro e w1 ⟨rfl, rfl⟩
          go_wp2_with fail
          refine (C1.out _).mono ?_
          rintro e w1 ⟨rfl, rfl⟩
          go_wp2_with fail
          refine (CF.out _).mono ?_
          rintro e w1 ⟨rfl, rfl⟩
          go_wp2_with fail
          rw [← HT.out]
          refine (CB.out _).mono ?_
          rintro e w1 ⟨rfl, rfl⟩
          go_wp2_with fail
          refine (CO.out _).mono ?_
          rintro e w1 ⟨rfl, hb⟩
          go_wp2
          go_ret
          exact ⟨rfl, Below.then (Below.then (alloc_below _ _) (alloc_below _ _)) hb⟩
        · rw [h4] at CO
          rw [if_neg (by simp)]
          clear h4
          go_enter Tryd.func75, Tryd.ntmps75
          go_wp2_with fail
          refine (C1.out _).mono ?_
          rintro e w1 ⟨rfl, rfl⟩
          go_wp2_with fail
          refine (CI.out _ _ (by simp)).mono ?_
          rintro e w1 ⟨rfl, rfl⟩
          go_wp2_with fail
          refine (CN.out _ _ (by simp)).mono ?_
          rintro e w1 ⟨rfl, rfl⟩
          go_wp2_with fail
          refine (C1.out _).mono ?_
          rintro e w1 ⟨rfl, rfl⟩
          go_wp2_with fail
          refine (CF.out _).mono ?_
          rintro e w1 ⟨rfl, rfl⟩
          go_wp2_with fail
          rw [← HT.out]
          refine (CB.out _).mono ?_
          rintro e w1 ⟨rfl, rfl⟩
          go_wp2_with fail
          refine (CO.out _).mono ?_
          rintro e w1 ⟨rfl, hb⟩
          go_wp2_with fail
          rw [← HH.out]
          refine (CR.out _).mono ?_
          rintro e w2 ⟨rfl, hb2⟩
          go_wp2
          go_ret
          exact ⟨rfl, Below.then (Below.then (Below.then (alloc_below _ _) (alloc_below _ _)) hb) hb2⟩
      · have b1 : decide ((E : Int) < (B.size : Int)) = false := decide_eq_false (by omega)
        have b2 : decide (E < B.size) = false := decide_eq_false h3
        have b3 : ¬ (E : Int) < (B.size : Int) := by omega
        rw [if_neg (by simp [h3])]
        go_enter Tryd.func75, Tryd.ntmps75
        go_wp2_with fail
        refine (C1.out _).mono ?_
        rintro e w1 ⟨rfl, rfl⟩
        go_wp2_with fail
        refine (CI.out _ _ (by simp)).mono ?_
        rintro e w1 ⟨rfl, rfl⟩
        go_wp2_with fail
        refine (CN.out _ _ (by simp)).mono ?_
        rintro e w1 ⟨rfl, rfl⟩
        go_wp2_with fail
        refine (C1.out _).mono ?_
        rintro e w1 ⟨rfl, rfl⟩
        go_wp2_with fail
        refine (CF.out _).mono ?_
        rintro e w1 ⟨rfl, rfl⟩
        go_wp2_with fail
        rw [← HH.out]
        refine (CR.out _).mono ?_
        rintro e w2 ⟨rfl, hb2⟩
        go_wp2
        go_ret
        exact ⟨rfl, Below.then (Below.then (alloc_below _ _) (alloc_below _ _)) hb2⟩
    · rw [h2] at CN
      clear h2
      rw [Bool.true_or]
      go_enter Tryd.func75, Tryd.ntmps75
      go_wp2_with fail
      refine (C1.out _).mono ?_
      rintro e w1 ⟨rfl, rfl⟩
      go_wp2_with fail
      refine (CI.out _ _ (by simp)).mono ?_
      rintro e w1 ⟨rfl, rfl⟩
      go_wp2_with fail
      refine (CN.out _ _ (by simp)).mono ?_
      rintro e w1 ⟨rfl, rfl⟩
      go_wp2
      go_ret
      exact ⟨rfl, Below.then (alloc_below _ _) (alloc_below _ _)⟩
  · rw [h1] at CI
    clear h1
    rw [Bool.true_or, Bool.true_or]
    go_enter Tryd.func75, Tryd.ntmps75
    go_wp2_with fail
    refine (C1.out _).mono ?_
    rintro e w1 ⟨rfl, rfl⟩
    go_wp2_with fail
    refine (CI.out _ _ (by simp)).mono ?_
    rintro e w1 ⟨rfl, rfl⟩
    go_wp2
    go_ret
    exact ⟨rfl, alloc_below _ _⟩

set_option maxHeartbeats 4000000 in
set_option maxRecDepth 100000 in
theorem resolveR_any (s : ByteArray) (w : World) (hs : s.size ≤ 1000000) :
    Calls Tryd.prog 58 #[.string s] w fun e w' => e = .returned (.string (kS (Tg.resolveR s.data.toList))) ∧ Below w.heap.size w w' := by
  unfold Tg.resolveR
  have C1 := Lib.hid (fun w1 b hb => one_nulls s w1 b hb)
  unfold nullsO at C1
  have C2 := Lib.hid (fun w1 b hb => one_bools s w1 b hb)
  unfold boolsO at C2
  have C3 := Lib.hid (fun w1 => whole_any s w1 hs)
  have C4 := Lib.hid (fun w1 => floatR_any s w1 hs)
  cases h1 : Tg.nulls.contains s.data.toList
  · rw [h1] at C1
    clear h1
    rw [if_neg (by simp)]
    cases h2 : Tg.bools.contains s.data.toList
    · rw [h2] at C2
      clear h2
      rw [if_neg (by simp)]
      cases h3 : Tg.wholeR s.data.toList
      · rw [h3] at C3
        clear h3
        rw [if_neg (by simp)]
        cases h4 : Tg.floatR s.data.toList
        · rw [h4] at C4
          clear h4
          rw [if_neg (by simp)]
          go_enter Tryd.func58, Tryd.ntmps58
          go_wp2_with fail
          refine (C1.out _ _ (by simp)).mono ?_
          rintro e w1 ⟨rfl, rfl⟩
          go_wp2_with fail
          refine (C2.out _ _ (by simp)).mono ?_
          rintro e w1 ⟨rfl, rfl⟩
          go_wp2_with fail
          refine (C3.out _).mono ?_
          rintro e w1 ⟨rfl, hb⟩
          go_wp2_with fail
          refine (C4.out _).mono ?_
          rintro e w2 ⟨rfl, hb2⟩
          go_wp2
          go_ret
          exact ⟨rfl, Below.then (Below.then (Below.then (alloc_below _ _) (alloc_below _ _)) hb) hb2⟩
        · rw [h4] at C4
          clear h4
          rw [if_pos rfl]
          go_enter Tryd.func58, Tryd.ntmps58
          go_wp2_with fail
          refine (C1.out _ _ (by simp)).mono ?_
          rintro e w1 ⟨rfl, rfl⟩
          go_wp2_with fail
          refine (C2.out _ _ (by simp)).mono ?_
          rintro e w1 ⟨rfl, rfl⟩
          go_wp2_with fail
          refine (C3.out _).mono ?_
          rintro e w1 ⟨rfl, hb⟩
          go_wp2_with fail
          refine (C4.out _).mono ?_
          rintro e w2 ⟨rfl, hb2⟩
          go_wp2
          go_ret
          exact ⟨rfl, Below.then (Below.then (Below.then (alloc_below _ _) (alloc_below _ _)) hb) hb2⟩
      · rw [h3] at C3
        clear h3
        rw [if_pos rfl]
        go_enter Tryd.func58, Tryd.ntmps58
        go_wp2_with fail
        refine (C1.out _ _ (by simp)).mono ?_
        rintro e w1 ⟨rfl, rfl⟩
        go_wp2_with fail
        refine (C2.out _ _ (by simp)).mono ?_
        rintro e w1 ⟨rfl, rfl⟩
        go_wp2_with fail
        refine (C3.out _).mono ?_
        rintro e w1 ⟨rfl, hb⟩
        go_wp2
        go_ret
        exact ⟨rfl, Below.then (Below.then (alloc_below _ _) (alloc_below _ _)) hb⟩
    · rw [h2] at C2
      clear h2
      rw [if_pos rfl]
      go_enter Tryd.func58, Tryd.ntmps58
      go_wp2_with fail
      refine (C1.out _ _ (by simp)).mono ?_
      rintro e w1 ⟨rfl, rfl⟩
      go_wp2_with fail
      refine (C2.out _ _ (by simp)).mono ?_
      rintro e w1 ⟨rfl, rfl⟩
      go_wp2
      go_ret
      exact ⟨rfl, Below.then (alloc_below _ _) (alloc_below _ _)⟩
  · rw [h1] at C1
    clear h1
    rw [if_pos rfl]
    go_enter Tryd.func58, Tryd.ntmps58
    go_wp2_with fail
    refine (C1.out _ _ (by simp)).mono ?_
    rintro e w1 ⟨rfl, rfl⟩
    go_wp2
    go_ret
    exact ⟨rfl, alloc_below _ _⟩
end Tag
end Go.Proofs.YtnlbnnnhmdjciaaDoor
namespace Go.Proofs.YtnlbnnnhmdjciaaDoor
namespace Tag
open Go.RowKit

def coresO : Obj := .cells #[.string ⟨#[110, 117, 108, 108]⟩, .string ⟨#[98, 111, 111, 108]⟩, .string ⟨#[105, 110, 116]⟩, .string ⟨#[102, 108, 111, 97, 116]⟩, .string ⟨#[115, 116, 114]⟩, .string ⟨#[115, 101, 113]⟩, .string ⟨#[109, 97, 112]⟩] 9
def foursO : Obj := .cells #[.string ⟨#[110, 117, 108, 108]⟩, .string ⟨#[98, 111, 111, 108]⟩, .string ⟨#[105, 110, 116]⟩, .string ⟨#[102, 108, 111, 97, 116]⟩] 9
theorem one_cores (s : ByteArray) (w : World) (b : Nat) (hb : b = w.heap.size) : Calls Tryd.prog 57 #[.string s, .slice (some ⟨b, 0, none⟩) 7 7] (w.alloc coresO) fun e w' => e = .returned (.bool (Tg.cores.contains s.data.toList)) ∧ w.alloc coresO = w' :=
  hb ▸ one_new s Tg.cores w (by decide)
theorem one_fours (s : ByteArray) (w : World) (b : Nat) (hb : b = w.heap.size) : Calls Tryd.prog 57 #[.string s, .slice (some ⟨b, 0, none⟩) 4 4] (w.alloc foursO) fun e w' => e = .returned (.bool ([Tg.K.nul.w, Tg.K.boo.w, Tg.K.int.w, Tg.K.flt.w].contains s.data.toList)) ∧ w.alloc foursO = w' :=
  hb ▸ one_new s [Tg.K.nul.w, Tg.K.boo.w, Tg.K.int.w, Tg.K.flt.w] w (by decide)
theorem onlyN (s : ByteArray) (w : World) (hs : s.size ≤ 1000000) :
    Calls Tryd.prog 73 #[.string s, .string ⟨#[48, 49, 50, 51, 52, 53, 54, 55, 56, 57, 97, 98, 99, 100, 101, 102, 103, 104, 105, 106, 107, 108, 109, 110, 111, 112, 113, 114, 115, 116, 117, 118, 119, 120, 121, 122, 65, 66, 67, 68, 69, 70, 71, 72, 73, 74, 75, 76, 77, 78, 79, 80, 81, 82, 83, 84, 85, 86, 87, 88, 89, 90, 45]⟩] w fun e w' => e = .returned (.bool (Tg.only s.data.toList Tg.names)) ∧ Below w.heap.size w w' :=
  onlyR_any s ⟨#[48, 49, 50, 51, 52, 53, 54, 55, 56, 57, 97, 98, 99, 100, 101, 102, 103, 104, 105, 106, 107, 108, 109, 110, 111, 112, 113, 114, 115, 116, 117, 118, 119, 120, 121, 122, 65, 66, 67, 68, 69, 70, 71, 72, 73, 74, 75, 76, 77, 78, 79, 80, 81, 82, 83, 84, 85, 86, 87, 88, 89, 90, 45]⟩ w hs (by decide)

set_option maxHeartbeats 2000000 in
set_option maxRecDepth 100000 in
theorem ownR_any (s : ByteArray) (w : World) (hs : s.size ≤ 1000000) :
    Calls Tryd.prog 56 #[.string s] w fun e w' => e = .returned (.bool (Tg.ownR s.data.toList)) ∧ Below w.heap.size w w' := by
  unfold Tg.ownR
  have c1 := begins_any s ⟨#[33]⟩ w
  rw [show (⟨#[33]⟩ : ByteArray).data.toList = [33] from rfl] at c1
  rw [← Lib.size_eq]
  cases h1 : Lib.hasPrefix s.data.toList [33]
  · rw [h1] at c1
    clear h1
    rw [Bool.false_and, Bool.false_and]
    go_enter Tryd.func56, Tryd.ntmps56
    go_wp2_with fail
    refine c1.mono ?_
    rintro e w1 ⟨rfl, rfl⟩
    go_wp2
    go_ret
    exact ⟨rfl, Below.refl _ _⟩
  · have hl : 1 ≤ s.size := pre_le s ⟨#[33]⟩ h1
    rw [h1] at c1
    clear h1
    rw [Bool.true_and]
    by_cases h2 : s.size ≤ 41
    · have b1 : decide ((s.size : Int) ≤ 41) = true := decide_eq_true (by omega)
      rw [decide_eq_true h2, Bool.true_and]
      obtain ⟨T, hT⟩ : ∃ T, T = s.extract 1 s.size := ⟨_, rfl⟩
      have hTd : s.data.toList.drop 1 = T.data.toList := by rw [hT, ext_drop]
      have hTs : T.size ≤ 1000000 := by have := ext_size_le s 1; rw [← hT] at this; omega
      rw [hTd]
      have HT := Lib.hid hT
      clear hT hTd
      have CT := Lib.hid (fun w1 => onlyN T w1 hTs)
      go_enter Tryd.func56, Tryd.ntmps56
      go_wp2_with fail
      refine c1.mono ?_
      rintro e w1 ⟨rfl, rfl⟩
      go_wp2_with fail
      rw [← HT.out]
      refine (CT.out _).mono ?_
      rintro e w1 ⟨rfl, hb⟩
      go_wp2
      go_ret
      exact ⟨rfl, hb⟩
    · have b1 : decide ((s.size : Int) ≤ 41) = false := decide_eq_false (by omega)
      rw [decide_eq_false h2, Bool.false_and]
      go_enter Tryd.func56, Tryd.ntmps56
      go_wp2_with fail
      refine c1.mono ?_
      rintro e w1 ⟨rfl, rfl⟩
      go_wp2
      go_ret
      exact ⟨rfl, Below.refl _ _⟩

set_option maxHeartbeats 1000000 in
theorem coreR_any (s : ByteArray) (w : World) :
    Calls Tryd.prog 45 #[.string s] w fun e w' => e = .returned (.bool (Tg.core s.data.toList)) ∧ Below w.heap.size w w' := by
  unfold Tg.core
  have C1 := Lib.hid (fun w1 b hb => one_cores s w1 b hb)
  unfold coresO at C1
  obtain ⟨c, hc⟩ : ∃ c, Tg.cores.contains s.data.toList = c := ⟨_, rfl⟩
  rw [hc] at C1 ⊢
  clear hc
  go_enter Tryd.func45, Tryd.ntmps45
  go_wp2_with fail
  refine (C1.out _ _ (by simp)).mono ?_
  rintro e w1 ⟨rfl, rfl⟩
  go_wp2
  go_ret
  exact ⟨rfl, alloc_below _ _⟩

set_option maxHeartbeats 1000000 in
theorem rightR_any (s : ByteArray) (w : World) (hs : s.size ≤ 1000000) :
    Calls Tryd.prog 44 #[.string s] w fun e w' => e = .returned (.bool (Tg.rightR s.data.toList)) ∧ Below w.heap.size w w' := by
  unfold Tg.rightR
  have c1 := coreR_any s w
  cases h1 : Tg.core s.data.toList
  · rw [h1] at c1
    clear h1
    have C2 := Lib.hid (fun w1 => ownR_any s w1 hs)
    rw [Bool.false_or]
    go_enter Tryd.func44, Tryd.ntmps44
    go_wp2_with fail
    refine c1.mono ?_
    rintro e w1 ⟨rfl, hb⟩
    go_wp2_with fail
    refine (C2.out _).mono ?_
    rintro e w2 ⟨rfl, hb2⟩
    go_wp2
    go_ret
    exact ⟨rfl, Below.then hb hb2⟩
  · rw [h1] at c1
    clear h1
    rw [Bool.true_or]
    go_enter Tryd.func44, Tryd.ntmps44
    go_wp2_with fail
    refine c1.mono ?_
    rintro e w1 ⟨rfl, hb⟩
    go_wp2
    go_ret
    exact ⟨rfl, hb⟩

set_option maxHeartbeats 4000000 in
set_option maxRecDepth 100000 in
theorem fitsR_any (t s : ByteArray) (w : World) (ht : t.size ≤ 1000000) (hs : s.size ≤ 1000000) :
    Calls Tryd.prog 46 #[.string t, .string s] w fun e w' => e = .returned (.bool (Tg.fitsR t.data.toList s.data.toList)) ∧ Below w.heap.size w w' := by
  unfold Tg.fitsR
  have C1 := Lib.hid (fun w1 => ownR_any t w1 ht)
  have C2 := Lib.hid (fun w1 => resolveR_any s w1 hs)
  have C3 := Lib.hid (fun w1 b hb => one_fours t w1 b hb)
  unfold foursO at C3
  generalize Tg.resolveR s.data.toList = k at C2
  by_cases h1 : t.data.toList = Tg.K.str.w
  · rw [if_pos (Or.inl h1)]
    obtain rfl := to_str h1
    clear h1 ht C1 C2 C3
    have hz : ∀ l, (str l).toList = l := str_toList
    unfold Tg.K.w at *
    go_enter Tryd.func46, Tryd.ntmps46
    go_wp2
    go_ret
    exact ⟨rfl, Below.refl _ _⟩
  · have a1 : (t.toList == [115, 116, 114]) = false := by rw [Lib.toList_data]; exact beq_words _ _ h1
    cases h2 : Tg.ownR t.data.toList
    · rw [h2] at C1
      rw [if_neg (by simp [h1])]
      clear h1 h2
      cases h3 : [Tg.K.nul.w, Tg.K.boo.w, Tg.K.int.w, Tg.K.flt.w].contains t.data.toList
      · rw [h3] at C3
        clear h3
        rw [Bool.false_and]
        go_enter Tryd.func46, Tryd.ntmps46
        go_wp2_with fail
        refine (C1.out _).mono ?_
        rintro e w1 ⟨rfl, hb⟩
        go_wp2_with fail
        refine (C2.out _).mono ?_
        rintro e w2 ⟨rfl, hb2⟩
        go_wp2_with fail
        refine (C3.out _ _ (by simp)).mono ?_
        rintro e w3 ⟨rfl, rfl⟩
        go_wp2
        go_ret
        exact ⟨rfl, Below.then (Below.then hb hb2) (alloc_below _ _)⟩
      · rw [h3] at C3
        rw [Bool.true_and]
        obtain ⟨x, hx, rfl⟩ := in_words h3
        clear h3 a1 ht
        have hz : ∀ l, (str l).toList = l := str_toList
        simp only [List.mem_cons, List.not_mem_nil, or_false] at hx
        rcases hx with rfl | rfl | rfl | rfl
        all_goals cases k
        all_goals
          unfold kS at C2
          unfold Tg.K.w at *
          go_enter Tryd.func46, Tryd.ntmps46
          go_wp2_with fail
          refine (C1.out _).mono ?_
          rintro e w1 ⟨rfl, hb⟩
          go_wp2_with fail
          refine (C2.out _).mono ?_
          rintro e w2 ⟨rfl, hb2⟩
          go_wp2_with fail
          refine (C3.out _ _ (by simp)).mono ?_
          rintro e w3 ⟨rfl, rfl⟩
          go_wp2
          go_ret
          exact ⟨rfl, Below.then (Below.then hb hb2) (alloc_below _ _)⟩
    · rw [h2] at C1
      rw [if_pos (Or.inr rfl)]
      clear h1 h2
      go_enter Tryd.func46, Tryd.ntmps46
      go_wp2_with fail
      refine (C1.out _).mono ?_
      rintro e w1 ⟨rfl, hb⟩
      go_wp2
      go_ret
      exact ⟨rfl, hb⟩
end Tag
end Go.Proofs.YtnlbnnnhmdjciaaDoor
