/-
  Walks of the document's bare, begins, one, find, only.
-/
import Derived.Test.YteikjhaaogamfaaWe
import Derived.Deep.QuietTactic
import Derived.BigQuiet
namespace Go.Proofs.Yteikjhaaogamfaa
open Go.RowKit

set_option maxHeartbeats 400000 in
theorem bareR_any (s : ByteArray) (w : World) :
    Calls Try.prog 34 #[.string s] w fun e w' => e = .returned (.string (str (Tg.bare s.data.toList))) ∧ w = w' := by
  by_cases h0 : s.size = 0
  · obtain rfl := ba_nil s h0
    clear h0
    go_enter Try.func34, Try.ntmps34
    go_wp2
    go_ret
    exact ⟨rfl, rfl⟩
  · have hp : 0 < s.size := by omega
    have hemp := ba_isEmpty s hp
    have hnil := ba_notnil s hp
    by_cases h1 : (s[0].toNat : Int) = 43
    · have H := Lib.hid (bare_yes s hp (Or.inl h1))
      have b1 : ((s[0].toNat : Int) == 43) = true := beq_iff_eq.2 h1
      clear h1
      go_enter Try.func34, Try.ntmps34
      go_wp2
      go_ret
      exact ⟨ret_str H.out, rfl⟩
    · have b1 : ((s[0].toNat : Int) == 43) = false := beq_eq_false_iff_ne.2 h1
      by_cases h2 : (s[0].toNat : Int) = 45
      · have H := Lib.hid (bare_yes s hp (Or.inr h2))
        have b2 : ((s[0].toNat : Int) == 45) = true := beq_iff_eq.2 h2
        clear h1 h2
        go_enter Try.func34, Try.ntmps34
        go_wp2
        go_ret
        exact ⟨ret_str H.out, rfl⟩
      · have b2 : ((s[0].toNat : Int) == 45) = false := beq_eq_false_iff_ne.2 h2
        have H := Lib.hid (bare_no s hp h1 h2)
        clear h1 h2
        go_enter Try.func34, Try.ntmps34
        go_wp2
        go_ret
        exact ⟨ret_str H.out, rfl⟩

set_option maxHeartbeats 400000 in
theorem begins_any (s p : ByteArray) (w : World) :
    Calls Try.prog 28 #[.string s, .string p] w fun e w' => e = .returned (.bool (Lib.hasPrefix s.data.toList p.data.toList)) ∧ w = w' := by
  by_cases h : p.size ≤ s.size
  · have HP := Lib.hid (pre_take s p)
    have b0 : decide ((p.size : Int) ≤ (s.size : Int)) = true := decide_eq_true (by omega)
    go_enter Try.func28, Try.ntmps28
    go_wp2
    go_ret
    exact ⟨ret_bool HP.out.symm, rfl⟩
  · have b0 : decide ((p.size : Int) ≤ (s.size : Int)) = false := decide_eq_false (by omega)
    go_enter Try.func28, Try.ntmps28
    go_wp2
    go_ret
    exact ⟨ret_bool (pre_len s p (by omega)).symm, rfl⟩

set_option maxHeartbeats 1000000 in
set_option maxRecDepth 100000 in
theorem one_any (s : ByteArray) (b : Nat) (ws : List ByteArray) (w : World) (hn : ws.length ≤ 100) (hcell : ∀ j x, ws[j]? = some x → w.cell? ⟨b, j, none⟩ = some (.string x)) :
    Calls Try.prog 22 #[.string s, .slice (some ⟨b, 0, none⟩) ws.length ws.length] w fun e w' => e = .returned (.bool (ws.any fun x => x.toList == s.toList)) ∧ w = w' := by
  obtain ⟨ANS, hANS⟩ : ∃ ANS, (ws.any fun x => x.toList == s.toList) = ANS := ⟨_, rfl⟩
  rw [hANS]
  have HA : Hid (((ws.drop 0).any fun x => x.toList == s.toList) = ANS) := hANS
  have HC := Lib.hid hcell
  clear hANS hcell
  go_enter Try.func22, Try.ntmps22
  go_wp2
  go_loop [5] (fun i => ∃ k : Nat, k ≤ ws.length ∧ i = .int .i64 k ∧ Hid (((ws.drop k).any fun x => x.toList == s.toList) = ANS)) (fun i => ws.length - (intOf i).toNat)
  case atStart => exact ⟨0, by omega, rfl, HA⟩
  case round =>
    obtain ⟨k, hk, rfl, HK⟩ := hrel
    clear HA
    by_cases hlt : k < ws.length
    · have hc := HC.out k ws[k] (List.getElem?_eq_getElem hlt)
      have HS : Hid ((ws[k].toList == s.toList || (ws.drop (k + 1)).any fun x => x.toList == s.toList) = ANS) := by
        have h := HK.out; rw [List.drop_eq_getElem_cons hlt, List.any_cons] at h; exact h
      clear HK
      generalize ws[k] = x at *
      cases hx : (x.toList == s.toList)
      · have HN : Hid (((ws.drop (k + 1)).any fun x => x.toList == s.toList) = ANS) := by have h := HS.out; rw [hx, Bool.false_or] at h; exact h
        clear HS
        go_wp2
        go_round
        case rel => exact ⟨k + 1, by omega, by go_num, HN⟩
        case measure => simp [intOf]; omega
      · have HF : Hid (true = ANS) := by have h := HS.out; rw [hx, Bool.true_or] at h; exact h
        clear HS
        go_wp2
        go_ret
        exact ⟨ret_bool HF.out, rfl⟩
    · have HF : Hid (false = ANS) := by have h := HK.out; rw [List.drop_eq_nil_of_le (by omega)] at h; exact h
      clear HK
      go_wp2
      go_ret
      exact ⟨ret_bool HF.out, rfl⟩
/-- over a row that has just been laid -/
theorem one_new (s : ByteArray) (ws : List (List UInt8)) (w : World) (hn : ws.length ≤ 100) :
    Calls Try.prog 22 #[.string s, .slice (some ⟨w.heap.size, 0, none⟩) (ws.map str).length (ws.map str).length] (w.alloc (.cells ((ws.map str).map fun x => Value.string x).toArray 9)) fun e w' =>
      e = .returned (.bool (ws.contains s.data.toList)) ∧ (w.alloc (.cells ((ws.map str).map fun x => Value.string x).toArray 9)) = w' := by
  have hcell : ∀ j x, (ws.map str)[j]? = some x → (w.alloc (.cells ((ws.map str).map fun x => Value.string x).toArray 9)).cell? ⟨w.heap.size, j, none⟩ = some (.string x) := by
    intro j x hj
    have : ((ws.map str).map fun x => Value.string x)[j]? = some (.string x) := by rw [List.getElem?_map, hj]; rfl
    simp only [World.cell?, World.alloc]
    simp [this]
    simpa using hj
  have c := one_any s w.heap.size (ws.map str) (w.alloc (.cells ((ws.map str).map fun x => Value.string x).toArray 9)) (by simpa using hn) hcell
  have e : ((ws.map str).any fun x => x.toList == s.toList) = ws.contains s.data.toList := by
    rw [List.any_map, Bool.eq_iff_iff, List.any_eq_true, List.contains_iff_mem]
    constructor
    · rintro ⟨x, hx, he⟩
      have he' : (str x).toList = s.toList := beq_iff_eq.1 he
      rw [str_toList, Lib.toList_data] at he'
      rw [← he']; exact hx
    · intro h
      refine ⟨_, h, ?_⟩
      show ((str s.data.toList).toList == s.toList) = true
      rw [str_toList, Lib.toList_data]; simp
  rw [e] at c
  exact c

theorem find_at (a b : UInt8) (s : ByteArray) (k : Nat) (h : k < s.size) : Tg.find a b (s.data.toList.drop k) = if s[k] = a ∨ s[k] = b then 0 else Tg.find a b (s.data.toList.drop (k + 1)) + 1 := by
  rw [drop_cons s k h]
  by_cases c : s[k] = a ∨ s[k] = b
  · rw [if_pos c, Tg.find_here _ _ _ _ c]
  · rw [if_neg c]
    unfold Tg.find
    rw [List.takeWhile_cons_of_pos (by simp at c ⊢; exact c)]; rfl
set_option maxHeartbeats 1000000 in
theorem find_any (s : ByteArray) (A B : Int) (a b : UInt8) (hA : A = a.toNat) (hB : B = b.toNat) (w : World) (hs : s.size ≤ 1000000) :
    Calls Try.prog 35 #[.string s, .int .u8 A, .int .u8 B] w fun e w' => e = .returned (.int .i64 (Tg.find a b s.data.toList : Nat)) ∧ w = w' := by
  subst hA
  subst hB
  obtain ⟨ANS, hANS⟩ : ∃ ANS, Tg.find a b s.data.toList = ANS := ⟨_, rfl⟩
  rw [hANS]
  have HA : Hid (0 + Tg.find a b (s.data.toList.drop 0) = ANS) := by show _ = _; rw [← hANS]; simp
  clear hANS
  go_enter Try.func35, Try.ntmps35
  go_wp2
  go_loop [7] (fun i => ∃ k : Nat, k ≤ s.size ∧ i = .int .i64 k ∧ Hid (k + Tg.find a b (s.data.toList.drop k) = ANS)) (fun i => s.size - (intOf i).toNat)
  case atStart => exact ⟨0, by omega, rfl, HA⟩
  case round =>
    obtain ⟨k, hk, rfl, HK⟩ := hrel
    clear HA
    by_cases hlt : k < s.size
    · have HS : Hid (_ = _) := find_at a b s k hlt
      by_cases c1 : s[k] = a
      · have HN : Hid (k = ANS) := by have h := HK.out; rw [HS.out, if_pos (Or.inl c1)] at h; exact h
        have b1 : ((s[k].toNat : Int) == (a.toNat : Int)) = true := by rw [c1]; simp
        clear HS HK c1
        go_wp2
        go_ret
        exact ⟨ret_int (by rw [HN.out]), rfl⟩
      · have b1 : ((s[k].toNat : Int) == (a.toNat : Int)) = false := beq_eq_false_iff_ne.2 (fun e => c1 (UInt8.toNat_inj.1 (by omega)))
        by_cases c2 : s[k] = b
        · have HN : Hid (k = ANS) := by have h := HK.out; rw [HS.out, if_pos (Or.inr c2)] at h; exact h
          have b2 : ((s[k].toNat : Int) == (b.toNat : Int)) = true := by rw [c2]; simp
          clear HS HK c1 c2
          go_wp2
          go_ret
          exact ⟨ret_int (by rw [HN.out]), rfl⟩
        · have b2 : ((s[k].toNat : Int) == (b.toNat : Int)) = false := beq_eq_false_iff_ne.2 (fun e => c2 (UInt8.toNat_inj.1 (by omega)))
          have HN : Hid ((k + 1) + Tg.find a b (s.data.toList.drop (k + 1)) = ANS) := by
            have h := HK.out; rw [HS.out, if_neg (by simp [c1, c2])] at h; show _ = _; omega
          clear HS HK c1 c2
          go_wp2
          go_round
          case rel => exact ⟨k + 1, by omega, by go_num, HN⟩
          case measure => simp [intOf]; omega
    · have HN : Hid (s.size = ANS) := by
        have h := HK.out; rw [drop_nil s k (by omega)] at h; have : Tg.find a b [] = 0 := rfl; show _ = _; omega
      clear HK
      go_wp2
      go_ret
      exact ⟨ret_int (by rw [HN.out]), rfl⟩
end Go.Proofs.Yteikjhaaogamfaa
