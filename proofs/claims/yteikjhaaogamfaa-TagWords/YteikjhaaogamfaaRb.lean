/-
  Walk of the document's only.
-/
import Derived.Test.YteikjhaaogamfaaRa
namespace Go.Proofs.Yteikjhaaogamfaa
open Go.RowKit

theorem only_at (s : ByteArray) (of : List UInt8) (k : Nat) (h : k < s.size) : (s.data.toList.drop k).all (of.contains ·) = (of.contains s[k] && (s.data.toList.drop (k + 1)).all (of.contains ·)) := by
  rw [drop_cons s k h, List.all_cons]
theorem has_at (o : ByteArray) (y : UInt8) (q : Nat) (h : q < o.size) : (o.data.toList.drop q).contains y = (o[q] == y || (o.data.toList.drop (q + 1)).contains y) := by
  rw [drop_cons o q h, List.contains_cons, Bool.beq_comm]
set_option maxHeartbeats 2000000 in
set_option maxRecDepth 100000 in
theorem onlyR_any (s o : ByteArray) (w : World) (hs : s.size ≤ 1000000) (ho : o.size ≤ 1000000) :
    Calls Try.prog 33 #[.string s, .string o] w fun e w' => e = .returned (.bool (Tg.only s.data.toList o.data.toList)) ∧ Below w.heap.size w w' := by
  unfold Tg.only
  obtain ⟨ALL, hALL⟩ : ∃ ALL, s.data.toList.all (o.data.toList.contains ·) = ALL := ⟨_, rfl⟩
  obtain ⟨EMP, hEMP⟩ : ∃ EMP, s.data.toList.isEmpty = EMP := ⟨_, rfl⟩
  rw [hALL, hEMP]
  have HA : Hid ((s.data.toList.drop 0).all (o.data.toList.contains ·) = ALL) := hALL
  have hE : s.toList.isEmpty = EMP := by rw [Lib.toList_data]; exact hEMP
  have HE := Lib.hid hE
  clear hALL hEMP hE
  go_enter Try.func33, Try.ntmps33
  go_wp2
  go_loopw [5] (fun i wr => ∃ p : Nat, p ≤ s.size ∧ i = .int .i64 p ∧ Below w.heap.size w wr ∧ Hid ((s.data.toList.drop p).all (o.data.toList.contains ·) = ALL)) (fun i _ => s.size - (intOf i).toNat)
  case atStart => exact ⟨0, by omega, rfl, Below.refl _ _, HA⟩
  case round =>
    obtain ⟨p, hp, rfl, hbw, HK⟩ := hrel
    clear HA
    by_cases hlt : p < s.size
    · have HS : Hid ((o.data.toList.contains s[p] && (s.data.toList.drop (p + 1)).all (o.data.toList.contains ·)) = ALL) := by
        have h := HK.out; rw [only_at s _ p hlt] at h; exact h
      clear HK
      obtain ⟨C, hC⟩ : ∃ C, o.data.toList.contains s[p] = C := ⟨_, rfl⟩
      rw [hC] at HS
      have HCI : Hid ((false || (o.data.toList.drop 0).contains s[p]) = C) := by show _ = _; rw [Bool.false_or]; exact hC
      clear hC
      go_wp2
      go_loopw [6, 7] (fun v i wr => ∃ (q : Nat) (b : Bool), q ≤ o.size ∧ v = .bool b ∧ i = .int .i64 q ∧ Below w.heap.size w wr ∧ Hid ((b || (o.data.toList.drop q).contains s[p]) = C)) (fun _ i _ => o.size - (intOf i).toNat)
      case atStart => exact ⟨0, false, by omega, rfl, rfl, hbw, HCI⟩
      case round =>
        obtain ⟨q, b, hq, rfl, rfl, hbr, HQ⟩ := hrel
        clear HCI
        by_cases hql : q < o.size
        · cases b
          · have HT : Hid ((o[q] == s[p] || (o.data.toList.drop (q + 1)).contains s[p]) = C) := by
              have h := HQ.out; rw [Bool.false_or, has_at o s[p] q hql] at h; exact h
            clear HQ
            by_cases hc : o[q] = s[p]
            · have b1 : ((o[q].toNat : Int) == (s[p].toNat : Int)) = true := by rw [hc]; simp
              have HN : Hid ((true || (o.data.toList.drop (q + 1)).contains s[p]) = C) := by
                have h := HT.out; rw [hc, beq_self_eq_true] at h; exact h
              clear HT hc
              go_wp2
              go_quiet (fail)
              go_wp2
              go_roundw
              case rel => exact ⟨q + 1, true, by omega, rfl, by go_num, below_drewN hbr _, HN⟩
              case measure => simp [intOf]; omega
            · have b1 : ((o[q].toNat : Int) == (s[p].toNat : Int)) = false := beq_eq_false_iff_ne.2 (fun e => hc (UInt8.toNat_inj.1 (by omega)))
              have HN : Hid ((false || (o.data.toList.drop (q + 1)).contains s[p]) = C) := by
                have h := HT.out; rw [beq_eq_false_iff_ne.2 hc] at h; exact h
              clear HT hc
              go_wp2
              go_quiet (fail)
              go_wp2
              go_roundw
              case rel => exact ⟨q + 1, false, by omega, rfl, by go_num, below_drewN hbr _, HN⟩
              case measure => simp [intOf]; omega
          · have HN : Hid ((true || (o.data.toList.drop (q + 1)).contains s[p]) = C) := by
              have h := HQ.out; rw [Bool.true_or] at h; show _ = _; rw [Bool.true_or]; exact h
            clear HQ
            go_wp2
            go_quiet (fail)
            go_wp2
            go_roundw
            case rel => exact ⟨q + 1, true, by omega, rfl, by go_num, below_drewN hbr _, HN⟩
            case measure => simp [intOf]; omega
        · have HB : Hid (b = C) := by
            have h := HQ.out; rw [drop_nil o q (by omega)] at h; show _ = _; rw [← h]; simp
          clear HQ
          cases b
          · have HF : Hid (ALL = false) := by have h := HS.out; rw [← HB.out, Bool.false_and] at h; exact h.symm
            clear HS HB
            go_wp2
            go_ret
            exact ⟨ret_bool (by rw [HF.out]; rfl), hbr⟩
          · have HN : Hid ((s.data.toList.drop (p + 1)).all (o.data.toList.contains ·) = ALL) := by have h := HS.out; rw [← HB.out, Bool.true_and] at h; exact h
            clear HS HB
            go_wp2
            go_roundw
            case rel => exact ⟨p + 1, by omega, by go_num, hbr, HN⟩
            case measure => simp [intOf]; omega
    · have HF : Hid (ALL = true) := by have h := HK.out; rw [drop_nil s p (by omega)] at h; exact h.symm
      clear HK
      by_cases h0 : s.size = 0
      · obtain rfl := ba_nil s h0
        have hEM : EMP = true := by rw [← HE.out, Lib.toList_data]; rfl
        subst hEM
        go_wp2
        go_ret
        exact ⟨ret_bool (by rw [HF.out]; rfl), hbw⟩
      · have h1 : 0 < s.size := by omega
        have hemp := ba_isEmpty s h1
        have hnil := ba_notnil s h1
        have hEM : EMP = false := by rw [← HE.out]; exact hemp
        subst hEM
        go_wp2
        go_ret
        exact ⟨ret_bool (by rw [HF.out]; rfl), hbw⟩
end Go.Proofs.Yteikjhaaogamfaa
