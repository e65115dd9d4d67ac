/-
  Walks of the document's Depth, Nodes, Name, text.
-/
import Derived.Test.YthkedlcmpibkjaaGreatDoorEr
import Derived.Test.YthkedlcmpibkjaaGreatDoorTb
import Derived.Test.YthkedlcmpibkjaaGreatDoorRf
namespace Go.Proofs.YthkedlcmpibkjaaGreatDoor
open Go.RowKit

set_option maxHeartbeats 2000000 in
set_option maxRecDepth 100000 in
theorem depthR_any (v : Value) (es : List Ev.E) (w : World) (h : RdE w w.heap.size v es) (hl : es.length ≤ 1000000) :
    Calls Tryz.prog 50 #[v] w fun e w' => e = .returned (.int .i64 (Ev.dmax (Ev.kinds es))) ∧ w = w' := by
  obtain ⟨a, c, rfl, hc, hcl⟩ := h
  obtain ⟨ANS, hANS⟩ : ∃ ANS, Ev.dmax (Ev.kinds es) = ANS := ⟨_, rfl⟩
  rw [hANS]
  have HA : Hid (Ev.depthGo 0 0 ((Ev.kinds es).drop 0) = ANS) := by show _ = _; rw [List.drop_zero, Ev.depthGo_zero, hANS]
  have HC := Lib.hid hcl
  clear hANS hcl
  go_enter Tryz.func50, Tryz.ntmps50
  go_wp2
  go_loop [3, 4, 5] (fun dv mv i => ∃ (j : Nat) (d m : Int), j ≤ es.length ∧ dv = .int .i64 d ∧ mv = .int .i64 m ∧ i = .int .i64 j ∧ Hid (Ev.depthGo d m ((Ev.kinds es).drop j) = ANS) ∧ -(j : Int) ≤ d ∧ d ≤ j) (fun _ _ i => es.length - (intOf i).toNat)
  case atStart => exact ⟨0, 0, 0, by omega, rfl, rfl, rfl, HA, by omega, by omega⟩
  case round =>
    obtain ⟨j, d, m, hj, rfl, rfl, rfl, HK, hd1, hd2⟩ := hrel
    clear HA
    by_cases hlt : j < es.length
    · obtain ⟨g, o, rfl, hg, hcl⟩ := HC.out (by omega)
      obtain ⟨c0, _, _, _, _⟩ := hcl j hlt
      have hK := HK.out
      rw [Ev.kinds_drop es j hlt] at hK
      unfold Ev.depthGo at hK
      clear hcl HK
      generalize es[j].kind = k at *
      by_cases k2 : k = 2 ∨ k = 4
      · have e : Ev.dstep k = 1 := if_pos k2
        rw [e] at hK
        have HK := Lib.hid hK
        clear hK e
        rcases k2 with rfl | rfl
        all_goals go_wp2
        all_goals go_round
        case rel => exact ⟨j + 1, d + 1, max m (d + 1), by omega, by go_num, by go_num, by go_num, HK, by omega, by omega⟩
        case measure => simp [intOf]; omega
        case rel => exact ⟨j + 1, d + 1, max m (d + 1), by omega, by go_num, by go_num, by go_num, HK, by omega, by omega⟩
        case measure => simp [intOf]; omega
      · by_cases k3 : k = 3 ∨ k = 5
        · have e : Ev.dstep k = -1 := by unfold Ev.dstep; rw [if_neg k2, if_pos k3]
          rw [e] at hK
          have HK := Lib.hid hK
          clear hK e k2
          rcases k3 with rfl | rfl
          all_goals go_wp2
          all_goals go_round
          case rel => exact ⟨j + 1, d - 1, max m (d - 1), by omega, by go_num, by go_num, by go_num, HK, by omega, by omega⟩
          case measure => simp [intOf]; omega
          case rel => exact ⟨j + 1, d - 1, max m (d - 1), by omega, by go_num, by go_num, by go_num, HK, by omega, by omega⟩
          case measure => simp [intOf]; omega
        · have e : Ev.dstep k = 0 := by unfold Ev.dstep; rw [if_neg k2, if_neg k3]
          rw [e, Int.add_zero] at hK
          have HK := Lib.hid hK
          have b2 : (k == 2) = false := beq_eq_false_iff_ne.2 (by omega)
          have b3 : (k == 3) = false := beq_eq_false_iff_ne.2 (by omega)
          have b4 : (k == 4) = false := beq_eq_false_iff_ne.2 (by omega)
          have b5 : (k == 5) = false := beq_eq_false_iff_ne.2 (by omega)
          clear hK e k2 k3
          go_wp2
          go_round
          case rel => exact ⟨j + 1, d, max m d, by omega, by go_num, by go_num, by go_num, HK, by omega, by omega⟩
          case measure => simp [intOf]; omega
    · have hje : j = es.length := by omega
      subst hje
      have HD : Hid (m = ANS) := by
        have h := HK.out
        rw [List.drop_of_length_le (by rw [Ev.kinds_len]; exact Nat.le_refl _)] at h
        exact h
      clear HK
      go_wp2
      go_ret
      exact ⟨ret_int HD.out, rfl⟩

theorem textR_any (l : List UInt8) (w : World) (hl : l.length ≤ 50000) :
    Calls Tryz.prog 80 #[.string (str l)] w fun e w' => e = .returned (.bool (Lib.validD l)) ∧ Below w.heap.size w w' := by
  have cC := chars_any (str l) w (by rw [str_len]; omega)
  rw [str_dat] at cC
  have hs : (Sc.charsOf l).isSome = Lib.validD l := by unfold Sc.charsOf; cases Lib.validD l <;> rfl
  unfold ChR at cC
  rw [hs] at cC
  generalize Lib.validD l = b at *
  go_enter Tryz.func80, Tryz.ntmps80
  go_wp2_with (go_at_call 43; refine cC.mono ?_; rintro e w1 ⟨v, rfl, _, hb⟩)
  go_ret
  exact ⟨rfl, hb⟩

set_option maxHeartbeats 2000000 in
set_option maxRecDepth 100000 in
theorem nameR_any (s : ByteArray) (w : World) (hs : s.size ≤ 1000000) :
    Calls Tryz.prog 78 #[.string s] w fun e w' => e = .returned (.bool (Lx.name s.data.toList)) ∧ w = w' := by
  by_cases h0 : s.size = 0
  · obtain rfl := Tag.ba_nil s h0
    clear h0
    go_enter Tryz.func78, Tryz.ntmps78
    go_wp2
    go_ret
    exact ⟨rfl, rfl⟩
  · have hp : 0 < s.size := by omega
    have hne : s.data.toList.isEmpty = false := by rw [← Lib.toList_data]; exact ba_isEmpty s hp
    unfold Lx.name
    rw [hne, ← Lib.size_eq]
    clear hne
    have b0 : decide ((s.size : Int) < 1) = false := decide_eq_false (by omega)
    by_cases h4 : s.size ≤ 40
    · have b1 : decide ((40 : Int) < (s.size : Int)) = false := decide_eq_false (by omega)
      rw [decide_eq_true h4]
      obtain ⟨ANS, hANS⟩ : ∃ ANS, s.data.toList.all Lx.inName = ANS := ⟨_, rfl⟩
      rw [hANS]
      have HA : Hid ((s.data.toList.drop 0).all Lx.inName = ANS) := hANS
      clear hANS
      go_enter Tryz.func78, Tryz.ntmps78
      go_wp2
      go_loop [3] (fun i => ∃ k : Nat, k ≤ s.size ∧ i = .int .i64 k ∧ Hid ((s.data.toList.drop k).all Lx.inName = ANS)) (fun i => s.size - (intOf i).toNat)
      case atStart => exact ⟨0, by omega, rfl, HA⟩
      case round =>
        obtain ⟨k, hk, rfl, HK⟩ := hrel
        clear HA
        by_cases hlt : k < s.size
        · have HS : Hid ((Lx.inName s[k] && (s.data.toList.drop (k + 1)).all Lx.inName) = ANS) := by
            have h := HK.out; rw [lall_at s k hlt] at h; exact h
          clear HK
          have hc := s[k].toNat_lt
          have hI : Lx.inName s[k] = true ↔ ((65 ≤ s[k].toNat ∧ s[k].toNat ≤ 90) ∨ (97 ≤ s[k].toNat ∧ s[k].toNat ≤ 122) ∨ (48 ≤ s[k].toNat ∧ s[k].toNat ≤ 57) ∨ s[k].toNat = 45 ∨ s[k].toNat = 95) := by
            unfold Lx.inName; simp only [Bool.or_eq_true, Bool.and_eq_true, decide_eq_true_eq]; omega
          have HI := Lib.hid hI
          clear hI
          go_wp2
          all_goals first
            | (go_ret
               have hf : Lx.inName s[k] = false := by rw [Bool.eq_false_iff, Ne, HI.out]; simp at *; omega
               exact ⟨ret_bool (by rw [← HS.out, hf]; rfl), rfl⟩)
            | (go_round
               case rel =>
                 have ht : Lx.inName s[k] = true := by rw [HI.out]; simp at *; omega
                 exact ⟨k + 1, by omega, by go_num, by show _ = _; rw [← HS.out, ht, Bool.true_and]⟩
               case measure => simp [intOf]; omega)
        · have HD : Hid (true = ANS) := by
            have h := HK.out
            rw [Tag.drop_nil s k (by omega)] at h
            exact h
          clear HK
          go_wp2
          go_ret
          exact ⟨ret_bool HD.out, rfl⟩
    · have b1 : decide ((40 : Int) < (s.size : Int)) = true := decide_eq_true (by omega)
      rw [decide_eq_false h4]
      go_enter Tryz.func78, Tryz.ntmps78
      go_wp2
      go_ret
      exact ⟨rfl, rfl⟩
end Go.Proofs.YthkedlcmpibkjaaGreatDoor
