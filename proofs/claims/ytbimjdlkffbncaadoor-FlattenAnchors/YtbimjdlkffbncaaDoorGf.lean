/-
  Walks of inName, isName, isOwn, Core, Right, Word, Read, Fits.
-/
import Derived.Test.YtbimjdlkffbncaaDoorGe
import Derived.Lib.ConvBytes
import Derived.Lib.AtoiErrMem
namespace Go.Proofs.YtbimjdlkffbncaaDoor
namespace Tag
open Go.RowKit

set_option maxHeartbeats 400000 in
theorem inName_any (b : UInt8) (w : World) :
    Calls Tryd.prog 139 #[.int .u8 b.toNat] w fun e w' => e = .returned (.bool (Tg.inName b)) ∧ w = w' := by
  have hb := b.toNat_lt
  go_enter Tryd.func139, Tryd.ntmps139
  go_wp2
  all_goals go_ret
  all_goals exact ⟨ret_bool (by unfold Tg.inName; rw [Bool.eq_iff_iff]; simp at *; omega), rfl⟩

theorem all_at (s : ByteArray) (k : Nat) (h : k < s.size) : (s.data.toList.drop k).all Tg.inName = (Tg.inName s[k] && (s.data.toList.drop (k + 1)).all Tg.inName) := by
  rw [drop_cons s k h, List.all_cons]
theorem getD_at (s : ByteArray) (k : Nat) (h : k < s.size) : s.data.toList.getD k 0 = s[k] := by
  rw [List.getD_eq_getElem?_getD, List.getElem?_eq_getElem (by rw [← Lib.size_eq]; exact h)]; rfl

set_option maxHeartbeats 1000000 in
set_option maxRecDepth 100000 in
theorem name_any (s : ByteArray) (w : World) (hs : s.size ≤ 1000000) :
    Calls Tryd.prog 128 #[.string s] w fun e w' => e = .returned (.bool (Tg.isName s.data.toList)) ∧ Below w.heap.size w w' := by
  by_cases h0 : s.size = 0
  · obtain rfl := ba_nil s h0
    clear h0
    go_enter Tryd.func128, Tryd.ntmps128
    go_wp2
    go_ret
    exact ⟨rfl, Below.refl _ _⟩
  · have hp : 0 < s.size := by omega
    have hemp := ba_isEmpty s hp
    have hnil := ba_notnil s hp
    have hne : s.data.toList.isEmpty = false := by rw [← Lib.toList_data]; exact hemp
    unfold Tg.isName
    rw [hne, ← Lib.size_eq]
    clear hne
    by_cases h4 : s.size ≤ 40
    · have b1 : decide ((40 : Int) < (s.size : Int)) = false := decide_eq_false (by omega)
      rw [decide_eq_true h4]
      obtain ⟨ANS, hANS⟩ : ∃ ANS, s.data.toList.all Tg.inName = ANS := ⟨_, rfl⟩
      rw [hANS]
      have HA : Hid ((s.data.toList.drop 0).all Tg.inName = ANS) := hANS
      clear hANS
      have hcv := Lib.run_convert_string_bytes (P := Tryd.prog) w 9 133 5 s (u := .string) Tryd.underlying9 Tryd.underlying133 Tryd.underlying5
      have hbw := Lib.bytesWorld_below w 5 s
      have HC := Lib.hid (fun j hj => Lib.bytesWorld_cell w 5 s j hj)
      generalize Lib.bytesWorld w 5 s = W1 at hcv hbw HC
      go_enter Tryd.func128, Tryd.ntmps128
      go_wp2
      go_loop [15] (fun i => ∃ k : Nat, k ≤ s.size ∧ i = .int .i64 k ∧ Hid ((s.data.toList.drop k).all Tg.inName = ANS)) (fun i => s.size - (intOf i).toNat)
      case atStart => exact ⟨0, by omega, rfl, HA⟩
      case round =>
        obtain ⟨k, hk, rfl, HK⟩ := hrel
        clear HA hcv
        by_cases hlt : k < s.size
        · have HS : Hid (_ = _) := all_at s k hlt
          have hc := HC.out k hlt
          rw [getD_at s k hlt] at hc
          have cI := inName_any s[k] W1
          cases hi : Tg.inName s[k]
          · rw [hi] at cI
            have HF : Hid (ANS = false) := by have h := HK.out; rw [HS.out, hi, Bool.false_and] at h; exact h.symm
            clear HS HK hi
            go_wp2_with (go_at_call 139; refine cI.mono ?_; rintro e w' ⟨rfl, rfl⟩)
            go_ret
            exact ⟨ret_bool (by rw [HF.out] <;> rfl), hbw⟩
          · rw [hi] at cI
            have HN : Hid ((s.data.toList.drop (k + 1)).all Tg.inName = ANS) := by have h := HK.out; rw [HS.out, hi, Bool.true_and] at h; exact h
            clear HS HK hi
            go_wp2_with (go_at_call 139; refine cI.mono ?_; rintro e w' ⟨rfl, rfl⟩)
            go_round
            case rel => exact ⟨k + 1, by omega, by go_num, HN⟩
            case measure => simp [intOf]; omega
        · have HF : Hid (ANS = true) := by have h := HK.out; rw [drop_nil s k (by omega)] at h; exact h.symm
          clear HK
          go_wp2
          go_ret
          exact ⟨ret_bool (by rw [HF.out] <;> rfl), hbw⟩
    · have b1 : decide ((40 : Int) < (s.size : Int)) = true := decide_eq_true (by omega)
      rw [decide_eq_false h4]
      go_enter Tryd.func128, Tryd.ntmps128
      go_wp2
      go_ret
      exact ⟨rfl, Below.refl _ _⟩

set_option maxHeartbeats 400000 in
theorem own_any (s : ByteArray) (w : World) (hs : s.size ≤ 1000000) :
    Calls Tryd.prog 105 #[.string s] w fun e w' => e = .returned (.bool (Tg.isOwn s.data.toList)) ∧ Below w.heap.size w w' := by
  unfold Tg.isOwn
  cases h1 : Lib.hasPrefix s.data.toList [33]
  · have c1 := cut_no s ⟨#[33]⟩ w h1
    clear h1
    rw [Bool.false_and]
    go_enter Tryd.func105, Tryd.ntmps105
    go_wp2_with fail
    refine c1.mono ?_
    rintro e w1 ⟨rfl, rfl⟩
    go_wp2
    go_ret
    exact ⟨rfl, Below.refl _ _⟩
  · have c1 := cut_yes s ⟨#[33]⟩ w h1
    clear h1
    rw [Bool.true_and]
    obtain ⟨T, hT⟩ : ∃ T, T = s.extract (⟨#[33]⟩ : ByteArray).size s.size := ⟨_, rfl⟩
    have hTd : s.data.toList.drop 1 = T.data.toList := by rw [hT, ext_drop]; rfl
    have hTs : T.size ≤ 1000000 := by have := ext_size_le s (⟨#[33]⟩ : ByteArray).size; rw [← hT] at this; omega
    rw [← hT] at c1
    rw [hTd]
    clear hT hTd
    have c2 := name_any T w hTs
    go_enter Tryd.func105, Tryd.ntmps105
    go_wp2_with fail
    refine c1.mono ?_
    rintro e w1 ⟨rfl, rfl⟩
    go_wp2_with fail
    refine c2.mono ?_
    rintro e w1 ⟨rfl, hb⟩
    go_wp2
    go_ret
    exact ⟨rfl, hb⟩

set_option maxHeartbeats 1000000 in
theorem core_any (s : ByteArray) (w : World) :
    Calls Tryd.prog 80 #[.string s] w fun e w' => e = .returned (.bool (Tg.core s.data.toList)) ∧ w = w' := by
  unfold Tg.core
  cases h2 : Tg.cores.contains s.data.toList
  · have n2 := not_words h2
    have d1 := n2 [110, 117, 108, 108] (by decide)
    have d2 := n2 [98, 111, 111, 108] (by decide)
    have d3 := n2 [105, 110, 116] (by decide)
    have d4 := n2 [102, 108, 111, 97, 116] (by decide)
    have d5 := n2 [115, 116, 114] (by decide)
    have d6 := n2 [115, 101, 113] (by decide)
    have d7 := n2 [109, 97, 112] (by decide)
    clear n2 h2
    go_enter Tryd.func80, Tryd.ntmps80
    go_wp2
    go_ret
    exact ⟨rfl, rfl⟩
  · obtain ⟨x, hx, rfl⟩ := in_words h2
    clear h2
    simp only [Tg.cores, List.mem_cons, List.not_mem_nil, or_false] at hx
    rcases hx with rfl | rfl | rfl | rfl | rfl | rfl | rfl
    all_goals
      have hz : ∀ l, (str l).toList = l := str_toList
      go_enter Tryd.func80, Tryd.ntmps80
      go_wp2
      go_ret
      exact ⟨rfl, rfl⟩

set_option maxHeartbeats 400000 in
theorem right_any (s : ByteArray) (w : World) (hs : s.size ≤ 1000000) :
    Calls Tryd.prog 79 #[.string s] w fun e w' => e = .returned (.bool (Tg.right s.data.toList)) ∧ Below w.heap.size w w' := by
  unfold Tg.right
  have c1 := core_any s w
  cases h1 : Tg.core s.data.toList
  · rw [h1] at c1
    clear h1
    have c2 := own_any s w hs
    rw [Bool.false_or]
    go_enter Tryd.func79, Tryd.ntmps79
    go_wp2_with fail
    refine c1.mono ?_
    rintro e w1 ⟨rfl, rfl⟩
    go_wp2_with fail
    refine c2.mono ?_
    rintro e w1 ⟨rfl, hb⟩
    go_wp2
    go_ret
    exact ⟨rfl, hb⟩
  · rw [h1] at c1
    clear h1
    rw [Bool.true_or]
    go_enter Tryd.func79, Tryd.ntmps79
    go_wp2_with fail
    refine c1.mono ?_
    rintro e w1 ⟨rfl, rfl⟩
    go_wp2
    go_ret
    exact ⟨rfl, Below.refl _ _⟩

theorem app_data (a b : ByteArray) : (a ++ b).data.toList = a.data.toList ++ b.data.toList := by
  rw [ByteArray.data_append]; simp

end Tag
end Go.Proofs.YtbimjdlkffbncaaDoor
