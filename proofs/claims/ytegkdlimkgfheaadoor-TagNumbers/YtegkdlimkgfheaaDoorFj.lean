/-
  Walk of strconv's fmtEFG, the form without an exponent.
-/
import Derived.Test.YtegkdlimkgfheaaDoorFi
namespace Go.Proofs.YtegkdlimkgfheaaDoor
open Go.RowKit


set_option maxHeartbeats 4000000 in
set_option maxRecDepth 100000 in
theorem fmtF2 (B b : Nat) (v : Value) (neg : Bool) (a r : Nat) (dp N prec : Int) (D : List UInt8) (w : World) (hst : St w B 0 w v []) (ha : 1 ≤ a) (hr : 1 ≤ r) (hn : a + r ≤ 20) (hl : D.length = a + r) (hN : N = (a : Int) + (r : Int)) (hdp : dp = (a : Int)) (hpr : prec = (r : Int))  (hD : DigL w b D) (hG : DG D) :
    Calls Tryd.prog 56 #[v, .bool neg, .slice (some ⟨b, 0, none⟩) 32 32, .int .i64 dp, .int .i64 N, .int .i64 prec, .int .u8 102, .bool true] w fun e w' => OutE B w e w' := by
  subst hN hdp hpr
  have b1 : decide ((0 : Int) < (a : Int)) = true := decide_eq_true (by omega)
  have b1' : decide (0 < a) = true := decide_eq_true (by omega)
  have b2 : min ((a : Int) + (r : Int)) (a : Int) = (a : Int) := by omega
  have b4 : decide ((0 : Int) < (r : Int)) = true := decide_eq_true (by omega)
  have b4' : decide (0 < r) = true := decide_eq_true (by omega)
  have q1 : max (0 : Int) (-(a : Int)) = 0 := by omega
  have q2 : min (r : Int) 0 = 0 := by omega
  have q3 : (a : Int) + (r : Int) - (a : Int) = (r : Int) := by omega
  have q4 : max (0 : Int) (r : Int) = (r : Int) := by omega
  have HD := Lib.hid hD
  have HG := Lib.hid hG
  have HL := Lib.hid hl
  clear hD hG hl
  cases neg
  · go_enter Tryd.func56, Tryd.ntmps56
    go_wp2
    go_loopw [0, 191] (fun d i wr => ∃ k : Nat, k ≤ a ∧ i = .int .i64 (k : Int) ∧ St w B (0 + 3 * k) wr d ([] ++ D.take k)) (fun _ i _ => a - (intOf i).toNat)
    case atStart => exact ⟨0, by omega, rfl, hst.cast (by omega) (by simp)⟩
    case round =>
      obtain ⟨k, hk, rfl, hst⟩ := hrel
      by_cases hlt : k < a
      · have gk := dig_at (hst.dig HD.out) (k) (by have := HL.out; omega)
        obtain ⟨ck, hck⟩ : ∃ ck, D[k]'(by have := HL.out; omega) = ck := ⟨_, rfl⟩
        rw [hck] at gk
        have HCK := Lib.hid hck
        clear hck
        go_wp2_with (at_builtin; refine wpList_pushK rfl (.tmp 195) (.tmp 197) rfl (Is [ck]) B _ _ _ _ _ _ _ _ rfl _ rfl rfl (cells1 ck) hst (by omega) ?_)
        intro m9 v9 w9 hm9 hst
        obtain rfl := hm9
        go_wp2
        go_roundw
        case rel => exact ⟨k + 1, by omega, by go_num, hst.cast (by omega) (by rw [List.take_add_one, List.getElem?_eq_getElem (by have := HL.out; omega), HCK.out]; simp)⟩
        case measure => simp [intOf]; omega
      · have hkn : k = a := by omega
        replace hst := hst.cast (K' := 0 + 3 * (a)) (l' := [] ++ D.take (a)) (by omega) (by rw [hkn])
        clear hkn
        go_wp2
        go_loopw [0, 203] (fun d i wr => i = .int .i64 0 ∧ St w B ((0 + 3 * a)) wr d (([] ++ D.take a))) (fun _ _ _ => 0)
        case atStart => exact ⟨rfl, hst.cast (by omega) (by simp)⟩
        case round =>
          obtain ⟨rfl, hst⟩ := hrel
          go_wp2_with (at_builtin; refine wpList_pushK rfl (.tmp 214) (.tmp 215) rfl (Is [46]) B _ _ _ _ _ _ _ _ rfl _ rfl rfl (cells1 46) hst (by omega) ?_)
          intro m6 v6 w6 hm6 hst
          obtain rfl := hm6
          replace hst := hst.cast (K' := (0 + 3 * a + 3)) (l' := ([] ++ (D.take a ++ [46]))) (by omega) (by simp)
          go_wp2
          go_loopw [0, 240] (fun d i wr => i = .int .i64 0 ∧ St w B ((0 + 3 * a + 3)) wr d (([] ++ (D.take a ++ [46])))) (fun _ _ _ => 0)
          case atStart => exact ⟨rfl, hst.cast (by omega) (by simp)⟩
          case round =>
            obtain ⟨rfl, hst⟩ := hrel
            go_wp2
            go_loopw [0, 247] (fun d i wr => ∃ k : Nat, k ≤ r ∧ i = .int .i64 (k : Int) ∧ St w B ((0 + 3 * a + 3) + 3 * k) wr d (([] ++ (D.take a ++ [46])) ++ (D.drop a).take k)) (fun _ i _ => r - (intOf i).toNat)
            case atStart => exact ⟨0, by omega, rfl, hst.cast (by omega) (by simp)⟩
            case round =>
              obtain ⟨k, hk, rfl, hst⟩ := hrel
              by_cases hlt : k < r
              · have gk := dig_at (hst.dig HD.out) (a + k) (by have := HL.out; omega)
                obtain ⟨ck, hck⟩ : ∃ ck, D[a + k]'(by have := HL.out; omega) = ck := ⟨_, rfl⟩
                rw [hck] at gk
                have HCK := Lib.hid hck
                clear hck
                go_wp2_with (at_builtin; refine wpList_pushK rfl (.tmp 250) (.tmp 257) rfl (Is [ck]) B _ _ _ _ _ _ _ _ rfl _ rfl rfl (cells1 ck) hst (by omega) ?_)
                intro m9 v9 w9 hm9 hst
                obtain rfl := hm9
                go_wp2
                go_roundw
                case rel => exact ⟨k + 1, by omega, by go_num, hst.cast (by omega) (by rw [List.take_add_one, List.getElem?_drop, List.getElem?_eq_getElem (by have := HL.out; omega), HCK.out]; simp)⟩
                case measure => simp [intOf]; omega
              · have hkn : k = r := by omega
                replace hst := hst.cast (K' := (0 + 3 * a + 3) + 3 * (r)) (l' := ([] ++ (D.take a ++ [46])) ++ (D.drop a).take (r)) (by omega) (by rw [hkn])
                clear hkn
                go_wp2
                go_loopw [0, 261] (fun d i wr => i = .int .i64 0 ∧ St w B ((0 + 3 * a + 3) + 3 * r) wr d (([] ++ (D.take a ++ [46])) ++ (D.drop a).take r)) (fun _ _ _ => 0)
                case atStart => exact ⟨rfl, hst.cast (by omega) (by simp)⟩
                case round =>
                  obtain ⟨rfl, hst⟩ := hrel
                  go_wp2
                  go_ret
                  exact num_f (sg := []) (A := D.take a) (F := 46 :: (D.drop a).take r) hst (by omega) (by simp) (by simp) ⟨HG.out.take a, by intro e; have := congrArg List.length e; rw [List.length_take, HL.out, List.length_nil] at this; omega⟩ (Or.inr ⟨_, rfl, (HG.out.drop a).take r⟩)
  · go_enter Tryd.func56, Tryd.ntmps56
    go_wp2_with (at_builtin; refine wpList_pushK rfl (.tmp 179) (.tmp 180) rfl (Is [45]) B _ _ _ _ _ _ _ _ rfl _ rfl rfl (cells1 45) hst (by omega) ?_)
    intro m1 v1 w1 hm1 hst
    obtain rfl := hm1
    go_wp2
    go_loopw [0, 191] (fun d i wr => ∃ k : Nat, k ≤ a ∧ i = .int .i64 (k : Int) ∧ St w B (3 + 3 * k) wr d ([45] ++ D.take k)) (fun _ i _ => a - (intOf i).toNat)
    case atStart => exact ⟨0, by omega, rfl, hst.cast (by omega) (by simp)⟩
    case round =>
      obtain ⟨k, hk, rfl, hst⟩ := hrel
      by_cases hlt : k < a
      · have gk := dig_at (hst.dig HD.out) (k) (by have := HL.out; omega)
        obtain ⟨ck, hck⟩ : ∃ ck, D[k]'(by have := HL.out; omega) = ck := ⟨_, rfl⟩
        rw [hck] at gk
        have HCK := Lib.hid hck
        clear hck
        go_wp2_with (at_builtin; refine wpList_pushK rfl (.tmp 195) (.tmp 197) rfl (Is [ck]) B _ _ _ _ _ _ _ _ rfl _ rfl rfl (cells1 ck) hst (by omega) ?_)
        intro m9 v9 w9 hm9 hst
        obtain rfl := hm9
        go_wp2
        go_roundw
        case rel => exact ⟨k + 1, by omega, by go_num, hst.cast (by omega) (by rw [List.take_add_one, List.getElem?_eq_getElem (by have := HL.out; omega), HCK.out]; simp)⟩
        case measure => simp [intOf]; omega
      · have hkn : k = a := by omega
        replace hst := hst.cast (K' := 3 + 3 * (a)) (l' := [45] ++ D.take (a)) (by omega) (by rw [hkn])
        clear hkn
        go_wp2
        go_loopw [0, 203] (fun d i wr => i = .int .i64 0 ∧ St w B ((3 + 3 * a)) wr d (([45] ++ D.take a))) (fun _ _ _ => 0)
        case atStart => exact ⟨rfl, hst.cast (by omega) (by simp)⟩
        case round =>
          obtain ⟨rfl, hst⟩ := hrel
          go_wp2_with (at_builtin; refine wpList_pushK rfl (.tmp 214) (.tmp 215) rfl (Is [46]) B _ _ _ _ _ _ _ _ rfl _ rfl rfl (cells1 46) hst (by omega) ?_)
          intro m6 v6 w6 hm6 hst
          obtain rfl := hm6
          replace hst := hst.cast (K' := (3 + 3 * a + 3)) (l' := ([45] ++ (D.take a ++ [46]))) (by omega) (by simp)
          go_wp2
          go_loopw [0, 240] (fun d i wr => i = .int .i64 0 ∧ St w B ((3 + 3 * a + 3)) wr d (([45] ++ (D.take a ++ [46])))) (fun _ _ _ => 0)
          case atStart => exact ⟨rfl, hst.cast (by omega) (by simp)⟩
          case round =>
            obtain ⟨rfl, hst⟩ := hrel
            go_wp2
            go_loopw [0, 247] (fun d i wr => ∃ k : Nat, k ≤ r ∧ i = .int .i64 (k : Int) ∧ St w B ((3 + 3 * a + 3) + 3 * k) wr d (([45] ++ (D.take a ++ [46])) ++ (D.drop a).take k)) (fun _ i _ => r - (intOf i).toNat)
            case atStart => exact ⟨0, by omega, rfl, hst.cast (by omega) (by simp)⟩
            case round =>
              obtain ⟨k, hk, rfl, hst⟩ := hrel
              by_cases hlt : k < r
              · have gk := dig_at (hst.dig HD.out) (a + k) (by have := HL.out; omega)
                obtain ⟨ck, hck⟩ : ∃ ck, D[a + k]'(by have := HL.out; omega) = ck := ⟨_, rfl⟩
                rw [hck] at gk
                have HCK := Lib.hid hck
                clear hck
                go_wp2_with (at_builtin; refine wpList_pushK rfl (.tmp 250) (.tmp 257) rfl (Is [ck]) B _ _ _ _ _ _ _ _ rfl _ rfl rfl (cells1 ck) hst (by omega) ?_)
                intro m9 v9 w9 hm9 hst
                obtain rfl := hm9
                go_wp2
                go_roundw
                case rel => exact ⟨k + 1, by omega, by go_num, hst.cast (by omega) (by rw [List.take_add_one, List.getElem?_drop, List.getElem?_eq_getElem (by have := HL.out; omega), HCK.out]; simp)⟩
                case measure => simp [intOf]; omega
              · have hkn : k = r := by omega
                replace hst := hst.cast (K' := (3 + 3 * a + 3) + 3 * (r)) (l' := ([45] ++ (D.take a ++ [46])) ++ (D.drop a).take (r)) (by omega) (by rw [hkn])
                clear hkn
                go_wp2
                go_loopw [0, 261] (fun d i wr => i = .int .i64 0 ∧ St w B ((3 + 3 * a + 3) + 3 * r) wr d (([45] ++ (D.take a ++ [46])) ++ (D.drop a).take r)) (fun _ _ _ => 0)
                case atStart => exact ⟨rfl, hst.cast (by omega) (by simp)⟩
                case round =>
                  obtain ⟨rfl, hst⟩ := hrel
                  go_wp2
                  go_ret
                  exact num_f (sg := [45]) (A := D.take a) (F := 46 :: (D.drop a).take r) hst (by omega) (by simp) (by simp) ⟨HG.out.take a, by intro e; have := congrArg List.length e; rw [List.length_take, HL.out, List.length_nil] at this; omega⟩ (Or.inr ⟨_, rfl, (HG.out.drop a).take r⟩)

set_option maxHeartbeats 4000000 in
set_option maxRecDepth 100000 in
theorem fmtF3 (B b : Nat) (v : Value) (neg : Bool) (nd z : Nat) (dp N prec : Int) (D : List UInt8) (w : World) (hst : St w B 0 w v []) (hnz : 1 ≤ nd + z) (hn : nd ≤ 20) (hz : z ≤ 350) (hl : D.length = nd) (hN : N = (nd : Int)) (hdp : dp = -(z : Int)) (hpr : prec = (nd : Int) + (z : Int))  (hD : DigL w b D) (hG : DG D) :
    Calls Tryd.prog 56 #[v, .bool neg, .slice (some ⟨b, 0, none⟩) 32 32, .int .i64 dp, .int .i64 N, .int .i64 prec, .int .u8 102, .bool true] w fun e w' => OutE B w e w' := by
  subst hN hdp hpr
  have b1 : decide ((0 : Int) < -(z : Int)) = false := decide_eq_false (by omega)
  have b4 : decide ((0 : Int) < (nd : Int) + (z : Int)) = true := decide_eq_true (by omega)
  have q1 : max (0 : Int) (z : Int) = (z : Int) := by omega
  have q2 : min ((nd : Int) + (z : Int)) (z : Int) = (z : Int) := by omega
  have q3 : -(z : Int) + (z : Int) = 0 := by omega
  have q4 : (nd : Int) + (z : Int) - (z : Int) = (nd : Int) := by omega
  have q5 : max (0 : Int) (nd : Int) = (nd : Int) := by omega
  have HD := Lib.hid hD
  have HG := Lib.hid hG
  have HL := Lib.hid hl
  clear hD hG hl
  cases neg
  · go_enter Tryd.func56, Tryd.ntmps56
    go_wp2_with (at_builtin; refine wpList_pushK rfl (.tmp 209) (.tmp 210) rfl (Is [48]) B _ _ _ _ _ _ _ _ rfl _ rfl rfl (cells1 48) hst (by omega) ?_)
    intro m2 v2 w2 hm2 hst
    obtain rfl := hm2
    go_wp2_with (at_builtin; refine wpList_pushK rfl (.tmp 214) (.tmp 215) rfl (Is [46]) B _ _ _ _ _ _ _ _ rfl _ rfl rfl (cells1 46) hst (by omega) ?_)
    intro m6 v6 w6 hm6 hst
    obtain rfl := hm6
    replace hst := hst.cast (K' := (0 + 6)) (l' := ([] ++ [48, 46])) (by omega) (by simp)
    go_wp2
    go_loopw [0, 240] (fun d i wr => ∃ k : Nat, k ≤ z ∧ i = .int .i64 (k : Int) ∧ St w B ((0 + 6) + 3 * k) wr d (([] ++ [48, 46]) ++ List.replicate k 48)) (fun _ i _ => z - (intOf i).toNat)
    case atStart => exact ⟨0, by omega, rfl, hst.cast (by omega) (by simp)⟩
    case round =>
      obtain ⟨k, hk, rfl, hst⟩ := hrel
      by_cases hlt : k < z
      · go_wp2_with (at_builtin; refine wpList_pushK rfl (.tmp 242) (.tmp 243) rfl (Is [48]) B _ _ _ _ _ _ _ _ rfl _ rfl rfl (cells1 48) hst (by omega) ?_)
        intro m9 v9 w9 hm9 hst
        obtain rfl := hm9
        go_wp2
        go_roundw
        case rel => exact ⟨k + 1, by omega, by go_num, hst.cast (by omega) (by simp [List.replicate_succ'])⟩
        case measure => simp [intOf]; omega
      · have hkn : k = z := by omega
        replace hst := hst.cast (K' := (0 + 6) + 3 * z) (l' := ([] ++ [48, 46]) ++ List.replicate (z) 48) (by omega) (by rw [hkn])
        clear hkn
        go_wp2
        go_loopw [0, 247] (fun d i wr => ∃ k : Nat, k ≤ nd ∧ i = .int .i64 (k : Int) ∧ St w B (((0 + 6) + 3 * z) + 3 * k) wr d ((([] ++ [48, 46]) ++ List.replicate z 48) ++ D.take k)) (fun _ i _ => nd - (intOf i).toNat)
        case atStart => exact ⟨0, by omega, rfl, hst.cast (by omega) (by simp)⟩
        case round =>
          obtain ⟨k, hk, rfl, hst⟩ := hrel
          by_cases hlt : k < nd
          · have gk := dig_at (hst.dig HD.out) (k) (by have := HL.out; omega)
            obtain ⟨ck, hck⟩ : ∃ ck, D[k]'(by have := HL.out; omega) = ck := ⟨_, rfl⟩
            rw [hck] at gk
            have HCK := Lib.hid hck
            clear hck
            go_wp2_with (at_builtin; refine wpList_pushK rfl (.tmp 250) (.tmp 257) rfl (Is [ck]) B _ _ _ _ _ _ _ _ rfl _ rfl rfl (cells1 ck) hst (by omega) ?_)
            intro m9 v9 w9 hm9 hst
            obtain rfl := hm9
            go_wp2
            go_roundw
            case rel => exact ⟨k + 1, by omega, by go_num, hst.cast (by omega) (by rw [List.take_add_one, List.getElem?_eq_getElem (by have := HL.out; omega), HCK.out]; simp)⟩
            case measure => simp [intOf]; omega
          · have hkn : k = nd := by omega
            replace hst := hst.cast (K' := ((0 + 6) + 3 * z) + 3 * (nd)) (l' := (([] ++ [48, 46]) ++ List.replicate z 48) ++ D.take (nd)) (by omega) (by rw [hkn])
            clear hkn
            go_wp2
            go_loopw [0, 261] (fun d i wr => i = .int .i64 0 ∧ St w B (((0 + 6) + 3 * z) + 3 * nd) wr d ((([] ++ [48, 46]) ++ List.replicate z 48) ++ D.take nd)) (fun _ _ _ => 0)
            case atStart => exact ⟨rfl, hst.cast (by omega) (by simp)⟩
            case round =>
              obtain ⟨rfl, hst⟩ := hrel
              go_wp2
              go_ret
              exact num_f (sg := []) (A := [48]) (F := 46 :: (List.replicate z 48 ++ D.take nd)) hst (by omega) (by simp) (by simp) ⟨rfl, by simp⟩ (Or.inr ⟨_, rfl, (DG.zeros z).app (HG.out.take nd)⟩)
  · go_enter Tryd.func56, Tryd.ntmps56
    go_wp2_with (at_builtin; refine wpList_pushK rfl (.tmp 179) (.tmp 180) rfl (Is [45]) B _ _ _ _ _ _ _ _ rfl _ rfl rfl (cells1 45) hst (by omega) ?_)
    intro m1 v1 w1 hm1 hst
    obtain rfl := hm1
    go_wp2_with (at_builtin; refine wpList_pushK rfl (.tmp 209) (.tmp 210) rfl (Is [48]) B _ _ _ _ _ _ _ _ rfl _ rfl rfl (cells1 48) hst (by omega) ?_)
    intro m2 v2 w2 hm2 hst
    obtain rfl := hm2
    go_wp2_with (at_builtin; refine wpList_pushK rfl (.tmp 214) (.tmp 215) rfl (Is [46]) B _ _ _ _ _ _ _ _ rfl _ rfl rfl (cells1 46) hst (by omega) ?_)
    intro m6 v6 w6 hm6 hst
    obtain rfl := hm6
    replace hst := hst.cast (K' := (3 + 6)) (l' := ([45] ++ [48, 46])) (by omega) (by simp)
    go_wp2
    go_loopw [0, 240] (fun d i wr => ∃ k : Nat, k ≤ z ∧ i = .int .i64 (k : Int) ∧ St w B ((3 + 6) + 3 * k) wr d (([45] ++ [48, 46]) ++ List.replicate k 48)) (fun _ i _ => z - (intOf i).toNat)
    case atStart => exact ⟨0, by omega, rfl, hst.cast (by omega) (by simp)⟩
    case round =>
      obtain ⟨k, hk, rfl, hst⟩ := hrel
      by_cases hlt : k < z
      · go_wp2_with (at_builtin; refine wpList_pushK rfl (.tmp 242) (.tmp 243) rfl (Is [48]) B _ _ _ _ _ _ _ _ rfl _ rfl rfl (cells1 48) hst (by omega) ?_)
        intro m9 v9 w9 hm9 hst
        obtain rfl := hm9
        go_wp2
        go_roundw
        case rel => exact ⟨k + 1, by omega, by go_num, hst.cast (by omega) (by simp [List.replicate_succ'])⟩
        case measure => simp [intOf]; omega
      · have hkn : k = z := by omega
        replace hst := hst.cast (K' := (3 + 6) + 3 * z) (l' := ([45] ++ [48, 46]) ++ List.replicate (z) 48) (by omega) (by rw [hkn])
        clear hkn
        go_wp2
        go_loopw [0, 247] (fun d i wr => ∃ k : Nat, k ≤ nd ∧ i = .int .i64 (k : Int) ∧ St w B (((3 + 6) + 3 * z) + 3 * k) wr d ((([45] ++ [48, 46]) ++ List.replicate z 48) ++ D.take k)) (fun _ i _ => nd - (intOf i).toNat)
        case atStart => exact ⟨0, by omega, rfl, hst.cast (by omega) (by simp)⟩
        case round =>
          obtain ⟨k, hk, rfl, hst⟩ := hrel
          by_cases hlt : k < nd
          · have gk := dig_at (hst.dig HD.out) (k) (by have := HL.out; omega)
            obtain ⟨ck, hck⟩ : ∃ ck, D[k]'(by have := HL.out; omega) = ck := ⟨_, rfl⟩
            rw [hck] at gk
            have HCK := Lib.hid hck
            clear hck
            go_wp2_with (at_builtin; refine wpList_pushK rfl (.tmp 250) (.tmp 257) rfl (Is [ck]) B _ _ _ _ _ _ _ _ rfl _ rfl rfl (cells1 ck) hst (by omega) ?_)
            intro m9 v9 w9 hm9 hst
            obtain rfl := hm9
            go_wp2
            go_roundw
            case rel => exact ⟨k + 1, by omega, by go_num, hst.cast (by omega) (by rw [List.take_add_one, List.getElem?_eq_getElem (by have := HL.out; omega), HCK.out]; simp)⟩
            case measure => simp [intOf]; omega
          · have hkn : k = nd := by omega
            replace hst := hst.cast (K' := ((3 + 6) + 3 * z) + 3 * (nd)) (l' := (([45] ++ [48, 46]) ++ List.replicate z 48) ++ D.take (nd)) (by omega) (by rw [hkn])
            clear hkn
            go_wp2
            go_loopw [0, 261] (fun d i wr => i = .int .i64 0 ∧ St w B (((3 + 6) + 3 * z) + 3 * nd) wr d ((([45] ++ [48, 46]) ++ List.replicate z 48) ++ D.take nd)) (fun _ _ _ => 0)
            case atStart => exact ⟨rfl, hst.cast (by omega) (by simp)⟩
            case round =>
              obtain ⟨rfl, hst⟩ := hrel
              go_wp2
              go_ret
              exact num_f (sg := [45]) (A := [48]) (F := 46 :: (List.replicate z 48 ++ D.take nd)) hst (by omega) (by simp) (by simp) ⟨rfl, by simp⟩ (Or.inr ⟨_, rfl, (DG.zeros z).app (HG.out.take nd)⟩)
end Go.Proofs.YtegkdlimkgfheaaDoor
