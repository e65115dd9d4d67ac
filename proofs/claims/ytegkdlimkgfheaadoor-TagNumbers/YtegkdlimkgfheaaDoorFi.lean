/-
  Walk of strconv's fmtEFG, the form without an exponent.
-/
import Derived.Test.YtegkdlimkgfheaaDoorFh
namespace Go.Proofs.YtegkdlimkgfheaaDoor
open Go.RowKit

theorem St.cast {W w : World} {B K K' : Nat} {v : Value} {l l' : List UInt8} (h : St W B K w v l) (hK : K ≤ K') (e : l = l') : St W B K' w v l' := by
  subst e; exact ⟨h.1, h.2.1, h.2.2.1, Nat.le_trans h.2.2.2 hK⟩
theorem num_f {B K : Nat} {W w' : World} {v : Value} {l sg A F : List UInt8} (hst : St W B K w' v l) (hK : K ≤ 2000) (hl : l = sg ++ (A ++ F)) (h1 : sg = [] ∨ sg = [45]) (h2 : DP A) (h3 : F = [] ∨ ∃ Y, F = 46 :: Y ∧ DG Y) : OutE B W (.returned v) w' :=
  ⟨v, l, rfl, hst.1, ⟨sg, A, F, [], by rw [hl]; simp, h1, h2, h3, Or.inl rfl⟩, by have := hst.2.2.2; omega, hst.2.1⟩
theorem DG.zeros (n : Nat) : DG (List.replicate n 48) := by unfold DG; simp; right; decide
theorem DG.take {l : List UInt8} (h : DG l) (n : Nat) : DG (l.take n) := by unfold DG at *; rw [List.all_eq_true] at *; exact fun x hx => h x (List.mem_of_mem_take hx)
theorem DG.drop {l : List UInt8} (h : DG l) (n : Nat) : DG (l.drop n) := by unfold DG at *; rw [List.all_eq_true] at *; exact fun x hx => h x (List.mem_of_mem_drop hx)
theorem dig_at {w : World} {b : Nat} {D : List UInt8} (h : DigL w b D) (k : Nat) (hk : k < D.length) : w.cell? ⟨b, k, none⟩ = some (.int .u8 (D[k].toNat : Int)) := h.2 k _ (List.getElem?_eq_getElem hk)

set_option maxHeartbeats 4000000 in
set_option maxRecDepth 100000 in
theorem fmtF0 (B : Nat) (v sv : Value) (neg : Bool) (dp N prec : Int) (w : World) (hst : St w B 0 w v []) (hp : prec ≤ 0) (hd0 : dp ≤ 0) (hd1 : -900 ≤ dp) (hp2 : -900 ≤ prec) :
    Calls Tryd.prog 56 #[v, .bool neg, sv, .int .i64 dp, .int .i64 N, .int .i64 prec, .int .u8 102, .bool true] w fun e w' => OutE B w e w' := by
  have b1 : decide ((0 : Int) < prec) = false := decide_eq_false (by omega)
  have b2 : decide ((0 : Int) < dp) = false := decide_eq_false (by omega)
  cases neg
  · go_enter Tryd.func56, Tryd.ntmps56
    go_wp2_with (at_builtin; refine wpList_pushK rfl (.tmp 209) (.tmp 210) rfl (Is [48]) B _ _ _ _ _ _ _ _ rfl _ rfl rfl (cells1 48) hst (by omega) ?_)
    intro m2 v2 w2 hm2 hst
    obtain rfl := hm2
    go_wp2
    go_ret
    exact num_f (sg := []) (A := [48]) (F := []) hst (by omega) (by simp) (by simp) ⟨rfl, by simp⟩ (Or.inl rfl)
  · go_enter Tryd.func56, Tryd.ntmps56
    go_wp2_with (at_builtin; refine wpList_pushK rfl (.tmp 179) (.tmp 180) rfl (Is [45]) B _ _ _ _ _ _ _ _ rfl _ rfl rfl (cells1 45) hst (by omega) ?_)
    intro m1 v1 w1 hm1 hst
    obtain rfl := hm1
    go_wp2_with (at_builtin; refine wpList_pushK rfl (.tmp 209) (.tmp 210) rfl (Is [48]) B _ _ _ _ _ _ _ _ rfl _ rfl rfl (cells1 48) hst (by omega) ?_)
    intro m2 v2 w2 hm2 hst
    obtain rfl := hm2
    go_wp2
    go_ret
    exact num_f (sg := [45]) (A := [48]) (F := []) hst (by omega) (by simp) (by simp) ⟨rfl, by simp⟩ (Or.inl rfl)

set_option maxHeartbeats 4000000 in
set_option maxRecDepth 100000 in
theorem fmtG0 (B : Nat) (v sv : Value) (neg : Bool) (w : World) (hst : St w B 0 w v []) :
    Calls Tryd.prog 56 #[v, .bool neg, sv, .int .i64 0, .int .i64 0, .int .i64 (-1), .int .u8 103, .bool true] w fun e w' => OutE B w e w' := by
  cases neg
  · go_enter Tryd.func56, Tryd.ntmps56
    go_wp2_with (at_builtin; refine wpList_pushK rfl (.tmp 209) (.tmp 210) rfl (Is [48]) B _ _ _ _ _ _ _ _ rfl _ rfl rfl (cells1 48) hst (by omega) ?_)
    intro m2 v2 w2 hm2 hst
    obtain rfl := hm2
    go_wp2
    go_ret
    exact num_f (sg := []) (A := [48]) (F := []) hst (by omega) (by simp) (by simp) ⟨rfl, by simp⟩ (Or.inl rfl)
  · go_enter Tryd.func56, Tryd.ntmps56
    go_wp2_with (at_builtin; refine wpList_pushK rfl (.tmp 179) (.tmp 180) rfl (Is [45]) B _ _ _ _ _ _ _ _ rfl _ rfl rfl (cells1 45) hst (by omega) ?_)
    intro m1 v1 w1 hm1 hst
    obtain rfl := hm1
    go_wp2_with (at_builtin; refine wpList_pushK rfl (.tmp 209) (.tmp 210) rfl (Is [48]) B _ _ _ _ _ _ _ _ rfl _ rfl rfl (cells1 48) hst (by omega) ?_)
    intro m2 v2 w2 hm2 hst
    obtain rfl := hm2
    go_wp2
    go_ret
    exact num_f (sg := [45]) (A := [48]) (F := []) hst (by omega) (by simp) (by simp) ⟨rfl, by simp⟩ (Or.inl rfl)

set_option maxHeartbeats 4000000 in
set_option maxRecDepth 100000 in
theorem fmtF1 (B b : Nat) (v : Value) (neg : Bool) (nd z : Nat) (dp N prec : Int) (D : List UInt8) (w : World) (hst : St w B 0 w v []) (hnz : 1 ≤ nd + z) (hn : nd ≤ 20) (hz : z ≤ 350) (hl : D.length = nd) (hN : N = (nd : Int)) (hdp : dp = (nd : Int) + (z : Int)) (hpr : prec = 0)  (hD : DigL w b D) (hG : DG D) :
    Calls Tryd.prog 56 #[v, .bool neg, .slice (some ⟨b, 0, none⟩) 32 32, .int .i64 dp, .int .i64 N, .int .i64 prec, .int .u8 102, .bool true] w fun e w' => OutE B w e w' := by
  subst hN hdp hpr
  have b1 : decide ((0 : Int) < (nd : Int) + (z : Int)) = true := decide_eq_true (by omega)
  have b2 : min (nd : Int) ((nd : Int) + (z : Int)) = (nd : Int) := by omega
  have b3 : (nd : Int) + (z : Int) - (nd : Int) = (z : Int) := by omega
  have HD := Lib.hid hD
  have HG := Lib.hid hG
  have HL := Lib.hid hl
  clear hD hG hl
  cases neg
  · go_enter Tryd.func56, Tryd.ntmps56
    go_wp2
    go_loopw [0, 191] (fun d i wr => ∃ k : Nat, k ≤ nd ∧ i = .int .i64 (k : Int) ∧ St w B (0 + 3 * k) wr d ([] ++ D.take k)) (fun _ i _ => nd - (intOf i).toNat)
    case atStart => exact ⟨0, by omega, rfl, hst.cast (by omega) (by simp)⟩
    case round =>
      obtain ⟨k, hk, rfl, hst⟩ := hrel
      by_cases hlt : k < nd
      · have gk := dig_at (hst.dig HD.out) (k) (by have := HL.out; omega)
        obtain ⟨ck, hck⟩ : ∃ ck, D[k]'(by have := HL.out; omega) = ck := ⟨_, rfl⟩
        rw [hck] at gk
        have HCK := Lib.hid hck
        clear hck
        go_wp2_with (at_builtin; refine wpList_pushK rfl (.tmp 195) (.tmp 197) rfl (Is [ck]) B _ _ _ _ _ _ _ _ rfl _ rfl rfl (cells1 ck) hst (by omega) ?_)
        intro m9 v9 w9 hm9 hst
        obtain rfl := hm9
        go_wp2
        go_roundw
        case rel => exact ⟨k + 1, by omega, by go_num, hst.cast (by omega) (by rw [List.take_add_one, List.getElem?_eq_getElem (by have := HL.out; omega), HCK.out]; simp)⟩
        case measure => simp [intOf]; omega
      · have hkn : k = nd := by omega
        replace hst := hst.cast (K' := 0 + 3 * (nd)) (l' := [] ++ D.take (nd)) (by omega) (by rw [hkn])
        clear hkn
        go_wp2
        go_loopw [0, 203] (fun d i wr => ∃ k : Nat, k ≤ z ∧ i = .int .i64 (k : Int) ∧ St w B ((0 + 3 * nd) + 3 * k) wr d (([] ++ D.take nd) ++ List.replicate k 48)) (fun _ i _ => z - (intOf i).toNat)
        case atStart => exact ⟨0, by omega, rfl, hst.cast (by omega) (by simp)⟩
        case round =>
          obtain ⟨k, hk, rfl, hst⟩ := hrel
          by_cases hlt : k < z
          · go_wp2_with (at_builtin; refine wpList_pushK rfl (.tmp 205) (.tmp 206) rfl (Is [48]) B _ _ _ _ _ _ _ _ rfl _ rfl rfl (cells1 48) hst (by omega) ?_)
            intro m9 v9 w9 hm9 hst
            obtain rfl := hm9
            go_wp2
            go_roundw
            case rel => exact ⟨k + 1, by omega, by go_num, hst.cast (by omega) (by simp [List.replicate_succ'])⟩
            case measure => simp [intOf]; omega
          · have hkn : k = z := by omega
            replace hst := hst.cast (K' := (0 + 3 * nd) + 3 * z) (l' := ([] ++ D.take nd) ++ List.replicate (z) 48) (by omega) (by rw [hkn])
            clear hkn
            go_wp2
            go_ret
            exact num_f (sg := []) (A := D.take nd ++ List.replicate z 48) (F := []) hst (by omega) (by simp) (by simp) ⟨(HG.out.take nd).app (DG.zeros z), by intro e; have := congrArg List.length e; rw [List.length_append, List.length_take, List.length_replicate, HL.out, List.length_nil] at this; omega⟩ (Or.inl rfl)
  · go_enter Tryd.func56, Tryd.ntmps56
    go_wp2_with (at_builtin; refine wpList_pushK rfl (.tmp 179) (.tmp 180) rfl (Is [45]) B _ _ _ _ _ _ _ _ rfl _ rfl rfl (cells1 45) hst (by omega) ?_)
    intro m1 v1 w1 hm1 hst
    obtain rfl := hm1
    go_wp2
    go_loopw [0, 191] (fun d i wr => ∃ k : Nat, k ≤ nd ∧ i = .int .i64 (k : Int) ∧ St w B (3 + 3 * k) wr d ([45] ++ D.take k)) (fun _ i _ => nd - (intOf i).toNat)
    case atStart => exact ⟨0, by omega, rfl, hst.cast (by omega) (by simp)⟩
    case round =>
      obtain ⟨k, hk, rfl, hst⟩ := hrel
      by_cases hlt : k < nd
      · have gk := dig_at (hst.dig HD.out) (k) (by have := HL.out; omega)
        obtain ⟨ck, hck⟩ : ∃ ck, D[k]'(by have := HL.out; omega) = ck := ⟨_, rfl⟩
        rw [hck] at gk
        have HCK := Lib.hid hck
        clear hck
        go_wp2_with (at_builtin; refine wpList_pushK rfl (.tmp 195) (.tmp 197) rfl (Is [ck]) B _ _ _ _ _ _ _ _ rfl _ rfl rfl (cells1 ck) hst (by omega) ?_)
        intro m9 v9 w9 hm9 hst
        obtain rfl := hm9
        go_wp2
        go_roundw
        case rel => exact ⟨k + 1, by omega, by go_num, hst.cast (by omega) (by rw [List.take_add_one, List.getElem?_eq_getElem (by have := HL.out; omega), HCK.out]; simp)⟩
        case measure => simp [intOf]; omega
      · have hkn : k = nd := by omega
        replace hst := hst.cast (K' := 3 + 3 * (nd)) (l' := [45] ++ D.take (nd)) (by omega) (by rw [hkn])
        clear hkn
        go_wp2
        go_loopw [0, 203] (fun d i wr => ∃ k : Nat, k ≤ z ∧ i = .int .i64 (k : Int) ∧ St w B ((3 + 3 * nd) + 3 * k) wr d (([45] ++ D.take nd) ++ List.replicate k 48)) (fun _ i _ => z - (intOf i).toNat)
        case atStart => exact ⟨0, by omega, rfl, hst.cast (by omega) (by simp)⟩
        case round =>
          obtain ⟨k, hk, rfl, hst⟩ := hrel
          by_cases hlt : k < z
          · go_wp2_with (at_builtin; refine wpList_pushK rfl (.tmp 205) (.tmp 206) rfl (Is [48]) B _ _ _ _ _ _ _ _ rfl _ rfl rfl (cells1 48) hst (by omega) ?_)
            intro m9 v9 w9 hm9 hst
            obtain rfl := hm9
            go_wp2
            go_roundw
            case rel => exact ⟨k + 1, by omega, by go_num, hst.cast (by omega) (by simp [List.replicate_succ'])⟩
            case measure => simp [intOf]; omega
          · have hkn : k = z := by omega
            replace hst := hst.cast (K' := (3 + 3 * nd) + 3 * z) (l' := ([45] ++ D.take nd) ++ List.replicate (z) 48) (by omega) (by rw [hkn])
            clear hkn
            go_wp2
            go_ret
            exact num_f (sg := [45]) (A := D.take nd ++ List.replicate z 48) (F := []) hst (by omega) (by simp) (by simp) ⟨(HG.out.take nd).app (DG.zeros z), by intro e; have := congrArg List.length e; rw [List.length_append, List.length_take, List.length_replicate, HL.out, List.length_nil] at this; omega⟩ (Or.inl rfl)
end Go.Proofs.YtegkdlimkgfheaaDoor
