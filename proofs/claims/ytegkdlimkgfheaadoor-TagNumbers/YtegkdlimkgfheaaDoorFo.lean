/-
  Walk of strconv's fmtEFG, the form 'g' where an exponent is told.
-/
import Derived.Test.YtegkdlimkgfheaaDoorFh
namespace Go.Proofs.YtegkdlimkgfheaaDoor
open Go.RowKit

set_option maxHeartbeats 4000000 in
set_option maxRecDepth 100000 in
theorem fmtGE0n (B : Nat) (v sv : Value) (neg : Bool) (E : Int) (hE0 : 5 ≤ E) (hE1 : E ≤ 901) (w : World) (hst : St w B 0 w v []) :
    Calls Tryd.prog 56 #[v, .bool neg, sv, .int .i64 (1 - E), .int .i64 0, .int .i64 0, .int .u8 103, .bool true] w fun e w' => OutE B w e w' := by
  have z1 : (1 : Int) - E - 1 = -E := by omega
  have z2 : decide (-E < 0) = true := decide_eq_true (by omega)
  have y1 : decide (-E < -4) = true := decide_eq_true (by omega)
  have y1' : decide (4 < E) = true := decide_eq_true (by omega)
  have hA : DP [48] := ⟨rfl, by simp⟩
  cases neg
  · go_enter Tryd.func56, Tryd.ntmps56
    go_wp2_with (at_builtin; refine wpList_pushK rfl (.tmp 87) (.tmp 89) rfl (Is [48]) B _ _ _ _ _ _ _ _ rfl _ rfl rfl (cells1 48) hst (by omega) ?_)
    intro m2 v2 w2 hm2 hst
    obtain rfl := hm2
    go_wp2_with (at_builtin; refine wpList_pushK rfl (.tmp 120) (.tmp 122) rfl (Is [101]) B _ _ _ _ _ _ _ _ rfl _ rfl rfl (cells1 101) hst (by omega) ?_)
    intro m3 v3 w3 hm3 hst
    go_wp2_with (first | (at_builtin; refine wpList_pushK rfl (.tmp 132) (.tmp 134) rfl Sgn B _ _ _ _ _ _ _ _ rfl _ rfl rfl sgn43 hst (by omega) ?_) | (at_builtin; refine wpList_pushK rfl (.tmp 132) (.tmp 134) rfl Sgn B _ _ _ _ _ _ _ _ rfl _ rfl rfl sgn45 hst (by omega) ?_))
    all_goals intro m4 v4 w4 hm4 hst
    all_goals go_wp2_with (first | (at_builtin; refine wpList_pushK rfl (.tmp 155) (.tmp 159) rfl DP B _ _ _ _ _ _ _ _ rfl _ rfl rfl (cells2 _ _ (by omega) (by omega) (by omega) (by omega)) hst (by omega) ?_) | (at_builtin; refine wpList_pushK rfl (.tmp 164) (.tmp 173) rfl DP B _ _ _ _ _ _ _ _ rfl _ rfl rfl (cells2 _ _ (by omega) (by omega) (by omega) (by omega)) hst (by omega) ?_) | (at_builtin; refine wpList_pushK rfl (.tmp 136) (.tmp 150) rfl DP B _ _ _ _ _ _ _ _ rfl _ rfl rfl (cells3 _ _ _ (by omega) (by omega) (by omega) (by omega) (by omega) (by omega)) hst (by omega) ?_))
    all_goals intro m5 v5 w5 hm5 hst
    all_goals go_wp2
    all_goals go_ret
    all_goals exact num_e (sg := []) (A := [48]) (F := []) (c := 101) hst (by omega) (by cases hm3; simp) (by simp) hA (Or.inl rfl) (by simp) hm4 hm5
  · go_enter Tryd.func56, Tryd.ntmps56
    go_wp2_with (at_builtin; refine wpList_pushK rfl (.tmp 79) (.tmp 80) rfl (Is [45]) B _ _ _ _ _ _ _ _ rfl _ rfl rfl (cells1 45) hst (by omega) ?_)
    intro m1 v1 w1 hm1 hst
    obtain rfl := hm1
    go_wp2_with (at_builtin; refine wpList_pushK rfl (.tmp 87) (.tmp 89) rfl (Is [48]) B _ _ _ _ _ _ _ _ rfl _ rfl rfl (cells1 48) hst (by omega) ?_)
    intro m2 v2 w2 hm2 hst
    obtain rfl := hm2
    go_wp2_with (at_builtin; refine wpList_pushK rfl (.tmp 120) (.tmp 122) rfl (Is [101]) B _ _ _ _ _ _ _ _ rfl _ rfl rfl (cells1 101) hst (by omega) ?_)
    intro m3 v3 w3 hm3 hst
    go_wp2_with (first | (at_builtin; refine wpList_pushK rfl (.tmp 132) (.tmp 134) rfl Sgn B _ _ _ _ _ _ _ _ rfl _ rfl rfl sgn43 hst (by omega) ?_) | (at_builtin; refine wpList_pushK rfl (.tmp 132) (.tmp 134) rfl Sgn B _ _ _ _ _ _ _ _ rfl _ rfl rfl sgn45 hst (by omega) ?_))
    all_goals intro m4 v4 w4 hm4 hst
    all_goals go_wp2_with (first | (at_builtin; refine wpList_pushK rfl (.tmp 155) (.tmp 159) rfl DP B _ _ _ _ _ _ _ _ rfl _ rfl rfl (cells2 _ _ (by omega) (by omega) (by omega) (by omega)) hst (by omega) ?_) | (at_builtin; refine wpList_pushK rfl (.tmp 164) (.tmp 173) rfl DP B _ _ _ _ _ _ _ _ rfl _ rfl rfl (cells2 _ _ (by omega) (by omega) (by omega) (by omega)) hst (by omega) ?_) | (at_builtin; refine wpList_pushK rfl (.tmp 136) (.tmp 150) rfl DP B _ _ _ _ _ _ _ _ rfl _ rfl rfl (cells3 _ _ _ (by omega) (by omega) (by omega) (by omega) (by omega) (by omega)) hst (by omega) ?_))
    all_goals intro m5 v5 w5 hm5 hst
    all_goals go_wp2
    all_goals go_ret
    all_goals exact num_e (sg := [45]) (A := [48]) (F := []) (c := 101) hst (by omega) (by cases hm3; simp) (by simp) hA (Or.inl rfl) (by simp) hm4 hm5

set_option maxHeartbeats 4000000 in
set_option maxRecDepth 100000 in
theorem fmtGE1n (B b : Nat) (v : Value) (neg : Bool) (E : Int) (hE0 : 5 ≤ E) (hE1 : E ≤ 901) (N prec : Int) (hN : N = 1) (hp : prec = 1) (c0 : UInt8) (w : World) (hst : St w B 0 w v []) (hD : DigL w b [c0]) (hc0 : Tg.dg 10 c0 = true) :
    Calls Tryd.prog 56 #[v, .bool neg, .slice (some ⟨b, 0, none⟩) 32 32, .int .i64 (1 - E), .int .i64 N, .int .i64 prec, .int .u8 103, .bool true] w fun e w' => OutE B w e w' := by
  subst hN hp
  have z1 : (1 : Int) - E - 1 = -E := by omega
  have z2 : decide (-E < 0) = true := decide_eq_true (by omega)
  have y1 : decide (-E < -4) = true := decide_eq_true (by omega)
  have y1' : decide (4 < E) = true := decide_eq_true (by omega)
  have hA : DP [c0] := ⟨by simp [DG, hc0], by simp⟩
  have HD := Lib.hid hD
  have g0 : w.cell? ⟨b, 0, none⟩ = some (.int .u8 (c0.toNat : Int)) := hD.2 0 c0 rfl
  clear hD hc0
  cases neg
  · go_enter Tryd.func56, Tryd.ntmps56
    go_wp2_with (at_builtin; refine wpList_pushK rfl (.tmp 87) (.tmp 89) rfl (Is [c0]) B _ _ _ _ _ _ _ _ rfl _ rfl rfl (cells1 c0) hst (by omega) ?_)
    intro m2 v2 w2 hm2 hst
    obtain rfl := hm2
    go_wp2_with (at_builtin; refine wpList_pushK rfl (.tmp 120) (.tmp 122) rfl (Is [101]) B _ _ _ _ _ _ _ _ rfl _ rfl rfl (cells1 101) hst (by omega) ?_)
    intro m3 v3 w3 hm3 hst
    go_wp2_with (first | (at_builtin; refine wpList_pushK rfl (.tmp 132) (.tmp 134) rfl Sgn B _ _ _ _ _ _ _ _ rfl _ rfl rfl sgn43 hst (by omega) ?_) | (at_builtin; refine wpList_pushK rfl (.tmp 132) (.tmp 134) rfl Sgn B _ _ _ _ _ _ _ _ rfl _ rfl rfl sgn45 hst (by omega) ?_))
    all_goals intro m4 v4 w4 hm4 hst
    all_goals go_wp2_with (first | (at_builtin; refine wpList_pushK rfl (.tmp 155) (.tmp 159) rfl DP B _ _ _ _ _ _ _ _ rfl _ rfl rfl (cells2 _ _ (by omega) (by omega) (by omega) (by omega)) hst (by omega) ?_) | (at_builtin; refine wpList_pushK rfl (.tmp 164) (.tmp 173) rfl DP B _ _ _ _ _ _ _ _ rfl _ rfl rfl (cells2 _ _ (by omega) (by omega) (by omega) (by omega)) hst (by omega) ?_) | (at_builtin; refine wpList_pushK rfl (.tmp 136) (.tmp 150) rfl DP B _ _ _ _ _ _ _ _ rfl _ rfl rfl (cells3 _ _ _ (by omega) (by omega) (by omega) (by omega) (by omega) (by omega)) hst (by omega) ?_))
    all_goals intro m5 v5 w5 hm5 hst
    all_goals go_wp2
    all_goals go_ret
    all_goals exact num_e (sg := []) (A := [c0]) (F := []) (c := 101) hst (by omega) (by cases hm3; simp) (by simp) hA (Or.inl rfl) (by simp) hm4 hm5
  · go_enter Tryd.func56, Tryd.ntmps56
    go_wp2_with (at_builtin; refine wpList_pushK rfl (.tmp 79) (.tmp 80) rfl (Is [45]) B _ _ _ _ _ _ _ _ rfl _ rfl rfl (cells1 45) hst (by omega) ?_)
    intro m1 v1 w1 hm1 hst
    obtain rfl := hm1
    have g1 := (hst.dig HD.out).2 0 c0 rfl
    go_wp2_with (at_builtin; refine wpList_pushK rfl (.tmp 87) (.tmp 89) rfl (Is [c0]) B _ _ _ _ _ _ _ _ rfl _ rfl rfl (cells1 c0) hst (by omega) ?_)
    intro m2 v2 w2 hm2 hst
    obtain rfl := hm2
    go_wp2_with (at_builtin; refine wpList_pushK rfl (.tmp 120) (.tmp 122) rfl (Is [101]) B _ _ _ _ _ _ _ _ rfl _ rfl rfl (cells1 101) hst (by omega) ?_)
    intro m3 v3 w3 hm3 hst
    go_wp2_with (first | (at_builtin; refine wpList_pushK rfl (.tmp 132) (.tmp 134) rfl Sgn B _ _ _ _ _ _ _ _ rfl _ rfl rfl sgn43 hst (by omega) ?_) | (at_builtin; refine wpList_pushK rfl (.tmp 132) (.tmp 134) rfl Sgn B _ _ _ _ _ _ _ _ rfl _ rfl rfl sgn45 hst (by omega) ?_))
    all_goals intro m4 v4 w4 hm4 hst
    all_goals go_wp2_with (first | (at_builtin; refine wpList_pushK rfl (.tmp 155) (.tmp 159) rfl DP B _ _ _ _ _ _ _ _ rfl _ rfl rfl (cells2 _ _ (by omega) (by omega) (by omega) (by omega)) hst (by omega) ?_) | (at_builtin; refine wpList_pushK rfl (.tmp 164) (.tmp 173) rfl DP B _ _ _ _ _ _ _ _ rfl _ rfl rfl (cells2 _ _ (by omega) (by omega) (by omega) (by omega)) hst (by omega) ?_) | (at_builtin; refine wpList_pushK rfl (.tmp 136) (.tmp 150) rfl DP B _ _ _ _ _ _ _ _ rfl _ rfl rfl (cells3 _ _ _ (by omega) (by omega) (by omega) (by omega) (by omega) (by omega)) hst (by omega) ?_))
    all_goals intro m5 v5 w5 hm5 hst
    all_goals go_wp2
    all_goals go_ret
    all_goals exact num_e (sg := [45]) (A := [c0]) (F := []) (c := 101) hst (by omega) (by cases hm3; simp) (by simp) hA (Or.inl rfl) (by simp) hm4 hm5

set_option maxHeartbeats 4000000 in
set_option maxRecDepth 100000 in
theorem fmtGE2n (B b : Nat) (v : Value) (neg : Bool) (E : Int) (hE0 : 5 ≤ E) (hE1 : E ≤ 901) (N prec : Int) (c0 : UInt8) (T : List UInt8) (w : World) (hst : St w B 0 w v []) (hT : 1 ≤ T.length) (hT2 : T.length ≤ 19) (hN : N = (T.length : Int) + 1) (hp : prec = (T.length : Int) + 1) (hD : DigL w b (c0 :: T)) (hc0 : DG (c0 :: T)) :
    Calls Tryd.prog 56 #[v, .bool neg, .slice (some ⟨b, 0, none⟩) 32 32, .int .i64 (1 - E), .int .i64 N, .int .i64 prec, .int .u8 103, .bool true] w fun e w' => OutE B w e w' := by
  subst hN hp
  have b1 : decide ((0 : Int) < (T.length : Int)) = true := decide_eq_true (by omega)
  have b1' : decide (0 < T.length) = true := decide_eq_true (by omega)
  have b2 : ((T.length : Int) + 1 == 0) = false := beq_eq_false_iff_ne.2 (by omega)
  have b3 : ((T.length : Int) + 1 != 0) = true := bne_iff_ne.2 (by omega)
  have b4 : decide ((1 : Int) < (T.length : Int) + 1) = true := decide_eq_true (by omega)
  have z1 : (1 : Int) - E - 1 = -E := by omega
  have z2 : decide (-E < 0) = true := decide_eq_true (by omega)
  have y1 : decide (-E < -4) = true := decide_eq_true (by omega)
  have y1' : decide (4 < E) = true := decide_eq_true (by omega)
  have hA : DP [c0] := ⟨by unfold DG at *; simp at hc0 ⊢; exact hc0.1, by simp⟩
  have hY : DG T := by unfold DG at *; simp at hc0 ⊢; exact hc0.2
  have HY := Lib.hid hY
  have HD := Lib.hid hD
  have g0 : w.cell? ⟨b, 0, none⟩ = some (.int .u8 (c0.toNat : Int)) := hD.2 0 c0 rfl
  clear hD hc0 hY
  cases neg
  · go_enter Tryd.func56, Tryd.ntmps56
    go_wp2_with (at_builtin; refine wpList_pushK rfl (.tmp 87) (.tmp 89) rfl (Is [c0]) B _ _ _ _ _ _ _ _ rfl _ rfl rfl (cells1 c0) hst (by omega) ?_)
    intro m2 v2 w2 hm2 hst
    obtain rfl := hm2
    go_wp2_with (at_builtin; refine wpList_pushK rfl (.tmp 93) (.tmp 94) rfl (Is [46]) B _ _ _ _ _ _ _ _ rfl _ rfl rfl (cells1 46) hst (by omega) ?_)
    intro m6 v6 w6 hm6 hst
    obtain rfl := hm6
    go_wp2_with (at_builtin; refine wpList_pushKS rfl (.tmp 103) (.tmp 107) rfl B _ _ _ _ T _ _ _ _ rfl rfl (tail_cells (hst.dig HD.out)) rfl (by omega) hst (by omega) ?_)
    intro v7 w7 hst
    go_wp2
    go_loopw [0, 114] (fun d i wr => d = v7 ∧ i = .int .i64 0 ∧ wr = w7) (fun _ _ _ => 0)
    case atStart => exact ⟨rfl, rfl, rfl⟩
    case round =>
      obtain ⟨rfl, rfl, rfl⟩ := hrel
      go_wp2_with (at_builtin; refine wpList_pushK rfl (.tmp 120) (.tmp 122) rfl (Is [101]) B _ _ _ _ _ _ _ _ rfl _ rfl rfl (cells1 101) hst (by omega) ?_)
      intro m3 v3 w3 hm3 hst
      go_wp2_with (first | (at_builtin; refine wpList_pushK rfl (.tmp 132) (.tmp 134) rfl Sgn B _ _ _ _ _ _ _ _ rfl _ rfl rfl sgn43 hst (by omega) ?_) | (at_builtin; refine wpList_pushK rfl (.tmp 132) (.tmp 134) rfl Sgn B _ _ _ _ _ _ _ _ rfl _ rfl rfl sgn45 hst (by omega) ?_))
      all_goals intro m4 v4 w4 hm4 hst
      all_goals go_wp2_with (first | (at_builtin; refine wpList_pushK rfl (.tmp 155) (.tmp 159) rfl DP B _ _ _ _ _ _ _ _ rfl _ rfl rfl (cells2 _ _ (by omega) (by omega) (by omega) (by omega)) hst (by omega) ?_) | (at_builtin; refine wpList_pushK rfl (.tmp 164) (.tmp 173) rfl DP B _ _ _ _ _ _ _ _ rfl _ rfl rfl (cells2 _ _ (by omega) (by omega) (by omega) (by omega)) hst (by omega) ?_) | (at_builtin; refine wpList_pushK rfl (.tmp 136) (.tmp 150) rfl DP B _ _ _ _ _ _ _ _ rfl _ rfl rfl (cells3 _ _ _ (by omega) (by omega) (by omega) (by omega) (by omega) (by omega)) hst (by omega) ?_))
      all_goals intro m5 v5 w5 hm5 hst
      all_goals go_wp2
      all_goals go_ret
      all_goals exact num_e (sg := []) (A := [c0]) (F := (46 :: T)) (c := 101) hst (by omega) (by cases hm3; simp) (by simp) hA (Or.inr ⟨T, rfl, HY.out⟩) (by simp) hm4 hm5
  · go_enter Tryd.func56, Tryd.ntmps56
    go_wp2_with (at_builtin; refine wpList_pushK rfl (.tmp 79) (.tmp 80) rfl (Is [45]) B _ _ _ _ _ _ _ _ rfl _ rfl rfl (cells1 45) hst (by omega) ?_)
    intro m1 v1 w1 hm1 hst
    obtain rfl := hm1
    have g1 := (hst.dig HD.out).2 0 c0 rfl
    go_wp2_with (at_builtin; refine wpList_pushK rfl (.tmp 87) (.tmp 89) rfl (Is [c0]) B _ _ _ _ _ _ _ _ rfl _ rfl rfl (cells1 c0) hst (by omega) ?_)
    intro m2 v2 w2 hm2 hst
    obtain rfl := hm2
    go_wp2_with (at_builtin; refine wpList_pushK rfl (.tmp 93) (.tmp 94) rfl (Is [46]) B _ _ _ _ _ _ _ _ rfl _ rfl rfl (cells1 46) hst (by omega) ?_)
    intro m6 v6 w6 hm6 hst
    obtain rfl := hm6
    go_wp2_with (at_builtin; refine wpList_pushKS rfl (.tmp 103) (.tmp 107) rfl B _ _ _ _ T _ _ _ _ rfl rfl (tail_cells (hst.dig HD.out)) rfl (by omega) hst (by omega) ?_)
    intro v7 w7 hst
    go_wp2
    go_loopw [0, 114] (fun d i wr => d = v7 ∧ i = .int .i64 0 ∧ wr = w7) (fun _ _ _ => 0)
    case atStart => exact ⟨rfl, rfl, rfl⟩
    case round =>
      obtain ⟨rfl, rfl, rfl⟩ := hrel
      go_wp2_with (at_builtin; refine wpList_pushK rfl (.tmp 120) (.tmp 122) rfl (Is [101]) B _ _ _ _ _ _ _ _ rfl _ rfl rfl (cells1 101) hst (by omega) ?_)
      intro m3 v3 w3 hm3 hst
      go_wp2_with (first | (at_builtin; refine wpList_pushK rfl (.tmp 132) (.tmp 134) rfl Sgn B _ _ _ _ _ _ _ _ rfl _ rfl rfl sgn43 hst (by omega) ?_) | (at_builtin; refine wpList_pushK rfl (.tmp 132) (.tmp 134) rfl Sgn B _ _ _ _ _ _ _ _ rfl _ rfl rfl sgn45 hst (by omega) ?_))
      all_goals intro m4 v4 w4 hm4 hst
      all_goals go_wp2_with (first | (at_builtin; refine wpList_pushK rfl (.tmp 155) (.tmp 159) rfl DP B _ _ _ _ _ _ _ _ rfl _ rfl rfl (cells2 _ _ (by omega) (by omega) (by omega) (by omega)) hst (by omega) ?_) | (at_builtin; refine wpList_pushK rfl (.tmp 164) (.tmp 173) rfl DP B _ _ _ _ _ _ _ _ rfl _ rfl rfl (cells2 _ _ (by omega) (by omega) (by omega) (by omega)) hst (by omega) ?_) | (at_builtin; refine wpList_pushK rfl (.tmp 136) (.tmp 150) rfl DP B _ _ _ _ _ _ _ _ rfl _ rfl rfl (cells3 _ _ _ (by omega) (by omega) (by omega) (by omega) (by omega) (by omega)) hst (by omega) ?_))
      all_goals intro m5 v5 w5 hm5 hst
      all_goals go_wp2
      all_goals go_ret
      all_goals exact num_e (sg := [45]) (A := [c0]) (F := (46 :: T)) (c := 101) hst (by omega) (by cases hm3; simp) (by simp) hA (Or.inr ⟨T, rfl, HY.out⟩) (by simp) hm4 hm5

set_option maxHeartbeats 4000000 in
set_option maxRecDepth 100000 in
theorem fmtGE0p (B : Nat) (v sv : Value) (neg : Bool) (dp : Int) (hd0 : 7 ≤ dp) (hd1 : dp ≤ 900) (w : World) (hst : St w B 0 w v []) :
    Calls Tryd.prog 56 #[v, .bool neg, sv, .int .i64 dp, .int .i64 0, .int .i64 0, .int .u8 103, .bool true] w fun e w' => OutE B w e w' := by
  have z2 : decide (dp - 1 < 0) = false := decide_eq_false (by omega)
  have y1 : decide (dp - 1 < -4) = false := decide_eq_false (by omega)
  have y2 : decide ((6 : Int) ≤ dp - 1) = true := decide_eq_true (by omega)
  have hA : DP [48] := ⟨rfl, by simp⟩
  cases neg
  · go_enter Tryd.func56, Tryd.ntmps56
    go_wp2_with (at_builtin; refine wpList_pushK rfl (.tmp 87) (.tmp 89) rfl (Is [48]) B _ _ _ _ _ _ _ _ rfl _ rfl rfl (cells1 48) hst (by omega) ?_)
    intro m2 v2 w2 hm2 hst
    obtain rfl := hm2
    go_wp2_with (at_builtin; refine wpList_pushK rfl (.tmp 120) (.tmp 122) rfl (Is [101]) B _ _ _ _ _ _ _ _ rfl _ rfl rfl (cells1 101) hst (by omega) ?_)
    intro m3 v3 w3 hm3 hst
    go_wp2_with (first | (at_builtin; refine wpList_pushK rfl (.tmp 132) (.tmp 134) rfl Sgn B _ _ _ _ _ _ _ _ rfl _ rfl rfl sgn43 hst (by omega) ?_) | (at_builtin; refine wpList_pushK rfl (.tmp 132) (.tmp 134) rfl Sgn B _ _ _ _ _ _ _ _ rfl _ rfl rfl sgn45 hst (by omega) ?_))
    all_goals intro m4 v4 w4 hm4 hst
    all_goals go_wp2_with (first | (at_builtin; refine wpList_pushK rfl (.tmp 155) (.tmp 159) rfl DP B _ _ _ _ _ _ _ _ rfl _ rfl rfl (cells2 _ _ (by omega) (by omega) (by omega) (by omega)) hst (by omega) ?_) | (at_builtin; refine wpList_pushK rfl (.tmp 164) (.tmp 173) rfl DP B _ _ _ _ _ _ _ _ rfl _ rfl rfl (cells2 _ _ (by omega) (by omega) (by omega) (by omega)) hst (by omega) ?_) | (at_builtin; refine wpList_pushK rfl (.tmp 136) (.tmp 150) rfl DP B _ _ _ _ _ _ _ _ rfl _ rfl rfl (cells3 _ _ _ (by omega) (by omega) (by omega) (by omega) (by omega) (by omega)) hst (by omega) ?_))
    all_goals intro m5 v5 w5 hm5 hst
    all_goals go_wp2
    all_goals go_ret
    all_goals exact num_e (sg := []) (A := [48]) (F := []) (c := 101) hst (by omega) (by cases hm3; simp) (by simp) hA (Or.inl rfl) (by simp) hm4 hm5
  · go_enter Tryd.func56, Tryd.ntmps56
    go_wp2_with (at_builtin; refine wpList_pushK rfl (.tmp 79) (.tmp 80) rfl (Is [45]) B _ _ _ _ _ _ _ _ rfl _ rfl rfl (cells1 45) hst (by omega) ?_)
    intro m1 v1 w1 hm1 hst
    obtain rfl := hm1
    go_wp2_with (at_builtin; refine wpList_pushK rfl (.tmp 87) (.tmp 89) rfl (Is [48]) B _ _ _ _ _ _ _ _ rfl _ rfl rfl (cells1 48) hst (by omega) ?_)
    intro m2 v2 w2 hm2 hst
    obtain rfl := hm2
    go_wp2_with (at_builtin; refine wpList_pushK rfl (.tmp 120) (.tmp 122) rfl (Is [101]) B _ _ _ _ _ _ _ _ rfl _ rfl rfl (cells1 101) hst (by omega) ?_)
    intro m3 v3 w3 hm3 hst
    go_wp2_with (first | (at_builtin; refine wpList_pushK rfl (.tmp 132) (.tmp 134) rfl Sgn B _ _ _ _ _ _ _ _ rfl _ rfl rfl sgn43 hst (by omega) ?_) | (at_builtin; refine wpList_pushK rfl (.tmp 132) (.tmp 134) rfl Sgn B _ _ _ _ _ _ _ _ rfl _ rfl rfl sgn45 hst (by omega) ?_))
    all_goals intro m4 v4 w4 hm4 hst
    all_goals go_wp2_with (first | (at_builtin; refine wpList_pushK rfl (.tmp 155) (.tmp 159) rfl DP B _ _ _ _ _ _ _ _ rfl _ rfl rfl (cells2 _ _ (by omega) (by omega) (by omega) (by omega)) hst (by omega) ?_) | (at_builtin; refine wpList_pushK rfl (.tmp 164) (.tmp 173) rfl DP B _ _ _ _ _ _ _ _ rfl _ rfl rfl (cells2 _ _ (by omega) (by omega) (by omega) (by omega)) hst (by omega) ?_) | (at_builtin; refine wpList_pushK rfl (.tmp 136) (.tmp 150) rfl DP B _ _ _ _ _ _ _ _ rfl _ rfl rfl (cells3 _ _ _ (by omega) (by omega) (by omega) (by omega) (by omega) (by omega)) hst (by omega) ?_))
    all_goals intro m5 v5 w5 hm5 hst
    all_goals go_wp2
    all_goals go_ret
    all_goals exact num_e (sg := [45]) (A := [48]) (F := []) (c := 101) hst (by omega) (by cases hm3; simp) (by simp) hA (Or.inl rfl) (by simp) hm4 hm5

set_option maxHeartbeats 4000000 in
set_option maxRecDepth 100000 in
theorem fmtGE1p (B b : Nat) (v : Value) (neg : Bool) (dp : Int) (hd0 : 7 ≤ dp) (hd1 : dp ≤ 900) (N prec : Int) (hN : N = 1) (hp : prec = 1) (c0 : UInt8) (w : World) (hst : St w B 0 w v []) (hD : DigL w b [c0]) (hc0 : Tg.dg 10 c0 = true) :
    Calls Tryd.prog 56 #[v, .bool neg, .slice (some ⟨b, 0, none⟩) 32 32, .int .i64 dp, .int .i64 N, .int .i64 prec, .int .u8 103, .bool true] w fun e w' => OutE B w e w' := by
  subst hN hp
  have z2 : decide (dp - 1 < 0) = false := decide_eq_false (by omega)
  have y1 : decide (dp - 1 < -4) = false := decide_eq_false (by omega)
  have y2 : decide ((6 : Int) ≤ dp - 1) = true := decide_eq_true (by omega)
  have hA : DP [c0] := ⟨by simp [DG, hc0], by simp⟩
  have HD := Lib.hid hD
  have g0 : w.cell? ⟨b, 0, none⟩ = some (.int .u8 (c0.toNat : Int)) := hD.2 0 c0 rfl
  clear hD hc0
  cases neg
  · go_enter Tryd.func56, Tryd.ntmps56
    go_wp2_with (at_builtin; refine wpList_pushK rfl (.tmp 87) (.tmp 89) rfl (Is [c0]) B _ _ _ _ _ _ _ _ rfl _ rfl rfl (cells1 c0) hst (by omega) ?_)
    intro m2 v2 w2 hm2 hst
    obtain rfl := hm2
    go_wp2_with (at_builtin; refine wpList_pushK rfl (.tmp 120) (.tmp 122) rfl (Is [101]) B _ _ _ _ _ _ _ _ rfl _ rfl rfl (cells1 101) hst (by omega) ?_)
    intro m3 v3 w3 hm3 hst
    go_wp2_with (first | (at_builtin; refine wpList_pushK rfl (.tmp 132) (.tmp 134) rfl Sgn B _ _ _ _ _ _ _ _ rfl _ rfl rfl sgn43 hst (by omega) ?_) | (at_builtin; refine wpList_pushK rfl (.tmp 132) (.tmp 134) rfl Sgn B _ _ _ _ _ _ _ _ rfl _ rfl rfl sgn45 hst (by omega) ?_))
    all_goals intro m4 v4 w4 hm4 hst
    all_goals go_wp2_with (first | (at_builtin; refine wpList_pushK rfl (.tmp 155) (.tmp 159) rfl DP B _ _ _ _ _ _ _ _ rfl _ rfl rfl (cells2 _ _ (by omega) (by omega) (by omega) (by omega)) hst (by omega) ?_) | (at_builtin; refine wpList_pushK rfl (.tmp 164) (.tmp 173) rfl DP B _ _ _ _ _ _ _ _ rfl _ rfl rfl (cells2 _ _ (by omega) (by omega) (by omega) (by omega)) hst (by omega) ?_) | (at_builtin; refine wpList_pushK rfl (.tmp 136) (.tmp 150) rfl DP B _ _ _ _ _ _ _ _ rfl _ rfl rfl (cells3 _ _ _ (by omega) (by omega) (by omega) (by omega) (by omega) (by omega)) hst (by omega) ?_))
    all_goals intro m5 v5 w5 hm5 hst
    all_goals go_wp2
    all_goals go_ret
    all_goals exact num_e (sg := []) (A := [c0]) (F := []) (c := 101) hst (by omega) (by cases hm3; simp) (by simp) hA (Or.inl rfl) (by simp) hm4 hm5
  · go_enter Tryd.func56, Tryd.ntmps56
    go_wp2_with (at_builtin; refine wpList_pushK rfl (.tmp 79) (.tmp 80) rfl (Is [45]) B _ _ _ _ _ _ _ _ rfl _ rfl rfl (cells1 45) hst (by omega) ?_)
    intro m1 v1 w1 hm1 hst
    obtain rfl := hm1
    have g1 := (hst.dig HD.out).2 0 c0 rfl
    go_wp2_with (at_builtin; refine wpList_pushK rfl (.tmp 87) (.tmp 89) rfl (Is [c0]) B _ _ _ _ _ _ _ _ rfl _ rfl rfl (cells1 c0) hst (by omega) ?_)
    intro m2 v2 w2 hm2 hst
    obtain rfl := hm2
    go_wp2_with (at_builtin; refine wpList_pushK rfl (.tmp 120) (.tmp 122) rfl (Is [101]) B _ _ _ _ _ _ _ _ rfl _ rfl rfl (cells1 101) hst (by omega) ?_)
    intro m3 v3 w3 hm3 hst
    go_wp2_with (first | (at_builtin; refine wpList_pushK rfl (.tmp 132) (.tmp 134) rfl Sgn B _ _ _ _ _ _ _ _ rfl _ rfl rfl sgn43 hst (by omega) ?_) | (at_builtin; refine wpList_pushK rfl (.tmp 132) (.tmp 134) rfl Sgn B _ _ _ _ _ _ _ _ rfl _ rfl rfl sgn45 hst (by omega) ?_))
    all_goals intro m4 v4 w4 hm4 hst
    all_goals go_wp2_with (first | (at_builtin; refine wpList_pushK rfl (.tmp 155) (.tmp 159) rfl DP B _ _ _ _ _ _ _ _ rfl _ rfl rfl (cells2 _ _ (by omega) (by omega) (by omega) (by omega)) hst (by omega) ?_) | (at_builtin; refine wpList_pushK rfl (.tmp 164) (.tmp 173) rfl DP B _ _ _ _ _ _ _ _ rfl _ rfl rfl (cells2 _ _ (by omega) (by omega) (by omega) (by omega)) hst (by omega) ?_) | (at_builtin; refine wpList_pushK rfl (.tmp 136) (.tmp 150) rfl DP B _ _ _ _ _ _ _ _ rfl _ rfl rfl (cells3 _ _ _ (by omega) (by omega) (by omega) (by omega) (by omega) (by omega)) hst (by omega) ?_))
    all_goals intro m5 v5 w5 hm5 hst
    all_goals go_wp2
    all_goals go_ret
    all_goals exact num_e (sg := [45]) (A := [c0]) (F := []) (c := 101) hst (by omega) (by cases hm3; simp) (by simp) hA (Or.inl rfl) (by simp) hm4 hm5

set_option maxHeartbeats 4000000 in
set_option maxRecDepth 100000 in
theorem fmtGE2p (B b : Nat) (v : Value) (neg : Bool) (dp : Int) (hd0 : 7 ≤ dp) (hd1 : dp ≤ 900) (N prec : Int) (c0 : UInt8) (T : List UInt8) (w : World) (hst : St w B 0 w v []) (hT : 1 ≤ T.length) (hT2 : T.length ≤ 19) (hN : N = (T.length : Int) + 1) (hp : prec = (T.length : Int) + 1) (hD : DigL w b (c0 :: T)) (hc0 : DG (c0 :: T)) :
    Calls Tryd.prog 56 #[v, .bool neg, .slice (some ⟨b, 0, none⟩) 32 32, .int .i64 dp, .int .i64 N, .int .i64 prec, .int .u8 103, .bool true] w fun e w' => OutE B w e w' := by
  subst hN hp
  have b1 : decide ((0 : Int) < (T.length : Int)) = true := decide_eq_true (by omega)
  have b1' : decide (0 < T.length) = true := decide_eq_true (by omega)
  have b2 : ((T.length : Int) + 1 == 0) = false := beq_eq_false_iff_ne.2 (by omega)
  have b3 : ((T.length : Int) + 1 != 0) = true := bne_iff_ne.2 (by omega)
  have b4 : decide ((1 : Int) < (T.length : Int) + 1) = true := decide_eq_true (by omega)
  have z2 : decide (dp - 1 < 0) = false := decide_eq_false (by omega)
  have y1 : decide (dp - 1 < -4) = false := decide_eq_false (by omega)
  have y2 : decide ((6 : Int) ≤ dp - 1) = true := decide_eq_true (by omega)
  have hA : DP [c0] := ⟨by unfold DG at *; simp at hc0 ⊢; exact hc0.1, by simp⟩
  have hY : DG T := by unfold DG at *; simp at hc0 ⊢; exact hc0.2
  have HY := Lib.hid hY
  have HD := Lib.hid hD
  have g0 : w.cell? ⟨b, 0, none⟩ = some (.int .u8 (c0.toNat : Int)) := hD.2 0 c0 rfl
  clear hD hc0 hY
  cases neg
  · go_enter Tryd.func56, Tryd.ntmps56
    go_wp2_with (at_builtin; refine wpList_pushK rfl (.tmp 87) (.tmp 89) rfl (Is [c0]) B _ _ _ _ _ _ _ _ rfl _ rfl rfl (cells1 c0) hst (by omega) ?_)
    intro m2 v2 w2 hm2 hst
    obtain rfl := hm2
    go_wp2_with (at_builtin; refine wpList_pushK rfl (.tmp 93) (.tmp 94) rfl (Is [46]) B _ _ _ _ _ _ _ _ rfl _ rfl rfl (cells1 46) hst (by omega) ?_)
    intro m6 v6 w6 hm6 hst
    obtain rfl := hm6
    go_wp2_with (at_builtin; refine wpList_pushKS rfl (.tmp 103) (.tmp 107) rfl B _ _ _ _ T _ _ _ _ rfl rfl (tail_cells (hst.dig HD.out)) rfl (by omega) hst (by omega) ?_)
    intro v7 w7 hst
    go_wp2
    go_loopw [0, 114] (fun d i wr => d = v7 ∧ i = .int .i64 0 ∧ wr = w7) (fun _ _ _ => 0)
    case atStart => exact ⟨rfl, rfl, rfl⟩
    case round =>
      obtain ⟨rfl, rfl, rfl⟩ := hrel
      go_wp2_with (at_builtin; refine wpList_pushK rfl (.tmp 120) (.tmp 122) rfl (Is [101]) B _ _ _ _ _ _ _ _ rfl _ rfl rfl (cells1 101) hst (by omega) ?_)
      intro m3 v3 w3 hm3 hst
      go_wp2_with (first | (at_builtin; refine wpList_pushK rfl (.tmp 132) (.tmp 134) rfl Sgn B _ _ _ _ _ _ _ _ rfl _ rfl rfl sgn43 hst (by omega) ?_) | (at_builtin; refine wpList_pushK rfl (.tmp 132) (.tmp 134) rfl Sgn B _ _ _ _ _ _ _ _ rfl _ rfl rfl sgn45 hst (by omega) ?_))
      all_goals intro m4 v4 w4 hm4 hst
      all_goals go_wp2_with (first | (at_builtin; refine wpList_pushK rfl (.tmp 155) (.tmp 159) rfl DP B _ _ _ _ _ _ _ _ rfl _ rfl rfl (cells2 _ _ (by omega) (by omega) (by omega) (by omega)) hst (by omega) ?_) | (at_builtin; refine wpList_pushK rfl (.tmp 164) (.tmp 173) rfl DP B _ _ _ _ _ _ _ _ rfl _ rfl rfl (cells2 _ _ (by omega) (by omega) (by omega) (by omega)) hst (by omega) ?_) | (at_builtin; refine wpList_pushK rfl (.tmp 136) (.tmp 150) rfl DP B _ _ _ _ _ _ _ _ rfl _ rfl rfl (cells3 _ _ _ (by omega) (by omega) (by omega) (by omega) (by omega) (by omega)) hst (by omega) ?_))
      all_goals intro m5 v5 w5 hm5 hst
      all_goals go_wp2
      all_goals go_ret
      all_goals exact num_e (sg := []) (A := [c0]) (F := (46 :: T)) (c := 101) hst (by omega) (by cases hm3; simp) (by simp) hA (Or.inr ⟨T, rfl, HY.out⟩) (by simp) hm4 hm5
  · go_enter Tryd.func56, Tryd.ntmps56
    go_wp2_with (at_builtin; refine wpList_pushK rfl (.tmp 79) (.tmp 80) rfl (Is [45]) B _ _ _ _ _ _ _ _ rfl _ rfl rfl (cells1 45) hst (by omega) ?_)
    intro m1 v1 w1 hm1 hst
    obtain rfl := hm1
    have g1 := (hst.dig HD.out).2 0 c0 rfl
    go_wp2_with (at_builtin; refine wpList_pushK rfl (.tmp 87) (.tmp 89) rfl (Is [c0]) B _ _ _ _ _ _ _ _ rfl _ rfl rfl (cells1 c0) hst (by omega) ?_)
    intro m2 v2 w2 hm2 hst
    obtain rfl := hm2
    go_wp2_with (at_builtin; refine wpList_pushK rfl (.tmp 93) (.tmp 94) rfl (Is [46]) B _ _ _ _ _ _ _ _ rfl _ rfl rfl (cells1 46) hst (by omega) ?_)
    intro m6 v6 w6 hm6 hst
    obtain rfl := hm6
    go_wp2_with (at_builtin; refine wpList_pushKS rfl (.tmp 103) (.tmp 107) rfl B _ _ _ _ T _ _ _ _ rfl rfl (tail_cells (hst.dig HD.out)) rfl (by omega) hst (by omega) ?_)
    intro v7 w7 hst
    go_wp2
    go_loopw [0, 114] (fun d i wr => d = v7 ∧ i = .int .i64 0 ∧ wr = w7) (fun _ _ _ => 0)
    case atStart => exact ⟨rfl, rfl, rfl⟩
    case round =>
      obtain ⟨rfl, rfl, rfl⟩ := hrel
      go_wp2_with (at_builtin; refine wpList_pushK rfl (.tmp 120) (.tmp 122) rfl (Is [101]) B _ _ _ _ _ _ _ _ rfl _ rfl rfl (cells1 101) hst (by omega) ?_)
      intro m3 v3 w3 hm3 hst
      go_wp2_with (first | (at_builtin; refine wpList_pushK rfl (.tmp 132) (.tmp 134) rfl Sgn B _ _ _ _ _ _ _ _ rfl _ rfl rfl sgn43 hst (by omega) ?_) | (at_builtin; refine wpList_pushK rfl (.tmp 132) (.tmp 134) rfl Sgn B _ _ _ _ _ _ _ _ rfl _ rfl rfl sgn45 hst (by omega) ?_))
      all_goals intro m4 v4 w4 hm4 hst
      all_goals go_wp2_with (first | (at_builtin; refine wpList_pushK rfl (.tmp 155) (.tmp 159) rfl DP B _ _ _ _ _ _ _ _ rfl _ rfl rfl (cells2 _ _ (by omega) (by omega) (by omega) (by omega)) hst (by omega) ?_) | (at_builtin; refine wpList_pushK rfl (.tmp 164) (.tmp 173) rfl DP B _ _ _ _ _ _ _ _ rfl _ rfl rfl (cells2 _ _ (by omega) (by omega) (by omega) (by omega)) hst (by omega) ?_) | (at_builtin; refine wpList_pushK rfl (.tmp 136) (.tmp 150) rfl DP B _ _ _ _ _ _ _ _ rfl _ rfl rfl (cells3 _ _ _ (by omega) (by omega) (by omega) (by omega) (by omega) (by omega)) hst (by omega) ?_))
      all_goals intro m5 v5 w5 hm5 hst
      all_goals go_wp2
      all_goals go_ret
      all_goals exact num_e (sg := [45]) (A := [c0]) (F := (46 :: T)) (c := 101) hst (by omega) (by cases hm3; simp) (by simp) hA (Or.inr ⟨T, rfl, HY.out⟩) (by simp) hm4 hm5
end Go.Proofs.YtegkdlimkgfheaaDoor
