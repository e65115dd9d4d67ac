/-
  Walk of strconv's fmtEFG, the form with an exponent, where there are digits.
-/
import Derived.Test.YtegkdlimkgfheaaDoorFg
namespace Go.Proofs.YtegkdlimkgfheaaDoor
open Go.RowKit

theorem add_at (b o j : Nat) : (⟨b, o, none⟩ : Addr).add j = ⟨b, o + j, none⟩ := by unfold Addr.add; split <;> simp_all
theorem St.dig {W w : World} {B K b : Nat} {v : Value} {l D : List UInt8} (h : St W B K w v l) (hd : DigL W b D) : DigL w b D := hd.kept h.2.1
theorem wpList_pushKS {ops : Array Oper} {rest : List Oper} {o : Oper} {a : Act} {Q : Exit → Act → World → Prop} (hgd : o.guard = none) (s x : Operand)
    (ho : o.op = .call { callee := .builtin .append, args := #[s, x], argTypes := #[31, 31] }) (B K : Nat) (W : World) (v : Value) (l m : List UInt8) (w0 : World) (ad : Addr) (n c : Nat)
    (hs : a.eval s = v) (hx : a.eval x = .slice (some ad) n c) (hcells : ∀ j u, (Lib.byteCells m)[j]? = some u → w0.cell? (ad.add j) = some u) (hm : n = m.length) (hm2 : m.length ≤ 40) (hst : St W B K w0 v l) (hK : K ≤ 100000)
    (h : ∀ v' w', St W B (K + 40) w' v' (l ++ m) → wpList Tryd.prog ops Q rest (a.put o.dst v') w') :
    wpList Tryd.prog ops Q (o :: rest) a w0 := by
  obtain ⟨ho1, hk1, hB1, hl1⟩ := hst
  refine wpList_pushS hgd s x ho B v l m w0 ad n c hs hx hcells hm ho1 (by omega) hB1 ?_
  intro v' w' ho' hk' hB'
  exact h v' w' ⟨ho', hk1.trans hk', hB', by rw [List.length_append]; omega⟩
theorem tail_cells {w : World} {b : Nat} {c0 : UInt8} {T : List UInt8} (h : DigL w b (c0 :: T)) : ∀ j u, (Lib.byteCells T)[j]? = some u → w.cell? ((⟨b, 1, none⟩ : Addr).add j) = some u := by
  intro j u hu
  rw [add_at]
  simp only [Lib.byteCells, List.getElem?_map, Option.map_eq_some_iff] at hu
  obtain ⟨c, hc, rfl⟩ := hu
  rw [Nat.add_comm]
  exact h.2 (j + 1) c (by simpa using hc)

set_option maxHeartbeats 4000000 in
set_option maxRecDepth 100000 in
theorem fmtE1n (B b : Nat) (v : Value) (neg : Bool) (E : Int) (hE0 : 0 < E) (hE1 : E ≤ 901) (N prec : Int) (c0 : UInt8) (c : UInt8) (sh : Bool) (w : World) (hst : St w B 0 w v []) (hc : c = 101 ∨ c = 69) (hp : prec ≤ 0) (hN : N ≠ 0) (hD : DigL w b [c0]) (hc0 : Tg.dg 10 c0 = true) :
    Calls Tryd.prog 56 #[v, .bool neg, .slice (some ⟨b, 0, none⟩) 32 32, .int .i64 (1 - E), .int .i64 N, .int .i64 prec, .int .u8 (c.toNat : Int), .bool sh] w fun e w' => OutE B w e w' := by
  have b1 : decide ((0 : Int) < prec) = false := decide_eq_false (by omega)
  have b2 : (N == 0) = false := beq_eq_false_iff_ne.2 hN
  have b3 : (N != 0) = true := bne_iff_ne.2 hN
  have z1 : (1 : Int) - E - 1 = -E := by omega
  have z2 : decide (-E < 0) = true := decide_eq_true (by omega)
  have hA : DP [c0] := ⟨by simp [DG, hc0], by simp⟩
  have HD := Lib.hid hD
  have g0 : w.cell? ⟨b, 0, none⟩ = some (.int .u8 (c0.toNat : Int)) := hD.2 0 c0 rfl
  clear hD hN hc0
  rcases hc with rfl | rfl
  · cases neg
    · go_enter Tryd.func56, Tryd.ntmps56
      go_wp2_with (at_builtin; refine wpList_pushK rfl (.tmp 87) (.tmp 89) rfl (Is [c0]) B _ _ _ _ _ _ _ _ rfl _ rfl rfl (cells1 c0) hst (by omega) ?_)
      intro m2 v2 w2 hm2 hst
      obtain rfl := hm2
      go_wp2_with (at_builtin; refine wpList_pushK rfl (.tmp 120) (.tmp 122) rfl (Is [101]) B _ _ _ _ _ _ _ _ rfl _ rfl rfl (cells1 101) hst (by omega) ?_)
      intro m3 v3 w3 hm3 hst
      go_wp2_with (first | (at_builtin; refine wpList_pushK rfl (.tmp 132) (.tmp 134) rfl Sgn B _ _ _ _ _ _ _ _ rfl _ rfl rfl sgn43 hst (by omega) ?_) | (at_builtin; refine wpList_pushK rfl (.tmp 132) (.tmp 134) rfl Sgn B _ _ _ _ _ _ _ _ rfl _ rfl rfl sgn45 hst (by omega) ?_))
      all_goals intro m4 v4 w4 hm4 hst
      all_goals go_wp2_with (first | (at_builtin; refine wpList_pushK rfl (.tmp 155) (.tmp 159) rfl DP B _ _ _ _ _ _ _ _ rfl _ rfl rfl (cells2 _ _ (by omega) (by omega) (by omega) (by omega)) hst (by omega) ?_) | (at_builtin; refine wpList_pushK rfl (.tmp 164) (.tmp 173) rfl DP B _ _ _ _ _ _ _ _ rfl _ rfl rfl (cells2 _ _ (by omega) (by omega) (by omega) (by omega)) hst (by omega) ?_) | (at_builtin; refine wpList_pushK rfl (.tmp 136) (.tmp 150) rfl DP B _ _ _ _ _ _ _ _ rfl _ rfl rfl (cells3 _ _ _ (by omega) (by omega) (by omega) (by omega) (by omega) (by omega)) hst (by omega) ?_))
      all_goals intro m5 v5 w5 hm5 hst
      all_goals go_wp2
      all_goals go_ret
      all_goals exact num_e (sg := []) (A := [c0]) (F := []) (c := 101) hst (by omega) (by cases hm3; simp) (by simp) hA (Or.inl rfl) (by simp) hm4 hm5
    · go_enter Tryd.func56, Tryd.ntmps56
      go_wp2_with (at_builtin; refine wpList_pushK rfl (.tmp 79) (.tmp 80) rfl (Is [45]) B _ _ _ _ _ _ _ _ rfl _ rfl rfl (cells1 45) hst (by omega) ?_)
      intro m1 v1 w1 hm1 hst
      obtain rfl := hm1
      have g1 := (hst.dig HD.out).2 0 c0 rfl
      go_wp2_with (at_builtin; refine wpList_pushK rfl (.tmp 87) (.tmp 89) rfl (Is [c0]) B _ _ _ _ _ _ _ _ rfl _ rfl rfl (cells1 c0) hst (by omega) ?_)
      intro m2 v2 w2 hm2 hst
      obtain rfl := hm2
      go_wp2_with (at_builtin; refine wpList_pushK rfl (.tmp 120) (.tmp 122) rfl (Is [101]) B _ _ _ _ _ _ _ _ rfl _ rfl rfl (cells1 101) hst (by omega) ?_)
      intro m3 v3 w3 hm3 hst
      go_wp2_with (first | (at_builtin; refine wpList_pushK rfl (.tmp 132) (.tmp 134) rfl Sgn B _ _ _ _ _ _ _ _ rfl _ rfl rfl sgn43 hst (by omega) ?_) | (at_builtin; refine wpList_pushK rfl (.tmp 132) (.tmp 134) rfl Sgn B _ _ _ _ _ _ _ _ rfl _ rfl rfl sgn45 hst (by omega) ?_))
      all_goals intro m4 v4 w4 hm4 hst
      all_goals go_wp2_with (first | (at_builtin; refine wpList_pushK rfl (.tmp 155) (.tmp 159) rfl DP B _ _ _ _ _ _ _ _ rfl _ rfl rfl (cells2 _ _ (by omega) (by omega) (by omega) (by omega)) hst (by omega) ?_) | (at_builtin; refine wpList_pushK rfl (.tmp 164) (.tmp 173) rfl DP B _ _ _ _ _ _ _ _ rfl _ rfl rfl (cells2 _ _ (by omega) (by omega) (by omega) (by omega)) hst (by omega) ?_) | (at_builtin; refine wpList_pushK rfl (.tmp 136) (.tmp 150) rfl DP B _ _ _ _ _ _ _ _ rfl _ rfl rfl (cells3 _ _ _ (by omega) (by omega) (by omega) (by omega) (by omega) (by omega)) hst (by omega) ?_))
      all_goals intro m5 v5 w5 hm5 hst
      all_goals go_wp2
      all_goals go_ret
      all_goals exact num_e (sg := [45]) (A := [c0]) (F := []) (c := 101) hst (by omega) (by cases hm3; simp) (by simp) hA (Or.inl rfl) (by simp) hm4 hm5
  · cases neg
    · go_enter Tryd.func56, Tryd.ntmps56
      go_wp2_with (at_builtin; refine wpList_pushK rfl (.tmp 87) (.tmp 89) rfl (Is [c0]) B _ _ _ _ _ _ _ _ rfl _ rfl rfl (cells1 c0) hst (by omega) ?_)
      intro m2 v2 w2 hm2 hst
      obtain rfl := hm2
      go_wp2_with (at_builtin; refine wpList_pushK rfl (.tmp 120) (.tmp 122) rfl (Is [69]) B _ _ _ _ _ _ _ _ rfl _ rfl rfl (cells1 69) hst (by omega) ?_)
      intro m3 v3 w3 hm3 hst
      go_wp2_with (first | (at_builtin; refine wpList_pushK rfl (.tmp 132) (.tmp 134) rfl Sgn B _ _ _ _ _ _ _ _ rfl _ rfl rfl sgn43 hst (by omega) ?_) | (at_builtin; refine wpList_pushK rfl (.tmp 132) (.tmp 134) rfl Sgn B _ _ _ _ _ _ _ _ rfl _ rfl rfl sgn45 hst (by omega) ?_))
      all_goals intro m4 v4 w4 hm4 hst
      all_goals go_wp2_with (first | (at_builtin; refine wpList_pushK rfl (.tmp 155) (.tmp 159) rfl DP B _ _ _ _ _ _ _ _ rfl _ rfl rfl (cells2 _ _ (by omega) (by omega) (by omega) (by omega)) hst (by omega) ?_) | (at_builtin; refine wpList_pushK rfl (.tmp 164) (.tmp 173) rfl DP B _ _ _ _ _ _ _ _ rfl _ rfl rfl (cells2 _ _ (by omega) (by omega) (by omega) (by omega)) hst (by omega) ?_) | (at_builtin; refine wpList_pushK rfl (.tmp 136) (.tmp 150) rfl DP B _ _ _ _ _ _ _ _ rfl _ rfl rfl (cells3 _ _ _ (by omega) (by omega) (by omega) (by omega) (by omega) (by omega)) hst (by omega) ?_))
      all_goals intro m5 v5 w5 hm5 hst
      all_goals go_wp2
      all_goals go_ret
      all_goals exact num_e (sg := []) (A := [c0]) (F := []) (c := 69) hst (by omega) (by cases hm3; simp) (by simp) hA (Or.inl rfl) (by simp) hm4 hm5
    · go_enter Tryd.func56, Tryd.ntmps56
      go_wp2_with (at_builtin; refine wpList_pushK rfl (.tmp 79) (.tmp 80) rfl (Is [45]) B _ _ _ _ _ _ _ _ rfl _ rfl rfl (cells1 45) hst (by omega) ?_)
      intro m1 v1 w1 hm1 hst
      obtain rfl := hm1
      have g1 := (hst.dig HD.out).2 0 c0 rfl
      go_wp2_with (at_builtin; refine wpList_pushK rfl (.tmp 87) (.tmp 89) rfl (Is [c0]) B _ _ _ _ _ _ _ _ rfl _ rfl rfl (cells1 c0) hst (by omega) ?_)
      intro m2 v2 w2 hm2 hst
      obtain rfl := hm2
      go_wp2_with (at_builtin; refine wpList_pushK rfl (.tmp 120) (.tmp 122) rfl (Is [69]) B _ _ _ _ _ _ _ _ rfl _ rfl rfl (cells1 69) hst (by omega) ?_)
      intro m3 v3 w3 hm3 hst
      go_wp2_with (first | (at_builtin; refine wpList_pushK rfl (.tmp 132) (.tmp 134) rfl Sgn B _ _ _ _ _ _ _ _ rfl _ rfl rfl sgn43 hst (by omega) ?_) | (at_builtin; refine wpList_pushK rfl (.tmp 132) (.tmp 134) rfl Sgn B _ _ _ _ _ _ _ _ rfl _ rfl rfl sgn45 hst (by omega) ?_))
      all_goals intro m4 v4 w4 hm4 hst
      all_goals go_wp2_with (first | (at_builtin; refine wpList_pushK rfl (.tmp 155) (.tmp 159) rfl DP B _ _ _ _ _ _ _ _ rfl _ rfl rfl (cells2 _ _ (by omega) (by omega) (by omega) (by omega)) hst (by omega) ?_) | (at_builtin; refine wpList_pushK rfl (.tmp 164) (.tmp 173) rfl DP B _ _ _ _ _ _ _ _ rfl _ rfl rfl (cells2 _ _ (by omega) (by omega) (by omega) (by omega)) hst (by omega) ?_) | (at_builtin; refine wpList_pushK rfl (.tmp 136) (.tmp 150) rfl DP B _ _ _ _ _ _ _ _ rfl _ rfl rfl (cells3 _ _ _ (by omega) (by omega) (by omega) (by omega) (by omega) (by omega)) hst (by omega) ?_))
      all_goals intro m5 v5 w5 hm5 hst
      all_goals go_wp2
      all_goals go_ret
      all_goals exact num_e (sg := [45]) (A := [c0]) (F := []) (c := 69) hst (by omega) (by cases hm3; simp) (by simp) hA (Or.inl rfl) (by simp) hm4 hm5

set_option maxHeartbeats 4000000 in
set_option maxRecDepth 100000 in
theorem fmtE2n (B b : Nat) (v : Value) (neg : Bool) (E : Int) (hE0 : 0 < E) (hE1 : E ≤ 901) (N prec : Int) (c0 : UInt8) (T : List UInt8) (c : UInt8) (sh : Bool) (w : World) (hst : St w B 0 w v []) (hc : c = 101 ∨ c = 69) (hT : 1 ≤ T.length) (hT2 : T.length ≤ 19) (hN : N = (T.length : Int) + 1) (hp : prec = (T.length : Int)) (hD : DigL w b (c0 :: T)) (hc0 : DG (c0 :: T)) :
    Calls Tryd.prog 56 #[v, .bool neg, .slice (some ⟨b, 0, none⟩) 32 32, .int .i64 (1 - E), .int .i64 N, .int .i64 prec, .int .u8 (c.toNat : Int), .bool sh] w fun e w' => OutE B w e w' := by
  subst hN hp
  have b1 : decide ((0 : Int) < (T.length : Int)) = true := decide_eq_true (by omega)
  have b1' : decide (0 < T.length) = true := decide_eq_true (by omega)
  have b2 : ((T.length : Int) + 1 == 0) = false := beq_eq_false_iff_ne.2 (by omega)
  have b3 : ((T.length : Int) + 1 != 0) = true := bne_iff_ne.2 (by omega)
  have b4 : decide ((1 : Int) < (T.length : Int) + 1) = true := decide_eq_true (by omega)
  have z1 : (1 : Int) - E - 1 = -E := by omega
  have z2 : decide (-E < 0) = true := decide_eq_true (by omega)
  have hA : DP [c0] := ⟨by unfold DG at *; simp at hc0 ⊢; exact hc0.1, by simp⟩
  have hY : DG T := by unfold DG at *; simp at hc0 ⊢; exact hc0.2
  have HY := Lib.hid hY
  have HD := Lib.hid hD
  have g0 : w.cell? ⟨b, 0, none⟩ = some (.int .u8 (c0.toNat : Int)) := hD.2 0 c0 rfl
  clear hD hc0 hY
  rcases hc with rfl | rfl
  · cases neg
    · go_enter Tryd.func56, Tryd.ntmps56
      go_wp2_with (at_builtin; refine wpList_pushK rfl (.tmp 87) (.tmp 89) rfl (Is [c0]) B _ _ _ _ _ _ _ _ rfl _ rfl rfl (cells1 c0) hst (by omega) ?_)
      intro m2 v2 w2 hm2 hst
      obtain rfl := hm2
      go_wp2_with (at_builtin; refine wpList_pushK rfl (.tmp 93) (.tmp 94) rfl (Is [46]) B _ _ _ _ _ _ _ _ rfl _ rfl rfl (cells1 46) hst (by omega) ?_)
      intro m6 v6 w6 hm6 hst
      obtain rfl := hm6
      go_wp2_with (at_builtin; refine wpList_pushKS rfl (.tmp 103) (.tmp 107) rfl B _ _ _ _ T _ _ _ _ rfl rfl (tail_cells (hst.dig HD.out)) rfl (by omega) hst (by omega) ?_)
      intro v7 w7 hst
      go_wp2
      go_loopw [0, 114] (fun d i wr => d = v7 ∧ i = .int .i64 0 ∧ wr = w7) (fun _ _ _ => 0)
      case atStart => exact ⟨rfl, rfl, rfl⟩
      case round =>
        obtain ⟨rfl, rfl, rfl⟩ := hrel
        go_wp2_with (at_builtin; refine wpList_pushK rfl (.tmp 120) (.tmp 122) rfl (Is [101]) B _ _ _ _ _ _ _ _ rfl _ rfl rfl (cells1 101) hst (by omega) ?_)
        intro m3 v3 w3 hm3 hst
        go_wp2_with (first | (at_builtin; refine wpList_pushK rfl (.tmp 132) (.tmp 134) rfl Sgn B _ _ _ _ _ _ _ _ rfl _ rfl rfl sgn43 hst (by omega) ?_) | (at_builtin; refine wpList_pushK rfl (.tmp 132) (.tmp 134) rfl Sgn B _ _ _ _ _ _ _ _ rfl _ rfl rfl sgn45 hst (by omega) ?_))
        all_goals intro m4 v4 w4 hm4 hst
        all_goals go_wp2_with (first | (at_builtin; refine wpList_pushK rfl (.tmp 155) (.tmp 159) rfl DP B _ _ _ _ _ _ _ _ rfl _ rfl rfl (cells2 _ _ (by omega) (by omega) (by omega) (by omega)) hst (by omega) ?_) | (at_builtin; refine wpList_pushK rfl (.tmp 164) (.tmp 173) rfl DP B _ _ _ _ _ _ _ _ rfl _ rfl rfl (cells2 _ _ (by omega) (by omega) (by omega) (by omega)) hst (by omega) ?_) | (at_builtin; refine wpList_pushK rfl (.tmp 136) (.tmp 150) rfl DP B _ _ _ _ _ _ _ _ rfl _ rfl rfl (cells3 _ _ _ (by omega) (by omega) (by omega) (by omega) (by omega) (by omega)) hst (by omega) ?_))
        all_goals intro m5 v5 w5 hm5 hst
        all_goals go_wp2
        all_goals go_ret
        all_goals exact num_e (sg := []) (A := [c0]) (F := (46 :: T)) (c := 101) hst (by omega) (by cases hm3; simp) (by simp) hA (Or.inr ⟨T, rfl, HY.out⟩) (by simp) hm4 hm5
    · go_enter Tryd.func56, Tryd.ntmps56
      go_wp2_with (at_builtin; refine wpList_pushK rfl (.tmp 79) (.tmp 80) rfl (Is [45]) B _ _ _ _ _ _ _ _ rfl _ rfl rfl (cells1 45) hst (by omega) ?_)
      intro m1 v1 w1 hm1 hst
      obtain rfl := hm1
      have g1 := (hst.dig HD.out).2 0 c0 rfl
      go_wp2_with (at_builtin; refine wpList_pushK rfl (.tmp 87) (.tmp 89) rfl (Is [c0]) B _ _ _ _ _ _ _ _ rfl _ rfl rfl (cells1 c0) hst (by omega) ?_)
      intro m2 v2 w2 hm2 hst
      obtain rfl := hm2
      go_wp2_with (at_builtin; refine wpList_pushK rfl (.tmp 93) (.tmp 94) rfl (Is [46]) B _ _ _ _ _ _ _ _ rfl _ rfl rfl (cells1 46) hst (by omega) ?_)
      intro m6 v6 w6 hm6 hst
      obtain rfl := hm6
      go_wp2_with (at_builtin; refine wpList_pushKS rfl (.tmp 103) (.tmp 107) rfl B _ _ _ _ T _ _ _ _ rfl rfl (tail_cells (hst.dig HD.out)) rfl (by omega) hst (by omega) ?_)
      intro v7 w7 hst
      go_wp2
      go_loopw [0, 114] (fun d i wr => d = v7 ∧ i = .int .i64 0 ∧ wr = w7) (fun _ _ _ => 0)
      case atStart => exact ⟨rfl, rfl, rfl⟩
      case round =>
        obtain ⟨rfl, rfl, rfl⟩ := hrel
        go_wp2_with (at_builtin; refine wpList_pushK rfl (.tmp 120) (.tmp 122) rfl (Is [101]) B _ _ _ _ _ _ _ _ rfl _ rfl rfl (cells1 101) hst (by omega) ?_)
        intro m3 v3 w3 hm3 hst
        go_wp2_with (first | (at_builtin; refine wpList_pushK rfl (.tmp 132) (.tmp 134) rfl Sgn B _ _ _ _ _ _ _ _ rfl _ rfl rfl sgn43 hst (by omega) ?_) | (at_builtin; refine wpList_pushK rfl (.tmp 132) (.tmp 134) rfl Sgn B _ _ _ _ _ _ _ _ rfl _ rfl rfl sgn45 hst (by omega) ?_))
        all_goals intro m4 v4 w4 hm4 hst
        all_goals go_wp2_with (first | (at_builtin; refine wpList_pushK rfl (.tmp 155) (.tmp 159) rfl DP B _ _ _ _ _ _ _ _ rfl _ rfl rfl (cells2 _ _ (by omega) (by omega) (by omega) (by omega)) hst (by omega) ?_) | (at_builtin; refine wpList_pushK rfl (.tmp 164) (.tmp 173) rfl DP B _ _ _ _ _ _ _ _ rfl _ rfl rfl (cells2 _ _ (by omega) (by omega) (by omega) (by omega)) hst (by omega) ?_) | (at_builtin; refine wpList_pushK rfl (.tmp 136) (.tmp 150) rfl DP B _ _ _ _ _ _ _ _ rfl _ rfl rfl (cells3 _ _ _ (by omega) (by omega) (by omega) (by omega) (by omega) (by omega)) hst (by omega) ?_))
        all_goals intro m5 v5 w5 hm5 hst
        all_goals go_wp2
        all_goals go_ret
        all_goals exact num_e (sg := [45]) (A := [c0]) (F := (46 :: T)) (c := 101) hst (by omega) (by cases hm3; simp) (by simp) hA (Or.inr ⟨T, rfl, HY.out⟩) (by simp) hm4 hm5
  · cases neg
    · go_enter Tryd.func56, Tryd.ntmps56
      go_wp2_with (at_builtin; refine wpList_pushK rfl (.tmp 87) (.tmp 89) rfl (Is [c0]) B _ _ _ _ _ _ _ _ rfl _ rfl rfl (cells1 c0) hst (by omega) ?_)
      intro m2 v2 w2 hm2 hst
      obtain rfl := hm2
      go_wp2_with (at_builtin; refine wpList_pushK rfl (.tmp 93) (.tmp 94) rfl (Is [46]) B _ _ _ _ _ _ _ _ rfl _ rfl rfl (cells1 46) hst (by omega) ?_)
      intro m6 v6 w6 hm6 hst
      obtain rfl := hm6
      go_wp2_with (at_builtin; refine wpList_pushKS rfl (.tmp 103) (.tmp 107) rfl B _ _ _ _ T _ _ _ _ rfl rfl (tail_cells (hst.dig HD.out)) rfl (by omega) hst (by omega) ?_)
      intro v7 w7 hst
      go_wp2
      go_loopw [0, 114] (fun d i wr => d = v7 ∧ i = .int .i64 0 ∧ wr = w7) (fun _ _ _ => 0)
      case atStart => exact ⟨rfl, rfl, rfl⟩
      case round =>
        obtain ⟨rfl, rfl, rfl⟩ := hrel
        go_wp2_with (at_builtin; refine wpList_pushK rfl (.tmp 120) (.tmp 122) rfl (Is [69]) B _ _ _ _ _ _ _ _ rfl _ rfl rfl (cells1 69) hst (by omega) ?_)
        intro m3 v3 w3 hm3 hst
        go_wp2_with (first | (at_builtin; refine wpList_pushK rfl (.tmp 132) (.tmp 134) rfl Sgn B _ _ _ _ _ _ _ _ rfl _ rfl rfl sgn43 hst (by omega) ?_) | (at_builtin; refine wpList_pushK rfl (.tmp 132) (.tmp 134) rfl Sgn B _ _ _ _ _ _ _ _ rfl _ rfl rfl sgn45 hst (by omega) ?_))
        all_goals intro m4 v4 w4 hm4 hst
        all_goals go_wp2_with (first | (at_builtin; refine wpList_pushK rfl (.tmp 155) (.tmp 159) rfl DP B _ _ _ _ _ _ _ _ rfl _ rfl rfl (cells2 _ _ (by omega) (by omega) (by omega) (by omega)) hst (by omega) ?_) | (at_builtin; refine wpList_pushK rfl (.tmp 164) (.tmp 173) rfl DP B _ _ _ _ _ _ _ _ rfl _ rfl rfl (cells2 _ _ (by omega) (by omega) (by omega) (by omega)) hst (by omega) ?_) | (at_builtin; refine wpList_pushK rfl (.tmp 136) (.tmp 150) rfl DP B _ _ _ _ _ _ _ _ rfl _ rfl rfl (cells3 _ _ _ (by omega) (by omega) (by omega) (by omega) (by omega) (by omega)) hst (by omega) ?_))
        all_goals intro m5 v5 w5 hm5 hst
        all_goals go_wp2
        all_goals go_ret
        all_goals exact num_e (sg := []) (A := [c0]) (F := (46 :: T)) (c := 69) hst (by omega) (by cases hm3; simp) (by simp) hA (Or.inr ⟨T, rfl, HY.out⟩) (by simp) hm4 hm5
    · go_enter Tryd.func56, Tryd.ntmps56
      go_wp2_with (at_builtin; refine wpList_pushK rfl (.tmp 79) (.tmp 80) rfl (Is [45]) B _ _ _ _ _ _ _ _ rfl _ rfl rfl (cells1 45) hst (by omega) ?_)
      intro m1 v1 w1 hm1 hst
      obtain rfl := hm1
      have g1 := (hst.dig HD.out).2 0 c0 rfl
      go_wp2_with (at_builtin; refine wpList_pushK rfl (.tmp 87) (.tmp 89) rfl (Is [c0]) B _ _ _ _ _ _ _ _ rfl _ rfl rfl (cells1 c0) hst (by omega) ?_)
      intro m2 v2 w2 hm2 hst
      obtain rfl := hm2
      go_wp2_with (at_builtin; refine wpList_pushK rfl (.tmp 93) (.tmp 94) rfl (Is [46]) B _ _ _ _ _ _ _ _ rfl _ rfl rfl (cells1 46) hst (by omega) ?_)
      intro m6 v6 w6 hm6 hst
      obtain rfl := hm6
      go_wp2_with (at_builtin; refine wpList_pushKS rfl (.tmp 103) (.tmp 107) rfl B _ _ _ _ T _ _ _ _ rfl rfl (tail_cells (hst.dig HD.out)) rfl (by omega) hst (by omega) ?_)
      intro v7 w7 hst
      go_wp2
      go_loopw [0, 114] (fun d i wr => d = v7 ∧ i = .int .i64 0 ∧ wr = w7) (fun _ _ _ => 0)
      case atStart => exact ⟨rfl, rfl, rfl⟩
      case round =>
        obtain ⟨rfl, rfl, rfl⟩ := hrel
        go_wp2_with (at_builtin; refine wpList_pushK rfl (.tmp 120) (.tmp 122) rfl (Is [69]) B _ _ _ _ _ _ _ _ rfl _ rfl rfl (cells1 69) hst (by omega) ?_)
        intro m3 v3 w3 hm3 hst
        go_wp2_with (first | (at_builtin; refine wpList_pushK rfl (.tmp 132) (.tmp 134) rfl Sgn B _ _ _ _ _ _ _ _ rfl _ rfl rfl sgn43 hst (by omega) ?_) | (at_builtin; refine wpList_pushK rfl (.tmp 132) (.tmp 134) rfl Sgn B _ _ _ _ _ _ _ _ rfl _ rfl rfl sgn45 hst (by omega) ?_))
        all_goals intro m4 v4 w4 hm4 hst
        all_goals go_wp2_with (first | (at_builtin; refine wpList_pushK rfl (.tmp 155) (.tmp 159) rfl DP B _ _ _ _ _ _ _ _ rfl _ rfl rfl (cells2 _ _ (by omega) (by omega) (by omega) (by omega)) hst (by omega) ?_) | (at_builtin; refine wpList_pushK rfl (.tmp 164) (.tmp 173) rfl DP B _ _ _ _ _ _ _ _ rfl _ rfl rfl (cells2 _ _ (by omega) (by omega) (by omega) (by omega)) hst (by omega) ?_) | (at_builtin; refine wpList_pushK rfl (.tmp 136) (.tmp 150) rfl DP B _ _ _ _ _ _ _ _ rfl _ rfl rfl (cells3 _ _ _ (by omega) (by omega) (by omega) (by omega) (by omega) (by omega)) hst (by omega) ?_))
        all_goals intro m5 v5 w5 hm5 hst
        all_goals go_wp2
        all_goals go_ret
        all_goals exact num_e (sg := [45]) (A := [c0]) (F := (46 :: T)) (c := 69) hst (by omega) (by cases hm3; simp) (by simp) hA (Or.inr ⟨T, rfl, HY.out⟩) (by simp) hm4 hm5

set_option maxHeartbeats 4000000 in
set_option maxRecDepth 100000 in
theorem fmtE1p (B b : Nat) (v : Value) (neg : Bool) (dp : Int) (hd0 : 1 ≤ dp) (hd1 : dp ≤ 900) (N prec : Int) (c0 : UInt8) (c : UInt8) (sh : Bool) (w : World) (hst : St w B 0 w v []) (hc : c = 101 ∨ c = 69) (hp : prec ≤ 0) (hN : N ≠ 0) (hD : DigL w b [c0]) (hc0 : Tg.dg 10 c0 = true) :
    Calls Tryd.prog 56 #[v, .bool neg, .slice (some ⟨b, 0, none⟩) 32 32, .int .i64 dp, .int .i64 N, .int .i64 prec, .int .u8 (c.toNat : Int), .bool sh] w fun e w' => OutE B w e w' := by
  have b1 : decide ((0 : Int) < prec) = false := decide_eq_false (by omega)
  have b2 : (N == 0) = false := beq_eq_false_iff_ne.2 hN
  have b3 : (N != 0) = true := bne_iff_ne.2 hN
  have z2 : decide (dp - 1 < 0) = false := decide_eq_false (by omega)
  have hA : DP [c0] := ⟨by simp [DG, hc0], by simp⟩
  have HD := Lib.hid hD
  have g0 : w.cell? ⟨b, 0, none⟩ = some (.int .u8 (c0.toNat : Int)) := hD.2 0 c0 rfl
  clear hD hN hc0
  rcases hc with rfl | rfl
  · cases neg
    · go_enter Tryd.func56, Tryd.ntmps56
      go_wp2_with (at_builtin; refine wpList_pushK rfl (.tmp 87) (.tmp 89) rfl (Is [c0]) B _ _ _ _ _ _ _ _ rfl _ rfl rfl (cells1 c0) hst (by omega) ?_)
      intro m2 v2 w2 hm2 hst
      obtain rfl := hm2
      go_wp2_with (at_builtin; refine wpList_pushK rfl (.tmp 120) (.tmp 122) rfl (Is [101]) B _ _ _ _ _ _ _ _ rfl _ rfl rfl (cells1 101) hst (by omega) ?_)
      intro m3 v3 w3 hm3 hst
      go_wp2_with (first | (at_builtin; refine wpList_pushK rfl (.tmp 132) (.tmp 134) rfl Sgn B _ _ _ _ _ _ _ _ rfl _ rfl rfl sgn43 hst (by omega) ?_) | (at_builtin; refine wpList_pushK rfl (.tmp 132) (.tmp 134) rfl Sgn B _ _ _ _ _ _ _ _ rfl _ rfl rfl sgn45 hst (by omega) ?_))
      all_goals intro m4 v4 w4 hm4 hst
      all_goals go_wp2_with (first | (at_builtin; refine wpList_pushK rfl (.tmp 155) (.tmp 159) rfl DP B _ _ _ _ _ _ _ _ rfl _ rfl rfl (cells2 _ _ (by omega) (by omega) (by omega) (by omega)) hst (by omega) ?_) | (at_builtin; refine wpList_pushK rfl (.tmp 164) (.tmp 173) rfl DP B _ _ _ _ _ _ _ _ rfl _ rfl rfl (cells2 _ _ (by omega) (by omega) (by omega) (by omega)) hst (by omega) ?_) | (at_builtin; refine wpList_pushK rfl (.tmp 136) (.tmp 150) rfl DP B _ _ _ _ _ _ _ _ rfl _ rfl rfl (cells3 _ _ _ (by omega) (by omega) (by omega) (by omega) (by omega) (by omega)) hst (by omega) ?_))
      all_goals intro m5 v5 w5 hm5 hst
      all_goals go_wp2
      all_goals go_ret
      all_goals exact num_e (sg := []) (A := [c0]) (F := []) (c := 101) hst (by omega) (by cases hm3; simp) (by simp) hA (Or.inl rfl) (by simp) hm4 hm5
    · go_enter Tryd.func56, Tryd.ntmps56
      go_wp2_with (at_builtin; refine wpList_pushK rfl (.tmp 79) (.tmp 80) rfl (Is [45]) B _ _ _ _ _ _ _ _ rfl _ rfl rfl (cells1 45) hst (by omega) ?_)
      intro m1 v1 w1 hm1 hst
      obtain rfl := hm1
      have g1 := (hst.dig HD.out).2 0 c0 rfl
      go_wp2_with (at_builtin; refine wpList_pushK rfl (.tmp 87) (.tmp 89) rfl (Is [c0]) B _ _ _ _ _ _ _ _ rfl _ rfl rfl (cells1 c0) hst (by omega) ?_)
      intro m2 v2 w2 hm2 hst
      obtain rfl := hm2
      go_wp2_with (at_builtin; refine wpList_pushK rfl (.tmp 120) (.tmp 122) rfl (Is [101]) B _ _ _ _ _ _ _ _ rfl _ rfl rfl (cells1 101) hst (by omega) ?_)
      intro m3 v3 w3 hm3 hst
      go_wp2_with (first | (at_builtin; refine wpList_pushK rfl (.tmp 132) (.tmp 134) rfl Sgn B _ _ _ _ _ _ _ _ rfl _ rfl rfl sgn43 hst (by omega) ?_) | (at_builtin; refine wpList_pushK rfl (.tmp 132) (.tmp 134) rfl Sgn B _ _ _ _ _ _ _ _ rfl _ rfl rfl sgn45 hst (by omega) ?_))
      all_goals intro m4 v4 w4 hm4 hst
      all_goals go_wp2_with (first | (at_builtin; refine wpList_pushK rfl (.tmp 155) (.tmp 159) rfl DP B _ _ _ _ _ _ _ _ rfl _ rfl rfl (cells2 _ _ (by omega) (by omega) (by omega) (by omega)) hst (by omega) ?_) | (at_builtin; refine wpList_pushK rfl (.tmp 164) (.tmp 173) rfl DP B _ _ _ _ _ _ _ _ rfl _ rfl rfl (cells2 _ _ (by omega) (by omega) (by omega) (by omega)) hst (by omega) ?_) | (at_builtin; refine wpList_pushK rfl (.tmp 136) (.tmp 150) rfl DP B _ _ _ _ _ _ _ _ rfl _ rfl rfl (cells3 _ _ _ (by omega) (by omega) (by omega) (by omega) (by omega) (by omega)) hst (by omega) ?_))
      all_goals intro m5 v5 w5 hm5 hst
      all_goals go_wp2
      all_goals go_ret
      all_goals exact num_e (sg := [45]) (A := [c0]) (F := []) (c := 101) hst (by omega) (by cases hm3; simp) (by simp) hA (Or.inl rfl) (by simp) hm4 hm5
  · cases neg
    · go_enter Tryd.func56, Tryd.ntmps56
      go_wp2_with (at_builtin; refine wpList_pushK rfl (.tmp 87) (.tmp 89) rfl (Is [c0]) B _ _ _ _ _ _ _ _ rfl _ rfl rfl (cells1 c0) hst (by omega) ?_)
      intro m2 v2 w2 hm2 hst
      obtain rfl := hm2
      go_wp2_with (at_builtin; refine wpList_pushK rfl (.tmp 120) (.tmp 122) rfl (Is [69]) B _ _ _ _ _ _ _ _ rfl _ rfl rfl (cells1 69) hst (by omega) ?_)
      intro m3 v3 w3 hm3 hst
      go_wp2_with (first | (at_builtin; refine wpList_pushK rfl (.tmp 132) (.tmp 134) rfl Sgn B _ _ _ _ _ _ _ _ rfl _ rfl rfl sgn43 hst (by omega) ?_) | (at_builtin; refine wpList_pushK rfl (.tmp 132) (.tmp 134) rfl Sgn B _ _ _ _ _ _ _ _ rfl _ rfl rfl sgn45 hst (by omega) ?_))
      all_goals intro m4 v4 w4 hm4 hst
      all_goals go_wp2_with (first | (at_builtin; refine wpList_pushK rfl (.tmp 155) (.tmp 159) rfl DP B _ _ _ _ _ _ _ _ rfl _ rfl rfl (cells2 _ _ (by omega) (by omega) (by omega) (by omega)) hst (by omega) ?_) | (at_builtin; refine wpList_pushK rfl (.tmp 164) (.tmp 173) rfl DP B _ _ _ _ _ _ _ _ rfl _ rfl rfl (cells2 _ _ (by omega) (by omega) (by omega) (by omega)) hst (by omega) ?_) | (at_builtin; refine wpList_pushK rfl (.tmp 136) (.tmp 150) rfl DP B _ _ _ _ _ _ _ _ rfl _ rfl rfl (cells3 _ _ _ (by omega) (by omega) (by omega) (by omega) (by omega) (by omega)) hst (by omega) ?_))
      all_goals intro m5 v5 w5 hm5 hst
      all_goals go_wp2
      all_goals go_ret
      all_goals exact num_e (sg := []) (A := [c0]) (F := []) (c := 69) hst (by omega) (by cases hm3; simp) (by simp) hA (Or.inl rfl) (by simp) hm4 hm5
    · go_enter Tryd.func56, Tryd.ntmps56
      go_wp2_with (at_builtin; refine wpList_pushK rfl (.tmp 79) (.tmp 80) rfl (Is [45]) B _ _ _ _ _ _ _ _ rfl _ rfl rfl (cells1 45) hst (by omega) ?_)
      intro m1 v1 w1 hm1 hst
      obtain rfl := hm1
      have g1 := (hst.dig HD.out).2 0 c0 rfl
      go_wp2_with (at_builtin; refine wpList_pushK rfl (.tmp 87) (.tmp 89) rfl (Is [c0]) B _ _ _ _ _ _ _ _ rfl _ rfl rfl (cells1 c0) hst (by omega) ?_)
      intro m2 v2 w2 hm2 hst
      obtain rfl := hm2
      go_wp2_with (at_builtin; refine wpList_pushK rfl (.tmp 120) (.tmp 122) rfl (Is [69]) B _ _ _ _ _ _ _ _ rfl _ rfl rfl (cells1 69) hst (by omega) ?_)
      intro m3 v3 w3 hm3 hst
      go_wp2_with (first | (at_builtin; refine wpList_pushK rfl (.tmp 132) (.tmp 134) rfl Sgn B _ _ _ _ _ _ _ _ rfl _ rfl rfl sgn43 hst (by omega) ?_) | (at_builtin; refine wpList_pushK rfl (.tmp 132) (.tmp 134) rfl Sgn B _ _ _ _ _ _ _ _ rfl _ rfl rfl sgn45 hst (by omega) ?_))
      all_goals intro m4 v4 w4 hm4 hst
      all_goals go_wp2_with (first | (at_builtin; refine wpList_pushK rfl (.tmp 155) (.tmp 159) rfl DP B _ _ _ _ _ _ _ _ rfl _ rfl rfl (cells2 _ _ (by omega) (by omega) (by omega) (by omega)) hst (by omega) ?_) | (at_builtin; refine wpList_pushK rfl (.tmp 164) (.tmp 173) rfl DP B _ _ _ _ _ _ _ _ rfl _ rfl rfl (cells2 _ _ (by omega) (by omega) (by omega) (by omega)) hst (by omega) ?_) | (at_builtin; refine wpList_pushK rfl (.tmp 136) (.tmp 150) rfl DP B _ _ _ _ _ _ _ _ rfl _ rfl rfl (cells3 _ _ _ (by omega) (by omega) (by omega) (by omega) (by omega) (by omega)) hst (by omega) ?_))
      all_goals intro m5 v5 w5 hm5 hst
      all_goals go_wp2
      all_goals go_ret
      all_goals exact num_e (sg := [45]) (A := [c0]) (F := []) (c := 69) hst (by omega) (by cases hm3; simp) (by simp) hA (Or.inl rfl) (by simp) hm4 hm5

set_option maxHeartbeats 4000000 in
set_option maxRecDepth 100000 in
theorem fmtE2p (B b : Nat) (v : Value) (neg : Bool) (dp : Int) (hd0 : 1 ≤ dp) (hd1 : dp ≤ 900) (N prec : Int) (c0 : UInt8) (T : List UInt8) (c : UInt8) (sh : Bool) (w : World) (hst : St w B 0 w v []) (hc : c = 101 ∨ c = 69) (hT : 1 ≤ T.length) (hT2 : T.length ≤ 19) (hN : N = (T.length : Int) + 1) (hp : prec = (T.length : Int)) (hD : DigL w b (c0 :: T)) (hc0 : DG (c0 :: T)) :
    Calls Tryd.prog 56 #[v, .bool neg, .slice (some ⟨b, 0, none⟩) 32 32, .int .i64 dp, .int .i64 N, .int .i64 prec, .int .u8 (c.toNat : Int), .bool sh] w fun e w' => OutE B w e w' := by
  subst hN hp
  have b1 : decide ((0 : Int) < (T.length : Int)) = true := decide_eq_true (by omega)
  have b1' : decide (0 < T.length) = true := decide_eq_true (by omega)
  have b2 : ((T.length : Int) + 1 == 0) = false := beq_eq_false_iff_ne.2 (by omega)
  have b3 : ((T.length : Int) + 1 != 0) = true := bne_iff_ne.2 (by omega)
  have b4 : decide ((1 : Int) < (T.length : Int) + 1) = true := decide_eq_true (by omega)
  have z2 : decide (dp - 1 < 0) = false := decide_eq_false (by omega)
  have hA : DP [c0] := ⟨by unfold DG at *; simp at hc0 ⊢; exact hc0.1, by simp⟩
  have hY : DG T := by unfold DG at *; simp at hc0 ⊢; exact hc0.2
  have HY := Lib.hid hY
  have HD := Lib.hid hD
  have g0 : w.cell? ⟨b, 0, none⟩ = some (.int .u8 (c0.toNat : Int)) := hD.2 0 c0 rfl
  clear hD hc0 hY
  rcases hc with rfl | rfl
  · cases neg
    · go_enter Tryd.func56, Tryd.ntmps56
      go_wp2_with (at_builtin; refine wpList_pushK rfl (.tmp 87) (.tmp 89) rfl (Is [c0]) B _ _ _ _ _ _ _ _ rfl _ rfl rfl (cells1 c0) hst (by omega) ?_)
      intro m2 v2 w2 hm2 hst
      obtain rfl := hm2
      go_wp2_with (at_builtin; refine wpList_pushK rfl (.tmp 93) (.tmp 94) rfl (Is [46]) B _ _ _ _ _ _ _ _ rfl _ rfl rfl (cells1 46) hst (by omega) ?_)
      intro m6 v6 w6 hm6 hst
      obtain rfl := hm6
      go_wp2_with (at_builtin; refine wpList_pushKS rfl (.tmp 103) (.tmp 107) rfl B _ _ _ _ T _ _ _ _ rfl rfl (tail_cells (hst.dig HD.out)) rfl (by omega) hst (by omega) ?_)
      intro v7 w7 hst
      go_wp2
      go_loopw [0, 114] (fun d i wr => d = v7 ∧ i = .int .i64 0 ∧ wr = w7) (fun _ _ _ => 0)
      case atStart => exact ⟨rfl, rfl, rfl⟩
      case round =>
        obtain ⟨rfl, rfl, rfl⟩ := hrel
        go_wp2_with (at_builtin; refine wpList_pushK rfl (.tmp 120) (.tmp 122) rfl (Is [101]) B _ _ _ _ _ _ _ _ rfl _ rfl rfl (cells1 101) hst (by omega) ?_)
        intro m3 v3 w3 hm3 hst
        go_wp2_with (first | (at_builtin; refine wpList_pushK rfl (.tmp 132) (.tmp 134) rfl Sgn B _ _ _ _ _ _ _ _ rfl _ rfl rfl sgn43 hst (by omega) ?_) | (at_builtin; refine wpList_pushK rfl (.tmp 132) (.tmp 134) rfl Sgn B _ _ _ _ _ _ _ _ rfl _ rfl rfl sgn45 hst (by omega) ?_))
        all_goals intro m4 v4 w4 hm4 hst
        all_goals go_wp2_with (first | (at_builtin; refine wpList_pushK rfl (.tmp 155) (.tmp 159) rfl DP B _ _ _ _ _ _ _ _ rfl _ rfl rfl (cells2 _ _ (by omega) (by omega) (by omega) (by omega)) hst (by omega) ?_) | (at_builtin; refine wpList_pushK rfl (.tmp 164) (.tmp 173) rfl DP B _ _ _ _ _ _ _ _ rfl _ rfl rfl (cells2 _ _ (by omega) (by omega) (by omega) (by omega)) hst (by omega) ?_) | (at_builtin; refine wpList_pushK rfl (.tmp 136) (.tmp 150) rfl DP B _ _ _ _ _ _ _ _ rfl _ rfl rfl (cells3 _ _ _ (by omega) (by omega) (by omega) (by omega) (by omega) (by omega)) hst (by omega) ?_))
        all_goals intro m5 v5 w5 hm5 hst
        all_goals go_wp2
        all_goals go_ret
        all_goals exact num_e (sg := []) (A := [c0]) (F := (46 :: T)) (c := 101) hst (by omega) (by cases hm3; simp) (by simp) hA (Or.inr ⟨T, rfl, HY.out⟩) (by simp) hm4 hm5
    · go_enter Tryd.func56, Tryd.ntmps56
      go_wp2_with (at_builtin; refine wpList_pushK rfl (.tmp 79) (.tmp 80) rfl (Is [45]) B _ _ _ _ _ _ _ _ rfl _ rfl rfl (cells1 45) hst (by omega) ?_)
      intro m1 v1 w1 hm1 hst
      obtain rfl := hm1
      have g1 := (hst.dig HD.out).2 0 c0 rfl
      go_wp2_with (at_builtin; refine wpList_pushK rfl (.tmp 87) (.tmp 89) rfl (Is [c0]) B _ _ _ _ _ _ _ _ rfl _ rfl rfl (cells1 c0) hst (by omega) ?_)
      intro m2 v2 w2 hm2 hst
      obtain rfl := hm2
      go_wp2_with (at_builtin; refine wpList_pushK rfl (.tmp 93) (.tmp 94) rfl (Is [46]) B _ _ _ _ _ _ _ _ rfl _ rfl rfl (cells1 46) hst (by omega) ?_)
      intro m6 v6 w6 hm6 hst
      obtain rfl := hm6
      go_wp2_with (at_builtin; refine wpList_pushKS rfl (.tmp 103) (.tmp 107) rfl B _ _ _ _ T _ _ _ _ rfl rfl (tail_cells (hst.dig HD.out)) rfl (by omega) hst (by omega) ?_)
      intro v7 w7 hst
      go_wp2
      go_loopw [0, 114] (fun d i wr => d = v7 ∧ i = .int .i64 0 ∧ wr = w7) (fun _ _ _ => 0)
      case atStart => exact ⟨rfl, rfl, rfl⟩
      case round =>
        obtain ⟨rfl, rfl, rfl⟩ := hrel
        go_wp2_with (at_builtin; refine wpList_pushK rfl (.tmp 120) (.tmp 122) rfl (Is [101]) B _ _ _ _ _ _ _ _ rfl _ rfl rfl (cells1 101) hst (by omega) ?_)
        intro m3 v3 w3 hm3 hst
        go_wp2_with (first | (at_builtin; refine wpList_pushK rfl (.tmp 132) (.tmp 134) rfl Sgn B _ _ _ _ _ _ _ _ rfl _ rfl rfl sgn43 hst (by omega) ?_) | (at_builtin; refine wpList_pushK rfl (.tmp 132) (.tmp 134) rfl Sgn B _ _ _ _ _ _ _ _ rfl _ rfl rfl sgn45 hst (by omega) ?_))
        all_goals intro m4 v4 w4 hm4 hst
        all_goals go_wp2_with (first | (at_builtin; refine wpList_pushK rfl (.tmp 155) (.tmp 159) rfl DP B _ _ _ _ _ _ _ _ rfl _ rfl rfl (cells2 _ _ (by omega) (by omega) (by omega) (by omega)) hst (by omega) ?_) | (at_builtin; refine wpList_pushK rfl (.tmp 164) (.tmp 173) rfl DP B _ _ _ _ _ _ _ _ rfl _ rfl rfl (cells2 _ _ (by omega) (by omega) (by omega) (by omega)) hst (by omega) ?_) | (at_builtin; refine wpList_pushK rfl (.tmp 136) (.tmp 150) rfl DP B _ _ _ _ _ _ _ _ rfl _ rfl rfl (cells3 _ _ _ (by omega) (by omega) (by omega) (by omega) (by omega) (by omega)) hst (by omega) ?_))
        all_goals intro m5 v5 w5 hm5 hst
        all_goals go_wp2
        all_goals go_ret
        all_goals exact num_e (sg := [45]) (A := [c0]) (F := (46 :: T)) (c := 101) hst (by omega) (by cases hm3; simp) (by simp) hA (Or.inr ⟨T, rfl, HY.out⟩) (by simp) hm4 hm5
  · cases neg
    · go_enter Tryd.func56, Tryd.ntmps56
      go_wp2_with (at_builtin; refine wpList_pushK rfl (.tmp 87) (.tmp 89) rfl (Is [c0]) B _ _ _ _ _ _ _ _ rfl _ rfl rfl (cells1 c0) hst (by omega) ?_)
      intro m2 v2 w2 hm2 hst
      obtain rfl := hm2
      go_wp2_with (at_builtin; refine wpList_pushK rfl (.tmp 93) (.tmp 94) rfl (Is [46]) B _ _ _ _ _ _ _ _ rfl _ rfl rfl (cells1 46) hst (by omega) ?_)
      intro m6 v6 w6 hm6 hst
      obtain rfl := hm6
      go_wp2_with (at_builtin; refine wpList_pushKS rfl (.tmp 103) (.tmp 107) rfl B _ _ _ _ T _ _ _ _ rfl rfl (tail_cells (hst.dig HD.out)) rfl (by omega) hst (by omega) ?_)
      intro v7 w7 hst
      go_wp2
      go_loopw [0, 114] (fun d i wr => d = v7 ∧ i = .int .i64 0 ∧ wr = w7) (fun _ _ _ => 0)
      case atStart => exact ⟨rfl, rfl, rfl⟩
      case round =>
        obtain ⟨rfl, rfl, rfl⟩ := hrel
        go_wp2_with (at_builtin; refine wpList_pushK rfl (.tmp 120) (.tmp 122) rfl (Is [69]) B _ _ _ _ _ _ _ _ rfl _ rfl rfl (cells1 69) hst (by omega) ?_)
        intro m3 v3 w3 hm3 hst
        go_wp2_with (first | (at_builtin; refine wpList_pushK rfl (.tmp 132) (.tmp 134) rfl Sgn B _ _ _ _ _ _ _ _ rfl _ rfl rfl sgn43 hst (by omega) ?_) | (at_builtin; refine wpList_pushK rfl (.tmp 132) (.tmp 134) rfl Sgn B _ _ _ _ _ _ _ _ rfl _ rfl rfl sgn45 hst (by omega) ?_))
        all_goals intro m4 v4 w4 hm4 hst
        all_goals go_wp2_with (first | (at_builtin; refine wpList_pushK rfl (.tmp 155) (.tmp 159) rfl DP B _ _ _ _ _ _ _ _ rfl _ rfl rfl (cells2 _ _ (by omega) (by omega) (by omega) (by omega)) hst (by omega) ?_) | (at_builtin; refine wpList_pushK rfl (.tmp 164) (.tmp 173) rfl DP B _ _ _ _ _ _ _ _ rfl _ rfl rfl (cells2 _ _ (by omega) (by omega) (by omega) (by omega)) hst (by omega) ?_) | (at_builtin; refine wpList_pushK rfl (.tmp 136) (.tmp 150) rfl DP B _ _ _ _ _ _ _ _ rfl _ rfl rfl (cells3 _ _ _ (by omega) (by omega) (by omega) (by omega) (by omega) (by omega)) hst (by omega) ?_))
        all_goals intro m5 v5 w5 hm5 hst
        all_goals go_wp2
        all_goals go_ret
        all_goals exact num_e (sg := []) (A := [c0]) (F := (46 :: T)) (c := 69) hst (by omega) (by cases hm3; simp) (by simp) hA (Or.inr ⟨T, rfl, HY.out⟩) (by simp) hm4 hm5
    · go_enter Tryd.func56, Tryd.ntmps56
      go_wp2_with (at_builtin; refine wpList_pushK rfl (.tmp 79) (.tmp 80) rfl (Is [45]) B _ _ _ _ _ _ _ _ rfl _ rfl rfl (cells1 45) hst (by omega) ?_)
      intro m1 v1 w1 hm1 hst
      obtain rfl := hm1
      have g1 := (hst.dig HD.out).2 0 c0 rfl
      go_wp2_with (at_builtin; refine wpList_pushK rfl (.tmp 87) (.tmp 89) rfl (Is [c0]) B _ _ _ _ _ _ _ _ rfl _ rfl rfl (cells1 c0) hst (by omega) ?_)
      intro m2 v2 w2 hm2 hst
      obtain rfl := hm2
      go_wp2_with (at_builtin; refine wpList_pushK rfl (.tmp 93) (.tmp 94) rfl (Is [46]) B _ _ _ _ _ _ _ _ rfl _ rfl rfl (cells1 46) hst (by omega) ?_)
      intro m6 v6 w6 hm6 hst
      obtain rfl := hm6
      go_wp2_with (at_builtin; refine wpList_pushKS rfl (.tmp 103) (.tmp 107) rfl B _ _ _ _ T _ _ _ _ rfl rfl (tail_cells (hst.dig HD.out)) rfl (by omega) hst (by omega) ?_)
      intro v7 w7 hst
      go_wp2
      go_loopw [0, 114] (fun d i wr => d = v7 ∧ i = .int .i64 0 ∧ wr = w7) (fun _ _ _ => 0)
      case atStart => exact ⟨rfl, rfl, rfl⟩
      case round =>
        obtain ⟨rfl, rfl, rfl⟩ := hrel
        go_wp2_with (at_builtin; refine wpList_pushK rfl (.tmp 120) (.tmp 122) rfl (Is [69]) B _ _ _ _ _ _ _ _ rfl _ rfl rfl (cells1 69) hst (by omega) ?_)
        intro m3 v3 w3 hm3 hst
        go_wp2_with (first | (at_builtin; refine wpList_pushK rfl (.tmp 132) (.tmp 134) rfl Sgn B _ _ _ _ _ _ _ _ rfl _ rfl rfl sgn43 hst (by omega) ?_) | (at_builtin; refine wpList_pushK rfl (.tmp 132) (.tmp 134) rfl Sgn B _ _ _ _ _ _ _ _ rfl _ rfl rfl sgn45 hst (by omega) ?_))
        all_goals intro m4 v4 w4 hm4 hst
        all_goals go_wp2_with (first | (at_builtin; refine wpList_pushK rfl (.tmp 155) (.tmp 159) rfl DP B _ _ _ _ _ _ _ _ rfl _ rfl rfl (cells2 _ _ (by omega) (by omega) (by omega) (by omega)) hst (by omega) ?_) | (at_builtin; refine wpList_pushK rfl (.tmp 164) (.tmp 173) rfl DP B _ _ _ _ _ _ _ _ rfl _ rfl rfl (cells2 _ _ (by omega) (by omega) (by omega) (by omega)) hst (by omega) ?_) | (at_builtin; refine wpList_pushK rfl (.tmp 136) (.tmp 150) rfl DP B _ _ _ _ _ _ _ _ rfl _ rfl rfl (cells3 _ _ _ (by omega) (by omega) (by omega) (by omega) (by omega) (by omega)) hst (by omega) ?_))
        all_goals intro m5 v5 w5 hm5 hst
        all_goals go_wp2
        all_goals go_ret
        all_goals exact num_e (sg := [45]) (A := [c0]) (F := (46 :: T)) (c := 69) hst (by omega) (by cases hm3; simp) (by simp) hA (Or.inr ⟨T, rfl, HY.out⟩) (by simp) hm4 hm5
end Go.Proofs.YtegkdlimkgfheaaDoor
