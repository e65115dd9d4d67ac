/-
  Walk of strconv's fmtEFG, the form with an exponent.
-/
import Derived.Test.YtegkdlimkgfheaaDoorFf
namespace Go.Proofs.YtegkdlimkgfheaaDoor
open Go.RowKit

/-- the bytes that were written so far -/
def St (W : World) (B K : Nat) (w : World) (v : Value) (l : List UInt8) : Prop := Own w B v l ∧ Kept B W w ∧ B ≤ w.heap.size ∧ l.length ≤ K
theorem wpList_pushK {ops : Array Oper} {rest : List Oper} {o : Oper} {a : Act} {Q : Exit → Act → World → Prop} (hgd : o.guard = none) (s x : Operand)
    (ho : o.op = .call { callee := .builtin .append, args := #[s, x], argTypes := #[31, 31] }) (P : List UInt8 → Prop) (B K : Nat) (W : World) (v : Value) (l : List UInt8) (w0 : World) (C : Array Value) (n c : Nat)
    (hs : a.eval s = v) (ga : Nat) (hx : a.eval x = .slice (some ⟨ga, 0, none⟩) n c) (hga : ga = w0.heap.size) (hC : ∃ m, C = (Lib.byteCells m).toArray ∧ n = m.length ∧ m.length ≤ 3 ∧ P m) (hst : St W B K w0 v l) (hK : K ≤ 100000)
    (h : ∀ m v' w', P m → St W B (K + 3) w' v' (l ++ m) → wpList Tryd.prog ops Q rest (a.put o.dst v') w') :
    wpList Tryd.prog ops Q (o :: rest) a (w0.alloc (.cells C 5)) := by
  obtain ⟨ho1, hk1, hB1, hl1⟩ := hst
  refine wpList_pushX hgd s x ho P B v l w0 C n c hs ga hx hga hC ho1 (by omega) hB1 ?_
  intro m v' w' hP hm3 ho' hk' hB'
  exact h m v' w' hP ⟨ho', hk1.trans hk', hB', by rw [List.length_append]; omega⟩
/-- digits that lie in a row -/
def DigL (w : World) (b : Nat) (D : List UInt8) : Prop :=
  (∃ cs fz, w.heap[b]? = some (.cells cs 74 fz)) ∧ ∀ (j : Nat) c, D[j]? = some c → w.cell? ⟨b, j, none⟩ = some (.int .u8 (c.toNat : Int))
theorem DigL.kept {w w' : World} {B b : Nat} {D : List UInt8} (h : DigL w b D) (hk : Kept B w w') : DigL w' b D := by
  obtain ⟨⟨cs, fz, hb⟩, hd⟩ := h
  have hb' : w'.heap[b]? = some (.cells cs 74 fz) := hk.2 b _ hb (by simp) (by intro c fz' e; simp at e)
  refine ⟨⟨cs, fz, hb'⟩, fun j c hj => ?_⟩
  have : w'.cell? ⟨b, j, none⟩ = w.cell? ⟨b, j, none⟩ := by simp only [World.cell?, hb, hb']
  rw [this]; exact hd j c hj
theorem Dig.list {w : World} {b : Nat} : ∀ {nd : Nat}, Dig w b nd → ∃ D : List UInt8, D.length = nd ∧ DG D ∧ DigL w b D
  | 0, h => ⟨[], rfl, rfl, h.1, fun j c hj => by simp at hj⟩
  | n + 1, h => by
    obtain ⟨D, hl, hg, hd⟩ := Dig.list (h.le (Nat.le_succ n))
    obtain ⟨c, hc, hcell⟩ := h.2 n (by omega)
    refine ⟨D ++ [c], by simp [hl], hg.app (by simp [DG, hc]), h.1, fun j x hj => ?_⟩
    by_cases hjn : j < D.length
    · rw [List.getElem?_append_left hjn] at hj; exact hd.2 j x hj
    · have hjl : j < (D ++ [c]).length := (List.getElem?_eq_some_iff.1 hj).1
      have : j = n := by simp at hjl; omega
      subst this
      rw [List.getElem?_append_right (by omega), hl] at hj
      simp at hj
      subst hj
      exact hcell
def Sgn (m : List UInt8) : Prop := m = [43] ∨ m = [45]
theorem sgn43 : ∃ m, #[Value.int .u8 43] = (Lib.byteCells m).toArray ∧ 1 = m.length ∧ m.length ≤ 3 ∧ Sgn m := ⟨[43], rfl, rfl, by simp, Or.inl rfl⟩
theorem sgn45 : ∃ m, #[Value.int .u8 45] = (Lib.byteCells m).toArray ∧ 1 = m.length ∧ m.length ≤ 3 ∧ Sgn m := ⟨[45], rfl, rfl, by simp, Or.inr rfl⟩
/-- what fmtEFG answers -/
def OutE (B : Nat) (w : World) (e : Ending) (w' : World) : Prop := ∃ v' out, e = .returned v' ∧ Own w' B v' out ∧ Num out ∧ out.length ≤ 2000 ∧ Kept B w w'
theorem num_e {B K : Nat} {W w' : World} {v : Value} {l sg A F : List UInt8} {c : UInt8} {s Y : List UInt8} (hst : St W B K w' v l) (hK : K ≤ 2000) (hl : l = sg ++ (A ++ (F ++ (c :: (s ++ Y))))) (h1 : sg = [] ∨ sg = [45]) (h2 : DP A) (h3 : F = [] ∨ ∃ Y, F = 46 :: Y ∧ DG Y) (h4 : c = 101 ∨ c = 69) (h5 : Sgn s) (h6 : DP Y) : OutE B W (.returned v) w' := by
  refine ⟨v, l, rfl, hst.1, ⟨sg, A, F, c :: (s ++ Y), hl, h1, h2, h3, Or.inr ?_⟩, by have := hst.2.2.2; omega, hst.2.1⟩
  rcases h5 with rfl | rfl
  · exact ⟨c, 43, Y, rfl, h4, Or.inl rfl, h6⟩
  · exact ⟨c, 45, Y, rfl, h4, Or.inr rfl, h6⟩

set_option maxHeartbeats 4000000 in
set_option maxRecDepth 100000 in
theorem fmtE0 (B : Nat) (v sv : Value) (neg : Bool) (dp prec : Int) (c : UInt8) (sh : Bool) (w : World) (hst : St w B 0 w v []) (hc : c = 101 ∨ c = 69) (hp : prec ≤ 0) (hd0 : -900 ≤ dp) (hd1 : dp ≤ 900) :
    Calls Tryd.prog 56 #[v, .bool neg, sv, .int .i64 dp, .int .i64 0, .int .i64 prec, .int .u8 (c.toNat : Int), .bool sh] w fun e w' => OutE B w e w' := by
  have b1 : decide ((0 : Int) < prec) = false := decide_eq_false (by omega)
  have hA : DP [48] := ⟨rfl, by simp⟩
  rcases hc with rfl | rfl
  · cases neg
    · go_enter Tryd.func56, Tryd.ntmps56
      go_wp2_with (at_builtin; refine wpList_pushK rfl (.tmp 87) (.tmp 89) rfl (Is [48]) B _ _ _ _ _ _ _ _ rfl _ rfl rfl (cells1 48) hst (by omega) ?_)
      intro m2 v2 w2 hm2 hst
      obtain rfl := hm2
      go_wp2_with (at_builtin; refine wpList_pushK rfl (.tmp 120) (.tmp 122) rfl (Is [101]) B _ _ _ _ _ _ _ _ rfl _ rfl rfl (cells1 101) hst (by omega) ?_)
      intro m3 v3 w3 hm3 hst
      go_wp2_with (first | (at_builtin; refine wpList_pushK rfl (.tmp 132) (.tmp 134) rfl Sgn B _ _ _ _ _ _ _ _ rfl _ rfl rfl sgn43 hst (by omega) ?_) | (at_builtin; refine wpList_pushK rfl (.tmp 132) (.tmp 134) rfl Sgn B _ _ _ _ _ _ _ _ rfl _ rfl rfl sgn45 hst (by omega) ?_))
      all_goals intro m4 v4 w4 hm4 hst
      all_goals go_wp2_with (first | (at_builtin; refine wpList_pushK rfl (.tmp 155) (.tmp 159) rfl DP B _ _ _ _ _ _ _ _ rfl _ rfl rfl (cells2 _ _ (by omega) (by omega) (by omega) (by omega)) hst (by omega) ?_) | (at_builtin; refine wpList_pushK rfl (.tmp 164) (.tmp 173) rfl DP B _ _ _ _ _ _ _ _ rfl _ rfl rfl (cells2 _ _ (by omega) (by omega) (by omega) (by omega)) hst (by omega) ?_) | (at_builtin; refine wpList_pushK rfl (.tmp 136) (.tmp 150) rfl DP B _ _ _ _ _ _ _ _ rfl _ rfl rfl (cells3 _ _ _ (by omega) (by omega) (by omega) (by omega) (by omega) (by omega)) hst (by omega) ?_))
      all_goals intro m5 v5 w5 hm5 hst
      all_goals go_wp2
      all_goals go_ret
      all_goals exact num_e (sg := []) (A := [48]) (F := []) (c := 101) hst (by omega) (by cases hm3; simp) (by simp) hA (Or.inl rfl) (by simp) hm4 hm5
    · go_enter Tryd.func56, Tryd.ntmps56
      go_wp2_with (at_builtin; refine wpList_pushK rfl (.tmp 79) (.tmp 80) rfl (Is [45]) B _ _ _ _ _ _ _ _ rfl _ rfl rfl (cells1 45) hst (by omega) ?_)
      intro m1 v1 w1 hm1 hst
      obtain rfl := hm1
      go_wp2_with (at_builtin; refine wpList_pushK rfl (.tmp 87) (.tmp 89) rfl (Is [48]) B _ _ _ _ _ _ _ _ rfl _ rfl rfl (cells1 48) hst (by omega) ?_)
      intro m2 v2 w2 hm2 hst
      obtain rfl := hm2
      go_wp2_with (at_builtin; refine wpList_pushK rfl (.tmp 120) (.tmp 122) rfl (Is [101]) B _ _ _ _ _ _ _ _ rfl _ rfl rfl (cells1 101) hst (by omega) ?_)
      intro m3 v3 w3 hm3 hst
      go_wp2_with (first | (at_builtin; refine wpList_pushK rfl (.tmp 132) (.tmp 134) rfl Sgn B _ _ _ _ _ _ _ _ rfl _ rfl rfl sgn43 hst (by omega) ?_) | (at_builtin; refine wpList_pushK rfl (.tmp 132) (.tmp 134) rfl Sgn B _ _ _ _ _ _ _ _ rfl _ rfl rfl sgn45 hst (by omega) ?_))
      all_goals intro m4 v4 w4 hm4 hst
      all_goals go_wp2_with (first | (at_builtin; refine wpList_pushK rfl (.tmp 155) (.tmp 159) rfl DP B _ _ _ _ _ _ _ _ rfl _ rfl rfl (cells2 _ _ (by omega) (by omega) (by omega) (by omega)) hst (by omega) ?_) | (at_builtin; refine wpList_pushK rfl (.tmp 164) (.tmp 173) rfl DP B _ _ _ _ _ _ _ _ rfl _ rfl rfl (cells2 _ _ (by omega) (by omega) (by omega) (by omega)) hst (by omega) ?_) | (at_builtin; refine wpList_pushK rfl (.tmp 136) (.tmp 150) rfl DP B _ _ _ _ _ _ _ _ rfl _ rfl rfl (cells3 _ _ _ (by omega) (by omega) (by omega) (by omega) (by omega) (by omega)) hst (by omega) ?_))
      all_goals intro m5 v5 w5 hm5 hst
      all_goals go_wp2
      all_goals go_ret
      all_goals exact num_e (sg := [45]) (A := [48]) (F := []) (c := 101) hst (by omega) (by cases hm3; simp) (by simp) hA (Or.inl rfl) (by simp) hm4 hm5
  · cases neg
    · go_enter Tryd.func56, Tryd.ntmps56
      go_wp2_with (at_builtin; refine wpList_pushK rfl (.tmp 87) (.tmp 89) rfl (Is [48]) B _ _ _ _ _ _ _ _ rfl _ rfl rfl (cells1 48) hst (by omega) ?_)
      intro m2 v2 w2 hm2 hst
      obtain rfl := hm2
      go_wp2_with (at_builtin; refine wpList_pushK rfl (.tmp 120) (.tmp 122) rfl (Is [69]) B _ _ _ _ _ _ _ _ rfl _ rfl rfl (cells1 69) hst (by omega) ?_)
      intro m3 v3 w3 hm3 hst
      go_wp2_with (first | (at_builtin; refine wpList_pushK rfl (.tmp 132) (.tmp 134) rfl Sgn B _ _ _ _ _ _ _ _ rfl _ rfl rfl sgn43 hst (by omega) ?_) | (at_builtin; refine wpList_pushK rfl (.tmp 132) (.tmp 134) rfl Sgn B _ _ _ _ _ _ _ _ rfl _ rfl rfl sgn45 hst (by omega) ?_))
      all_goals intro m4 v4 w4 hm4 hst
      all_goals go_wp2_with (first | (at_builtin; refine wpList_pushK rfl (.tmp 155) (.tmp 159) rfl DP B _ _ _ _ _ _ _ _ rfl _ rfl rfl (cells2 _ _ (by omega) (by omega) (by omega) (by omega)) hst (by omega) ?_) | (at_builtin; refine wpList_pushK rfl (.tmp 164) (.tmp 173) rfl DP B _ _ _ _ _ _ _ _ rfl _ rfl rfl (cells2 _ _ (by omega) (by omega) (by omega) (by omega)) hst (by omega) ?_) | (at_builtin; refine wpList_pushK rfl (.tmp 136) (.tmp 150) rfl DP B _ _ _ _ _ _ _ _ rfl _ rfl rfl (cells3 _ _ _ (by omega) (by omega) (by omega) (by omega) (by omega) (by omega)) hst (by omega) ?_))
      all_goals intro m5 v5 w5 hm5 hst
      all_goals go_wp2
      all_goals go_ret
      all_goals exact num_e (sg := []) (A := [48]) (F := []) (c := 69) hst (by omega) (by cases hm3; simp) (by simp) hA (Or.inl rfl) (by simp) hm4 hm5
    · go_enter Tryd.func56, Tryd.ntmps56
      go_wp2_with (at_builtin; refine wpList_pushK rfl (.tmp 79) (.tmp 80) rfl (Is [45]) B _ _ _ _ _ _ _ _ rfl _ rfl rfl (cells1 45) hst (by omega) ?_)
      intro m1 v1 w1 hm1 hst
      obtain rfl := hm1
      go_wp2_with (at_builtin; refine wpList_pushK rfl (.tmp 87) (.tmp 89) rfl (Is [48]) B _ _ _ _ _ _ _ _ rfl _ rfl rfl (cells1 48) hst (by omega) ?_)
      intro m2 v2 w2 hm2 hst
      obtain rfl := hm2
      go_wp2_with (at_builtin; refine wpList_pushK rfl (.tmp 120) (.tmp 122) rfl (Is [69]) B _ _ _ _ _ _ _ _ rfl _ rfl rfl (cells1 69) hst (by omega) ?_)
      intro m3 v3 w3 hm3 hst
      go_wp2_with (first | (at_builtin; refine wpList_pushK rfl (.tmp 132) (.tmp 134) rfl Sgn B _ _ _ _ _ _ _ _ rfl _ rfl rfl sgn43 hst (by omega) ?_) | (at_builtin; refine wpList_pushK rfl (.tmp 132) (.tmp 134) rfl Sgn B _ _ _ _ _ _ _ _ rfl _ rfl rfl sgn45 hst (by omega) ?_))
      all_goals intro m4 v4 w4 hm4 hst
      all_goals go_wp2_with (first | (at_builtin; refine wpList_pushK rfl (.tmp 155) (.tmp 159) rfl DP B _ _ _ _ _ _ _ _ rfl _ rfl rfl (cells2 _ _ (by omega) (by omega) (by omega) (by omega)) hst (by omega) ?_) | (at_builtin; refine wpList_pushK rfl (.tmp 164) (.tmp 173) rfl DP B _ _ _ _ _ _ _ _ rfl _ rfl rfl (cells2 _ _ (by omega) (by omega) (by omega) (by omega)) hst (by omega) ?_) | (at_builtin; refine wpList_pushK rfl (.tmp 136) (.tmp 150) rfl DP B _ _ _ _ _ _ _ _ rfl _ rfl rfl (cells3 _ _ _ (by omega) (by omega) (by omega) (by omega) (by omega) (by omega)) hst (by omega) ?_))
      all_goals intro m5 v5 w5 hm5 hst
      all_goals go_wp2
      all_goals go_ret
      all_goals exact num_e (sg := [45]) (A := [48]) (F := []) (c := 69) hst (by omega) (by cases hm3; simp) (by simp) hA (Or.inl rfl) (by simp) hm4 hm5
end Go.Proofs.YtegkdlimkgfheaaDoor
