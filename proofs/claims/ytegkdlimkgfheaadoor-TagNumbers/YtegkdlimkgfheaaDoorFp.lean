/-
  What lies in the heap before a call; strconv's fmtEFG in each of its forms, as the shortest form calls it.
-/
import Derived.Test.YtegkdlimkgfheaaDoorFj
import Derived.Test.YtegkdlimkgfheaaDoorFk
import Derived.Test.YtegkdlimkgfheaaDoorFl
import Derived.Test.YtegkdlimkgfheaaDoorFo
namespace Go.Proofs.YtegkdlimkgfheaaDoor
open Go.RowKit

/-- the tables of the library's that are read -/
structure Env (w : World) : Prop where
  p10 : P10 w
  t10 : T10 w
  c16 : w.cell? ⟨5, 15, none⟩ = some (.int .u8 4)
  c8 : w.cell? ⟨5, 7, none⟩ = some (.int .u8 3)
  size : 8 ≤ w.heap.size
theorem gPow : Tryd.prog.globalNamed "internal/strconv.uint64pow10" = some 1 := by kernel_rfl
theorem Env.below {w w' : World} {K : Nat} (h : Env w) (hb : Below K w w') (hK : 8 ≤ K) : Env w' where
  p10 := fun i hi => by
    obtain ⟨a, b, ha, hb', h0, h1⟩ := h.p10 i hi
    exact ⟨a, b, ha, hb', (hb.cell (p := ⟨6, i * 2, none⟩) (by show 6 < K; omega)).trans h0, (hb.cell (p := ⟨6, i * 2 + 1, none⟩) (by show 6 < K; omega)).trans h1⟩
  t10 := ⟨by
    have ht := h.t10.tab
    unfold Lib.TabIs World.var? at *
    rw [gPow] at *
    simp only [Option.bind_some] at *
    rw [hb.block 1 (by omega)]
    exact ht, (hb.cell (p := ⟨1, 0, none⟩) (by show 1 < K; omega)).trans h.t10.one⟩
  c16 := (hb.cell (p := ⟨5, 15, none⟩) (by show 5 < K; omega)).trans h.c16
  c8 := (hb.cell (p := ⟨5, 7, none⟩) (by show 5 < K; omega)).trans h.c8
  size := Nat.le_trans h.size hb.size
theorem Env.drewN {w : World} (h : Env w) (n : Nat) : Env (w.drewN n) := h.below (below_drewN (Below.refl w.heap.size w) n) h.size
theorem Env.alloc {w : World} (h : Env w) (o : Obj) : Env (w.alloc o) := h.below ((Below.refl _ w).alloc (Nat.le_refl _) o) h.size

theorem u8c (c : UInt8) (n : Nat) (h : c.toNat = n) : (c.toNat : Int) = n := by rw [h]
/-- fmtEFG where there is no digit, and the number is naught -/
theorem fmt_zero (B : Nat) (v : Value) (neg : Bool) (C : Int) (w : World) (hst : St w B 0 w v []) (hC : C = 101 ∨ C = 102 ∨ C = 103 ∨ C = 69) :
    Calls Tryd.prog 56 #[v, .bool neg, .slice none 0 0, .int .i64 0, .int .i64 0, .int .i64 (-1), .int .u8 C, .bool true] w fun e w' => OutE B w e w' := by
  rcases hC with rfl | rfl | rfl | rfl
  · exact fmtE0 B v _ neg 0 (-1) 101 true w hst (Or.inl rfl) (by decide) (by decide) (by decide)
  · exact fmtF0 B v _ neg 0 0 (-1) w hst (by decide) (by decide) (by decide) (by decide)
  · exact fmtG0 B v _ neg w hst
  · exact fmtE0 B v _ neg 0 (-1) 69 true w hst (Or.inr rfl) (by decide) (by decide) (by decide)

/-- the digits that are told behind the point, or all, as the form asks -/
def precOf (C dp : Int) (k : Nat) : Int := if C = 102 then max ((k : Int) - dp) 0 else if C = 103 then (k : Int) else max ((k : Int) - 1) 0

theorem fmt_e (B b : Nat) (v : Value) (neg : Bool) (c : UInt8) (hc : c = 101 ∨ c = 69) (dp : Int) (k : Nat) (D : List UInt8) (w : World) (hst : St w B 0 w v []) (hk : k ≤ 20) (hl : D.length = k) (hd0 : -330 ≤ dp) (hd1 : dp ≤ 350) (hD : DigL w b D) (hG : DG D) (N prec : Int) (hN : N = (k : Int)) (hp : prec = max ((k : Int) - 1) 0) :
    Calls Tryd.prog 56 #[v, .bool neg, .slice (some ⟨b, 0, none⟩) 32 32, .int .i64 dp, .int .i64 N, .int .i64 prec, .int .u8 (c.toNat : Int), .bool true] w fun e w' => OutE B w e w' := by
  cases D with
  | nil =>
    have hk0 : k = 0 := by simpa using hl.symm
    subst hk0
    have hN0 : N = 0 := by omega
    subst hN0
    exact fmtE0 B v _ neg dp prec c true w hst hc (by omega) (by omega) (by omega)
  | cons c0 T =>
    rw [List.length_cons] at hl
    by_cases hT : T.length = 0
    · obtain rfl := List.eq_nil_of_length_eq_zero hT
      have hc0 : Tg.dg 10 c0 = true := by simpa [DG] using hG
      by_cases hdp : 1 ≤ dp
      · exact fmtE1p B b v neg dp hdp (by omega) N prec c0 c true w hst hc (by omega) (by omega) hD hc0
      · have := fmtE1n B b v neg (1 - dp) (by omega) (by omega) N prec c0 c true w hst hc (by omega) (by omega) hD hc0
        rw [show 1 - (1 - dp) = dp by omega] at this
        exact this
    · by_cases hdp : 1 ≤ dp
      · exact fmtE2p B b v neg dp hdp (by omega) N prec c0 T c true w hst hc (by omega) (by omega) (by omega) (by omega) hD hG
      · have := fmtE2n B b v neg (1 - dp) (by omega) (by omega) N prec c0 T c true w hst hc (by omega) (by omega) (by omega) (by omega) hD hG
        rw [show 1 - (1 - dp) = dp by omega] at this
        exact this
theorem fmt_f (B b : Nat) (v : Value) (neg : Bool) (dp : Int) (k : Nat) (D : List UInt8) (w : World) (hst : St w B 0 w v []) (hk : k ≤ 20) (hl : D.length = k) (hd0 : -330 ≤ dp) (hd1 : dp ≤ 350) (hD : DigL w b D) (hG : DG D) (N prec : Int) (hN : N = (k : Int)) (hp : prec = max ((k : Int) - dp) 0) :
    Calls Tryd.prog 56 #[v, .bool neg, .slice (some ⟨b, 0, none⟩) 32 32, .int .i64 dp, .int .i64 N, .int .i64 prec, .int .u8 102, .bool true] w fun e w' => OutE B w e w' := by
  by_cases hdp : 0 < dp
  · by_cases hkd : (k : Int) ≤ dp
    · exact fmtF1 B b v neg k (dp.toNat - k) dp N prec D w hst (by omega) hk (by omega) hl hN (by omega) (by omega) hD hG
    · exact fmtF2 B b v neg dp.toNat (k - dp.toNat) dp N prec D w hst (by omega) (by omega) (by omega) (by omega) (by omega) (by omega) (by omega) hD hG
  · by_cases hz : prec ≤ 0
    · exact fmtF0 B v _ neg dp N prec w hst hz (by omega) (by omega) (by omega)
    · exact fmtF3 B b v neg k (-dp).toNat dp N prec D w hst (by omega) hk (by omega) hl hN (by omega) (by omega) hD hG
theorem fmt_g (B b : Nat) (v : Value) (neg : Bool) (dp : Int) (k : Nat) (D : List UInt8) (w : World) (hst : St w B 0 w v []) (hk1 : 1 ≤ k) (hk : k ≤ 20) (hl : D.length = k) (hd0 : -330 ≤ dp) (hd1 : dp ≤ 350) (hD : DigL w b D) (hG : DG D) (N prec : Int) (hN : N = (k : Int)) (hp : prec = (k : Int)) :
    Calls Tryd.prog 56 #[v, .bool neg, .slice (some ⟨b, 0, none⟩) 32 32, .int .i64 dp, .int .i64 N, .int .i64 prec, .int .u8 103, .bool true] w fun e w' => OutE B w e w' := by
  by_cases hE : dp - 1 < -4 ∨ 6 ≤ dp - 1
  · cases D with
    | nil => simp at hl; omega
    | cons c0 T =>
      rw [List.length_cons] at hl
      by_cases hT : T.length = 0
      · obtain rfl := List.eq_nil_of_length_eq_zero hT
        have hc0 : Tg.dg 10 c0 = true := by simpa [DG] using hG
        by_cases hdp : 1 ≤ dp
        · exact fmtGE1p B b v neg dp (by omega) (by omega) N prec (by rw [hN]; omega) (by rw [hp]; omega) c0 w hst hD hc0
        · have := fmtGE1n B b v neg (1 - dp) (by omega) (by omega) N prec (by omega) (by omega) c0 w hst hD hc0
          rw [show 1 - (1 - dp) = dp by omega] at this
          exact this
      · by_cases hdp : 1 ≤ dp
        · exact fmtGE2p B b v neg dp (by omega) (by omega) N prec c0 T w hst (by omega) (by omega) (by omega) (by omega) hD hG
        · have := fmtGE2n B b v neg (1 - dp) (by omega) (by omega) N prec c0 T w hst (by omega) (by omega) (by omega) (by omega) hD hG
          rw [show 1 - (1 - dp) = dp by omega] at this
          exact this
  · by_cases hdp : 0 < dp
    · by_cases hkd : (k : Int) ≤ dp
      · exact fmtG1 B b v neg k (dp.toNat - k) dp N prec D w hst (by omega) hk (by omega) hl hN (by omega) (by omega) (by omega) hD hG
      · exact fmtG2 B b v neg dp.toNat (k - dp.toNat) dp N prec D w hst (by omega) (by omega) (by omega) (by omega) (by omega) (by omega) (by omega) (by omega) hD hG
    · exact fmtG3 B b v neg k (-dp).toNat dp N prec D w hst (by omega) hk (by omega) hl hN (by omega) (by omega) (by omega) hD hG
/-- 'g' where there is no digit: any value of dp -/
theorem fmt_g0 (B b : Nat) (v : Value) (neg : Bool) (dp : Int) (w : World) (hst : St w B 0 w v []) (hd0 : -330 ≤ dp) (hd1 : dp ≤ 350) (hD : DigL w b []) :
    Calls Tryd.prog 56 #[v, .bool neg, .slice (some ⟨b, 0, none⟩) 32 32, .int .i64 dp, .int .i64 0, .int .i64 0, .int .u8 103, .bool true] w fun e w' => OutE B w e w' := by
  by_cases h1 : 7 ≤ dp
  · exact fmtGE0p B v _ neg dp h1 (by omega) w hst
  · by_cases h2 : 0 < dp
    · exact fmtG1 B b v neg 0 dp.toNat dp 0 0 [] w hst (by omega) (by omega) (by omega) rfl rfl (by omega) rfl (by omega) hD rfl
    · by_cases h3 : dp = 0
      · subst h3; exact fmtG00 B v _ neg w hst
      by_cases h4 : -3 ≤ dp
      · exact fmtG3 B b v neg 0 (-dp).toNat dp 0 0 [] w hst (by omega) (by omega) (by omega) rfl rfl (by omega) rfl (by omega) hD rfl
      have := fmtGE0n B v (.slice (some ⟨b, 0, none⟩) 32 32) neg (1 - dp) (by omega) (by omega) w hst
      rw [show 1 - (1 - dp) = dp by omega] at this
      exact this
/-- fmtEFG, in each of the four forms -/
theorem fmt_any (B b : Nat) (v : Value) (neg : Bool) (C dp : Int) (k : Nat) (D : List UInt8) (w : World) (hC : C = 101 ∨ C = 102 ∨ C = 103 ∨ C = 69) (hst : St w B 0 w v []) (hk : k ≤ 20) (hl : D.length = k) (hd0 : -330 ≤ dp) (hd1 : dp ≤ 350) (hD : DigL w b D) (hG : DG D) (prec : Int) (hp : prec = precOf C dp k) :
    Calls Tryd.prog 56 #[v, .bool neg, .slice (some ⟨b, 0, none⟩) 32 32, .int .i64 dp, .int .i64 (k : Int), .int .i64 prec, .int .u8 C, .bool true] w fun e w' => OutE B w e w' := by
  rcases hC with rfl | rfl | rfl | rfl
  · exact fmt_e B b v neg 101 (Or.inl rfl) dp k D w hst hk hl hd0 hd1 hD hG k prec rfl hp
  · exact fmt_f B b v neg dp k D w hst hk hl hd0 hd1 hD hG k prec rfl hp
  · by_cases h0 : k = 0
    · subst h0
      obtain rfl := List.eq_nil_of_length_eq_zero hl
      have hp0 : prec = 0 := hp
      subst hp0
      exact fmt_g0 B b v neg dp w hst hd0 hd1 hD
    · exact fmt_g B b v neg dp k D w hst (by omega) hk hl hd0 hd1 hD hG k prec rfl hp
  · exact fmt_e B b v neg 69 (Or.inr rfl) dp k D w hst hk hl hd0 hd1 hD hG k prec rfl hp
end Go.Proofs.YtegkdlimkgfheaaDoor
