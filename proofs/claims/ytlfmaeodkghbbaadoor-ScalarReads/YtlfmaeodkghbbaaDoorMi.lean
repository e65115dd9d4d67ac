/-
  Where the forms between quotes end.
-/
import Derived.Test.YtlfmaeodkghbbaaDoorMf
import Derived.Test.YtlfmaeodkghbbaaDoorMh
namespace Go.Proofs.YtlfmaeodkghbbaaDoor
open Go.RowKit

theorem endD_raw (m : List UInt8) : ∀ (bs : List UInt8) (k : Nat), (∀ b ∈ bs, b.toNat ≠ 34 ∧ b.toNat ≠ 92) → Sc.endD (bs ++ m) k = Sc.endD m (k + bs.length)
  | [], k, _ => rfl
  | b :: t, k, h => by
    have hb := h b (by simp)
    rw [List.cons_append, Sc.endD_other b _ k (Sc.u8_ne hb.2) (Sc.u8_ne hb.1), endD_raw m t (k + 1) fun x hx => h x (by simp [hx]), List.length_cons]
    congr 1; omega
theorem hexL_no (r : Nat) : ∀ d : Nat, ∀ b ∈ Sc.hexL r d, b.toNat ≠ 34 ∧ b.toNat ≠ 92
  | 0, b, h => by cases h
  | d + 1, b, h => by
    simp only [Sc.hexL] at h
    rcases List.mem_cons.1 h with rfl | h
    · have : ∀ x : Fin 16, (Sc.hexd x.val).toNat ≠ 34 ∧ (Sc.hexd x.val).toNat ≠ 92 := by decide
      exact this ⟨_, Nat.mod_lt _ (by decide)⟩
    · exact hexL_no r d b h
theorem endD_esc (r : Nat) (m : List UInt8) (k : Nat) (hc : Sc.isCh r) : Sc.endD (esc r ++ m) k = Sc.endD m (k + (esc r).length) := by
  have key : ∀ (x : UInt8) (t : List UInt8), (∀ b ∈ t, b.toNat ≠ 34 ∧ b.toNat ≠ 92) → Sc.endD ((92 :: x :: t) ++ m) k = Sc.endD m (k + (92 :: x :: t).length) := by
    intro x t h
    rw [List.cons_append, Sc.endD_bs, List.cons_append, List.drop_succ_cons, List.drop_zero, endD_raw m t _ h]
    congr 1
    simp only [List.length_cons]; omega
  unfold esc
  cases hn : nameOf r with
  | some b => exact key _ [] fun b hb => by cases hb
  | none =>
    obtain ⟨n1, n2, n3, n4⟩ := nameOf_none r hn
    simp only
    split
    · refine endD_raw m _ k fun b hb => ?_
      by_cases hb' : b.toNat < 128
      · have := mem_enc r b hc hb hb'; omega
      · omega
    · split
      · exact key 120 _ (hexL_no r 2)
      · split
        · exact key 117 _ (hexL_no r 4)
        · exact key 85 _ (hexL_no r 8)
theorem endD_escs (m : List UInt8) : ∀ (rs : List Nat) (k : Nat), (∀ r ∈ rs, Sc.isCh r) → Sc.endD (rs.flatMap esc ++ m) k = Sc.endD m (k + (rs.flatMap esc).length)
  | [], k, _ => rfl
  | r :: t, k, h => by
    rw [List.flatMap_cons, List.append_assoc, endD_esc r _ k (h r (by simp)), endD_escs m t _ fun x hx => h x (by simp [hx]), List.length_append]
    congr 1; omega
theorem endOf_cons (q : UInt8) (t : List UInt8) : Sc.endOf (q :: t) = if q = 34 then Sc.endD t 1 else if q = 39 then Sc.endS t 1 else none := rfl
/-- the form between double quotes ends where it ends, whatever follows -/
theorem end_quote (l m : List UInt8) (hv : Lib.validD l = true) : Sc.endOf (quoteOf l ++ m) = some (quoteOf l).length := by
  have hq : quoteOf l = 34 :: ((Sc.rns l).flatMap esc ++ [34]) := by unfold quoteOf; rw [if_pos hv]
  rw [hq]
  rw [List.cons_append, endOf_cons, if_pos rfl, List.append_assoc, endD_escs _ _ _ (Sc.ch_rns l), List.singleton_append, Sc.endD_q]
  congr 1
  simp only [List.length_cons, List.length_append, List.length_nil]; omega
theorem endS_dbl (m : List UInt8) : ∀ (l : List UInt8) (k : Nat), Sc.endS (Sc.dbl l ++ m) k = Sc.endS m (k + (Sc.dbl l).length)
  | [], k => rfl
  | b :: t, k => by
    by_cases h : b = 39
    · subst h
      have e : Sc.dbl (39 :: t) = 39 :: 39 :: Sc.dbl t := by simp [Sc.dbl]
      rw [e, List.cons_append, List.cons_append, Sc.endS_qq, endS_dbl m t]
      congr 1; simp only [List.length_cons]; omega
    · have e : Sc.dbl (b :: t) = b :: Sc.dbl t := by simp [Sc.dbl, h]
      rw [e, List.cons_append, Sc.endS_other b _ _ h, endS_dbl m t]
      congr 1; simp only [List.length_cons]; omega
/-- the form between single quotes ends where it ends, a blank behind it -/
theorem end_sq (l m : List UInt8) : Sc.endOf (Sc.sq l ++ 32 :: m) = some (Sc.sq l).length := by
  unfold Sc.sq
  rw [List.cons_append, endOf_cons, if_neg (by decide), if_pos rfl, List.append_assoc, endS_dbl, List.singleton_append, Sc.endS_q _ _ (by simp)]
  congr 1
  simp only [List.length_cons, List.length_append, List.length_nil]; omega
/-- texts come back from single quotes -/
theorem unsingle_sq (l : List UInt8) (h : oneLineB l = true) : unsingleOf (Sc.sq l) = some l := by
  have e : ((Sc.sq l).drop 1).take ((Sc.sq l).length - 2) = Sc.dbl l := by
    unfold Sc.sq
    simp
  unfold unsingleOf
  rw [if_neg (by rw [Sc.sq_len]; omega), e, Sc.undbl_dbl]
  have : singleOf l = some (Sc.sq l) := by unfold singleOf; rw [if_pos h]
  rw [this, if_pos rfl]
end Go.Proofs.YtlfmaeodkghbbaaDoor
