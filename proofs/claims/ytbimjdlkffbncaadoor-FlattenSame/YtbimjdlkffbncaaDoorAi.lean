/-
  The walk of Order's closure, which calls itself.
-/
import Derived.Test.YtbimjdlkffbncaaDoorAh
namespace Go.Proofs.YtbimjdlkffbncaaDoor
open Go.RowKit Go.Maps

theorem own_form {w : World} {b e z n : Nat} {v : Value} {xs : List Value} (h : w.ownsRow b e z v n xs) : ∃ a c, v = .slice a n c := by
  rcases h.2 with ⟨rfl, rfl⟩ | ⟨g, cap, cur, rfl, _⟩
  · exact ⟨none, 0, rfl⟩
  · exact ⟨_, cap, rfl⟩
theorem natsV_snoc (met : List Nat) (a : Nat) : natsV (met ++ [a]) = natsV met ++ [.int .i64 (a : Int)] := by unfold natsV; simp
/-- a node is met: it is marked, and stands behind those that were met -/
theorem dfs_push {ga : Option Addr} {gc n sb sB mB gB fB T a : Nat} {met : List Nat} {w W1 w3 : World} {v v' : Value} (d1 : sb < T) (d2 : sB < T) (d3 : mB < T) (d4 : gB < T) (d5 : fB < T)
    (e1 : sb ≠ sB) (e2 : sb ≠ mB) (e3 : sb ≠ gB) (e4 : sb ≠ fB) (e5 : mB ≠ sB) (e6 : mB ≠ gB) (e7 : mB ≠ fB) (hB1 : gB ≤ sb) (hB2 : gB ≤ mB) (hT : T ≤ w.heap.size) (ha : a < n)
    (q1 : w.heap[sB]? = some (.cells #[.slice (some ⟨sb, 0, none⟩) n n] 108)) (q2 : w.heap[sb]? = some (.cells (cellsB n met) 4)) (q3 : w.heap[mB]? = some (.cells #[v] 62)) (q4 : w.heap[gB]? = some (.cells #[.slice ga n gc] 45))
    (q5 : w.heap[fB]? = some (.cells #[.func (.func 89) #[] #[.pointer (some ⟨sB, 0, none⟩), .pointer (some ⟨mB, 0, none⟩), .pointer (some ⟨gB, 0, none⟩), .pointer (some ⟨fB, 0, none⟩)]] 109))
    (hW1 : w.setCell ⟨sb, a, none⟩ (.bool true) = W1) (r1 : W1.ownsRow T 3 1 v met.length (natsV met)) (hg : (W1.alloc (.cells #[.int .i64 a] 3)).grownBy w3 v.ownBlock) (hown : w3.ownsRow T 3 1 v' (met.length + 1) (natsV met ++ [.int .i64 a])) :
    w3.heap[mB]? = some (.cells #[v] 62) ∧ DfsAt (w3.setCell ⟨mB, 0, none⟩ v') ga gc n sb sB mB gB fB T (met ++ [a]) ∧ Below gB w (w3.setCell ⟨mB, 0, none⟩ v') ∧ w.heap.size ≤ w3.heap.size := by
  have s1 : W1.heap.size = w.heap.size := by rw [← hW1]; exact World.size_setCell _ _ _
  have o1 : ∀ k, k ≠ sb → W1.heap[k]? = w.heap[k]? := fun k hk => by rw [← hW1]; exact Below.heap_setCell w ⟨sb, a, none⟩ _ k hk
  have m1 : W1.heap[sb]? = some (.cells (cellsB n (met ++ [a])) 4) := by rw [← hW1, ← cellsB_set _ _ _ ha]; exact blk_set q2 a _
  have hs2 : (W1.alloc (.cells #[.int .i64 a] 3)).heap.size = w.heap.size + 1 := by rw [World.size_alloc, s1]
  have hs3 := hg.size
  have o3 : ∀ k, k < T → w3.heap[k]? = W1.heap[k]? := fun k hk => by
    rw [hg.block k (by omega) (fun e => by have := (World.ownsRow.lt r1 k e.symm).1; omega)]
    exact (bnew W1 _).block k (by omega)
  have p3 : w3.heap[mB]? = some (.cells #[v] 62) := by rw [o3 _ d3, o1 _ (Ne.symm e2)]; exact q3
  refine ⟨p3, ⟨?_, ?_, ⟨v', ?_, ?_⟩, ?_, ?_⟩, ?_, by omega⟩
  · exact other_set (by rw [o3 _ d2, o1 _ (Ne.symm e1)]; exact q1) _ _ (Ne.symm e5)
  · exact other_set (by rw [o3 _ d1]; exact m1) _ _ e2
  · exact blk_set p3 0 v'
  · rw [List.length_append, natsV_snoc]
    exact own_same hown (fun k hk => Below.heap_setCell w3 ⟨mB, 0, none⟩ _ k (fun e => by have := (World.ownsRow.lt hown k hk).1; have e : k = mB := e; omega))
  · exact other_set (by rw [o3 _ d4, o1 _ (Ne.symm e3)]; exact q4) _ _ (Ne.symm e6)
  · exact other_set (by rw [o3 _ d5, o1 _ (Ne.symm e4)]; exact q5) _ _ (Ne.symm e7)
  · have b1 : Below gB w W1 := by rw [← hW1]; exact (Below.refl gB w).setCell (p := ⟨sb, a, none⟩) hB1 _
    have b2 : Below gB w (W1.alloc (.cells #[.int .i64 a] 3)) := b1.alloc (by omega) _
    have b3 := b2.grown hg (by omega) (fun k hk => by have := (World.ownsRow.lt r1 k hk).1; omega)
    exact b3.setCell (p := ⟨mB, 0, none⟩) hB2 _

set_option maxHeartbeats 4000000 in
set_option maxRecDepth 100000 in
theorem meet_any (g : List Ar.Nd) (ga : Option Addr) (gc n sb sB mB gB fB T : Nat) (hn : n = g.length) (hn2 : n ≤ 2000) (hgc : n ≤ gc) (hkids : Ar.Kids g) (hfi : ∀ x ∈ g, Fine x) (d1 : sb < T) (d2 : sB < T) (d3 : mB < T) (d4 : gB < T) (d5 : fB < T)
    (e1 : sb ≠ sB) (e2 : sb ≠ mB) (e3 : sb ≠ gB) (e4 : sb ≠ fB) (e5 : mB ≠ sB) (e6 : mB ≠ gB) (e7 : mB ≠ fB) (hB1 : gB ≤ sb) (hB2 : gB ≤ mB) :
    ∀ (f a : Nat) (met : List Nat) (w : World), a < n → DfsAt w ga gc n sb sB mB gB fB T met → Ar.NB n met → n - met.length < f → T ≤ w.heap.size → RdG w gB (.slice ga n gc) g →
    Calls Tryd.prog 89 #[.int .i64 a, .pointer (some ⟨sB, 0, none⟩), .pointer (some ⟨mB, 0, none⟩), .pointer (some ⟨gB, 0, none⟩), .pointer (some ⟨fB, 0, none⟩)] w fun e w' => e = .returned (.tuple #[]) ∧ DfsAt w' ga gc n sb sB mB gB fB T (Ar.meet f g a met) ∧ Below gB w w' := by
  subst hn
  intro f
  induction f with
  | zero => intro a met w ha hD hNB hf; exact absurd hf (by omega)
  | succ f ih =>
    intro a met w ha hD hNB hf hT hG
    obtain ⟨q1, q2, ⟨v, q3, hrow⟩, q4, q5⟩ := hD
    have c1 := cell_blk q1 0 _ rfl
    have c2 := cell_blk q2 a _ (cellsB_at _ met a ha)
    unfold Ar.meet
    cases hc : met.contains a
    · rw [if_neg (by decide)]
      rw [hc] at c2
      have hfz := frozen_blk q2 a
      have c3 := cell_blk q3 0 _ rfl
      have z3 := frozen_blk q3 0
      have c4 := cell_blk q4 0 _ rfl
      have hNB2 := hNB.snoc ha hc
      have hlen := hNB2.len
      rw [List.length_append] at hlen
      simp only [List.length_cons, List.length_nil] at hlen
      obtain ⟨_, _, hv, _, hcl0⟩ := hG
      cases hv
      obtain ⟨gg, rfl, hgg, hcl⟩ := hcl0 (by omega)
      obtain ⟨n0, n1, n2, ⟨ka, kc, n3, n4⟩⟩ := hcl a ha
      have hat : Ar.at' g (a : Int) = g[a] := Ar.at_get g a (by omega) ha
      have hkn := hkids.at' ha
      have hfk := (hfi _ (List.getElem_mem ha)).kids
      rw [hat] at hkn ⊢
      have HG : Hid (RdG w gB (.slice (some ⟨gg, 0, none⟩) g.length gc) g) := Lib.hid ⟨_, _, rfl, hgc, fun _ => ⟨gg, rfl, hgg, hcl⟩⟩
      clear hcl hcl0
      generalize g[a] = x at *
      obtain ⟨k, t, s, ks⟩ := x
      simp only at n3 n4 hkn hfk ⊢
      obtain ⟨i0, hi, hz0, hz1, hz2⟩ := info_parts info3
      obtain ⟨va, vc, rfl⟩ := own_form hrow
      obtain ⟨W1, hW1⟩ : ∃ W1, w.setCell ⟨sb, a, none⟩ (.bool true) = W1 := ⟨_, rfl⟩
      have s1 : W1.heap.size = w.heap.size := by rw [← hW1]; exact World.size_setCell _ _ _
      have o1 : ∀ k, k ≠ sb → W1.heap[k]? = w.heap[k]? := fun k hk => by rw [← hW1]; exact Below.heap_setCell w ⟨sb, a, none⟩ _ k hk
      have r1 := own_same hrow (fun k hk => o1 k (fun e => by have := (World.ownsRow.lt hrow k hk).1; omega))
      have r2 := own_same r1 (fun k hk => (bnew W1 (.cells #[.int .i64 a] 3)).block k (World.ownsRow.lt r1 k hk).2)
      have c3' : W1.cell? ⟨mB, 0, none⟩ = some (.slice va met.length vc) := cell_blk ((o1 mB (Ne.symm e2)).trans q3) 0 _ rfl
      have hT1 : T ≤ W1.heap.size := by omega
      have PU := Lib.hid fun w3 v' => dfs_push (w3 := w3) (v' := v') d1 d2 d3 d4 d5 e1 e2 e3 e4 e5 e6 e7 hB1 hB2 hT ha q1 q2 q3 q4 q5 hW1 r1
      have N3 := Lib.hid n3
      have N4 := Lib.hid n4
      obtain ⟨ANS, hANS⟩ : ∃ ANS, ks.foldl (fun m k => Ar.meet f g k.toNat m) (met ++ [a]) = ANS := ⟨_, rfl⟩
      rw [hANS]
      have HA := Lib.hid hANS
      have IH := Lib.hid ih
      have HKN := Lib.hid hkn
      have NB2 := Lib.hid hNB2
      clear s1 o1 hat c3 z3 c4 n0 n1 n2 n3 n4 r1 hrow hNB hNB2 hANS ih hkn q1 q2 q3 q4 q5
      go_enter Tryd.func89, Tryd.ntmps89
      go_wp2_with (at_builtin; refine wpList_append_own _ rfl _ _ 62 rfl T 3 i0 (.int .i64 0) 1 8 Tryd.underlying62 hi hz0 hz1 hz2 rfl (by decide) _ _ _ rfl r2 ⟨W1.heap.size, 0, none⟩ 1 1 [.int .i64 a] rfl rfl (cell_one_new _ _ _) (ints_oneCell .i64 [(a : Int)]) (by unfold maxLen; omega) (by omega) (by rw [World.size_alloc]; omega) ?_; intro v' w3 hown' hgrow3 hnil3; obtain ⟨va', vc', rfl⟩ := own_form hown'; obtain ⟨p3, hD4, hB4, hs4⟩ := PU.out w3 _ hgrow3 hown'; have x5 := cell_blk p3 0 _ rfl; have z5 := frozen_blk p3 0; have HD4 := Lib.hid hD4; have HB4 := Lib.hid hB4; have y1 := cell_blk hD4.gBox 0 _ rfl; have y2 := (hB4.cell (p := ⟨gg, a * 4 + 3, none⟩) hgg).trans N3.out; clear hD4 hB4 p3)
      clear hnil3 hown' hgrow3 x5 z5 y1 y2
      have hG0 := Lib.hid hW1
      clear hW1
      go_loopg [25] ks.length (fun q i wr => ∃ (m : Nat) (met' : List Nat), m ≤ ks.length ∧ q = ks.length - m ∧ i = .int .i64 m ∧ Hid ((ks.drop m).foldl (fun m k => Ar.meet f g k.toNat m) met' = ANS) ∧ Hid (DfsAt wr (some ⟨gg, 0, none⟩) gc g.length sb sB mB gB fB T met') ∧ Hid (Ar.NB g.length met') ∧ met.length + 1 ≤ met'.length ∧ Hid (Below gB w wr) ∧ T ≤ wr.heap.size)
      case atStart => exact ⟨0, met ++ [a], by omega, by omega, rfl, HA, HD4, NB2, by rw [List.length_append]; exact Nat.le_refl _, HB4, by rw [World.size_setCell]; omega⟩
      case round =>
        obtain ⟨m, met', hm, rfl, rfl, HI, HD, HNB, hml, HB, hTr⟩ := hrel
        clear HA HD4 HB4 NB2
        by_cases hmt : m < ks.length
        · have hI := HI.out
          rw [List.drop_eq_getElem_cons hmt, List.foldl_cons] at hI
          obtain ⟨_, _, hv, _, hcl0⟩ := N4.out.below HB.out
          cases hv
          obtain ⟨kg, ko, rfl, _, hcl⟩ := hcl0 (by omega)
          have hkm := hcl m hmt
          have hkk := HKN.out _ (List.getElem_mem hmt)
          clear hcl hcl0 HI
          generalize ks[m] = kk at *
          obtain ⟨y, rfl⟩ : ∃ y : Nat, kk = (y : Int) := ⟨kk.toNat, by omega⟩
          rw [Int.toNat_natCast] at hI hkk
          have hnb := Ar.meet_nb g hkids f y met' hkk.2 HNB.out
          have hfu : g.length - met'.length < f := by omega
          have cI := IH.out y met' wr hkk.2 HD.out HNB.out hfu hTr (HG.out.below HB.out)
          have y3 := cell_blk HD.out.fBox 0 _ rfl
          generalize Ar.meet f g y met' = met2 at *
          have HI := Lib.hid hI
          have CI := Lib.hid cI
          have HNB2 := Lib.hid hnb.1
          have hml2 := hnb.2
          clear hI cI hnb
          go_wp2_with (go_at_call 89; refine (CI.out).mono ?_; rintro e w5 ⟨rfl, hD5, hB5⟩)
          go_roundg (ks.length - (m + 1))
          case measure => omega
          case rel => exact ⟨m + 1, met2, by omega, rfl, by go_num, HI, Lib.hid hD5, HNB2, by omega, Lib.hid (HB.out.trans hB5), Nat.le_trans hTr hB5.size⟩
        · have hI := HI.out
          rw [List.drop_eq_nil_of_le (by omega)] at hI
          have hI : met' = ANS := hI
          subst hI
          clear HI
          go_wp2
          exact ⟨rfl, .tuple #[], by simp [results, go_sem], rfl, HD.out, HB.out⟩
    · rw [if_pos rfl]
      rw [hc] at c2
      go_enter Tryd.func89, Tryd.ntmps89
      go_wp2_with fail
      refine bodyPost_ret (v := .tuple #[]) (by simp [results, go_sem]) rfl ?_
      exact ⟨rfl, ⟨q1, q2, ⟨v, q3, hrow⟩, q4, q5⟩, Below.refl _ _⟩
end Go.Proofs.YtbimjdlkffbncaaDoor
