/-
  The walk of FlattenOne.
-/
import Derived.Test.YtbimjdlkffbncaaDoorFs
import Derived.Test.YtbimjdlkffbncaaDoorUf
namespace Go.Proofs.YtbimjdlkffbncaaDoor
namespace Fl
theorem normal_kids_of (g : List Ar.Nd) (K : Nat) (hK : ∀ x ∈ g, x.kids.length ≤ K) : ∀ x ∈ Ar.normal g, x.kids.length ≤ K := by
  intro x hx
  unfold Ar.normal at hx
  rw [List.mem_map] at hx
  obtain ⟨a, ha, rfl⟩ := hx
  have hm := (Ar.order_nb g).2 a ha
  unfold Ar.renum
  rw [Ar.at_get g a (by omega) (by simpa using hm)]
  have h := hK _ (List.getElem_mem (show ((a : Nat) : Int).toNat < g.length by simpa using hm))
  show (List.map _ _).length ≤ K
  rw [List.length_map]; exact h
/-- of a graph that is not too heavy -/
theorem doc_light (g : List Ar.Nd) (hr : Ar.right g = true) (hL : Ar.Light g) : (doc g).length ≤ 25000 := by
  have hn := Ar.normal_right g hr
  have hk := normal_kids_of g 200 (fun x hx => (hL.each x hx).1)
  have hle := normal_le g
  have hgl := hL.len
  unfold doc
  generalize Ar.normal g = n at *
  obtain ⟨hl0, hl2⟩ := right_len hn
  have hTL := tell_len n (anchors n) 200 (right_kids hn) (fun a ha => by rw [Ar.at_get n a (by omega) (by simpa using ha)]; exact hk _ (List.getElem_mem _)) (n.length + 1) 0 (0, []) hl0
  have hn2 : (n.length - 0) * (200 + 2) ≤ 120 * 202 := Nat.mul_le_mul (by omega) (by omega)
  unfold docN
  simp only [List.length_nil, List.length_append, List.length_cons] at hTL ⊢
  omega
theorem kidsTo_le (n : List Ar.Nd) (K : Nat) (hK : ∀ x ∈ n, x.kids.length ≤ K) : ∀ m, m ≤ n.length → kidsTo n m ≤ m * K
  | 0, _ => Nat.zero_le _
  | m + 1, h => by
    have ih := kidsTo_le n K hK m (by omega)
    have h1 : kidsTo n (m + 1) = kidsTo n m + (Ar.at' n (m : Nat)).kids.length := rfl
    rw [h1, Ar.at_mem n m (by omega), Nat.succ_mul]
    have := hK _ (List.getElem_mem (show m < n.length by omega))
    omega
end Fl
open Go.RowKit Go.Maps
/-- one graph, in a row of its own -/
theorem rd_row1 {W : World} {L B : Nat} {g : List Ar.Nd} {u : Value} {t : TypeId} {fr : Nat × Nat} (hl : W.heap[L]? = some (.cells #[u] t fr)) (hg : RdG W B u g) (hL : L < B) : RdGG W B (.slice (some ⟨L, 0, none⟩) 1 1) [g] := by
  refine ⟨_, 1, rfl, Nat.le_refl _, fun _ => ⟨L, 0, rfl, hL, fun j hj => ?_⟩⟩
  have : j = 0 := by simp at hj; omega
  subst this
  exact ⟨u, cell_blk hl 0 _ rfl, hg⟩

set_option maxHeartbeats 8000000 in
set_option maxRecDepth 100000 in
theorem one_walk (v : Value) (g : List Ar.Nd) (w : World) (hg : RdGo w w.heap.size v g) (hgl : g.length ≤ 2199023255488) (hfk : ∀ x ∈ g, x.kids.length ≤ 17592186044160) (hE : Env w) :
    Calls Tryd.prog 10 #[v] w fun e w' => e = .returned (.bool true) ∧ Below w.heap.size w w' := by
  have cA := Lib.hid (flAlive_any w hE)
  have cT := Lib.hid (fun W (hb : Below w.heap.size w W) => theirs_any v g W ((hg.below hb).mono hb.size) hgl hfk)
  have cH := Lib.hid (fun W (hb : Below w.heap.size w W) => heavy_any v g W ((hg.below hb).mono hb.size) hgl)
  have HE := Lib.hid hE
  clear hE hfk
  obtain ⟨ga, gc, rfl, _, _⟩ := hg
  cases hh : Ar.heavy g
  · have hL := Ar.light_of g hh
    have hlen := hL.len
    rw [hh] at cH
    have hea := hL.easy
    have cE := Lib.hid (fun W v' (h : RdGG W W.heap.size v' [g]) (hE : Env W) => events_any v' [g] W h (by simp) (fun x hx => by rw [List.mem_singleton] at hx; subst hx; exact hea) hE)
    have cN := Lib.hid (fun W v' (h : RdG W W.heap.size v' g) (hE : Env W) => normal_any v' g W h (by omega) hL.fine hE)
    have cD := Lib.hid (fun W v' (h : RdG W W.heap.size v' g) (hE : Env W) => deep_of_any v' g W h (by omega) hL.fine hE)
    have hdoc : ∀ es, Fl.events [g] = .ok es → es = Fl.doc g ∧ Ar.right g = true := by
      intro es he
      unfold Fl.events at he
      simp only [List.any_cons, List.any_nil, Bool.or_false] at he
      split at he
      · cases he
      · rename_i h1
        split at he
        · cases he
        · cases he
          refine ⟨by simp, ?_⟩
          simpa using h1
    cases he : Fl.events [g] with
    | error k =>
      have hk : k = 5 ∨ k = 13 := by
        unfold Fl.events at he
        split at he
        · cases he; exact .inl rfl
        · split at he
          · cases he; exact .inr rfl
          · cases he
      rw [he] at cE
      clear hdoc he hea
      rcases hk with rfl | rfl
      all_goals
        go_enter Tryd.func10, Tryd.ntmps10
        go_wp2_with (first
          | (go_at_call 27; refine cA.out.mono ?_; rintro e w1 ⟨rfl, hb1⟩; have HB1 := Lib.hid hb1; clear hb1)
          | (go_at_call 28; refine (cH.out _ HB1.out).mono ?_; rintro e w2 ⟨rfl, hb2⟩; have HB2 := Lib.hid (bthen HB1.out hb2); clear hb2)
          | (go_at_call 30; refine (cT.out _ HB2.out).mono ?_; rintro e w3 ⟨⟨u, rfl, ho⟩, hb3⟩; obtain ⟨ua, uc, rfl⟩ := ho.form; have HT3 := Lib.hid ho.rd; have HB3 := Lib.hid (bthen HB2.out hb3); clear hb3 ho)
          | (go_at_call 29; refine (cE.out _ _ (rd_row1 (alloc_blk w3 _) ((HT3.out.below (bnew w3 _)).mono (bnew w3 _).size) (by rw [World.size_alloc]; omega)) (HE.out.below (bthen HB3.out (bnew w3 _)))).mono ?_; rintro e w4 ⟨rfl, hb4⟩))
        go_ret
        exact ⟨rfl, bthen (bthen HB3.out (bnew w3 _)) hb4⟩
    | ok es =>
      obtain ⟨rfl, hr⟩ := hdoc es he
      rw [he] at cE
      have hnr := Ar.normal_right g hr
      have hnl := right_len hnr
      have hnd : Ev.nodesOf (Ev.kinds (Fl.doc g)) = 1 + Fl.kidsTo (Ar.normal g) (Ar.normal g).length := Fl.doc_nodes _ (Fl.normal_inOrder g hr)
      have hdd : Ev.dmax (Ev.kinds (Fl.doc g)) = Fl.deepOf g := Fl.doc_depth _ (Fl.normal_inOrder g hr) hnl.1
      have hdl := Fl.doc_light g hr hL
      have hnk := Fl.normal_kids_of g 200 (fun x hx => (hL.each x hx).1)
      have hkt := Fl.kidsTo_le (Ar.normal g) 200 hnk
      have hnl2 : (Ar.normal g).length ≤ 120 := Nat.le_trans (normal_le g) hlen
      have cV := Lib.hid (fun W v' (h : RdE W W.heap.size v' (Fl.doc g)) => Evn.nodes_any v' _ W h (by omega))
      have cW := Lib.hid (fun W v' (h : RdE W W.heap.size v' (Fl.doc g)) => Evn.depth_any v' _ W h (by omega))
      rw [hnd] at cV
      rw [hdd] at cW
      generalize Ar.normal g = n at *
      generalize Fl.deepOf g = dp at *
      generalize Fl.doc g = es at *
      have KT : Hid (∀ m, m ≤ n.length → Fl.kidsTo n m ≤ 24000) := fun m hm => by
        have h1 := hkt m hm
        have h2 : m * 200 ≤ 120 * 200 := Nat.mul_le_mul_right _ (by omega)
        omega
      have HNK := Lib.hid hnk
      clear hdoc he hea hnd hdd hdl hkt hnr hnk
      go_enter Tryd.func10, Tryd.ntmps10
      go_wp2_with (first
        | (go_at_call 27; refine cA.out.mono ?_; rintro e w1 ⟨rfl, hb1⟩; have HB1 := Lib.hid hb1; clear hb1)
        | (go_at_call 28; refine (cH.out _ HB1.out).mono ?_; rintro e w2 ⟨rfl, hb2⟩; have HB2 := Lib.hid (bthen HB1.out hb2); clear hb2)
        | (go_at_call 30; refine (cT.out _ HB2.out).mono ?_; rintro e w3 ⟨⟨u, rfl, ho⟩, hb3⟩; obtain ⟨ua, uc, rfl⟩ := ho.form; have HT3 := Lib.hid ho.rd; have HB3 := Lib.hid (bthen HB2.out hb3); clear hb3 ho)
        | (go_at_call 29; refine (cE.out _ _ (rd_row1 (alloc_blk w3 _) ((HT3.out.below (bnew w3 _)).mono (bnew w3 _).size) (by rw [World.size_alloc]; omega)) (HE.out.below (bthen HB3.out (bnew w3 _)))).mono ?_; rintro e w4 ⟨⟨u4, rfl, ho4⟩, hb4⟩; obtain ⟨la, lc, rfl⟩ := own_slice ho4; have HL4 := Lib.hid (rowE_rd ho4); have hb4' := bthen (bnew w3 _) hb4; have HT4 := Lib.hid ((HT3.out.below hb4').mono hb4'.size); have HB4 := Lib.hid (bthen HB3.out hb4'); clear hb4 hb4' ho4)
        | (go_at_call 24; refine (cN.out _ _ HT4.out (HE.out.below HB4.out)).mono ?_; rintro e w5 ⟨⟨un, rfl, hun⟩, hb5⟩; obtain ⟨na, nc, rfl⟩ := hun.form; have HN5 := Lib.hid hun.rd; have HB45 := Lib.hid hb5; clear hun hb5))
      have h45 := HB45.out.size
      go_loopg [7, 31] n.length (fun q kv i wr => ∃ j : Nat, j ≤ n.length ∧ q = n.length - j ∧ kv = .int .i64 (Fl.kidsTo n j) ∧ i = .int .i64 j ∧ Hid (Below w5.heap.size w5 wr))
      case atStart => exact ⟨0, by omega, by omega, rfl, rfl, Lib.hid (Below.refl _ _)⟩
      case round =>
        obtain ⟨j, hj, rfl, rfl, rfl, HB⟩ := hrel
        have hwr := HB.out.size
        by_cases hjt : j < n.length
        · obtain ⟨_, _, hv, _, hcl⟩ := HN5.out
          cases hv
          obtain ⟨gg, rfl, hgg, hcl⟩ := hcl (by omega)
          obtain ⟨n0, n1, n2, ⟨ka, kc, n3, _⟩⟩ := (hcl j hjt).below HB.out hgg
          have hks : Fl.kidsTo n (j + 1) = Fl.kidsTo n j + n[j].kids.length := by
            show Fl.kidsTo n j + (Ar.at' n (j : Nat)).kids.length = _
            rw [Ar.at_mem n j hjt]
          have hkl := HNK.out _ (List.getElem_mem hjt)
          have hkj := KT.out j hj
          clear hcl
          generalize n[j] = x at *
          obtain ⟨k, t, s, ks⟩ := x
          simp only at n0 n1 n2 n3 hks hkl
          have hb6 := bthen HB.out (bnew wr (.cells #[.int .i64 k, .string (str t), .string (str s), .slice ka ks.length kc] 64))
          have HB6 := Lib.hid hb6
          clear hb6
          generalize Fl.kidsTo n j = kj at *
          go_wp2
          go_roundg (n.length - (j + 1))
          case measure => omega
          case rel => exact ⟨j + 1, by omega, rfl, by rw [hks]; go_num, by go_num, HB6⟩
        · have hje : j = n.length := by omega
          subst hje
          have hkj := KT.out _ (Nat.le_refl _)
          have HB5r := Lib.hid (bthen HB45.out HB.out)
          have HL6 := Lib.hid ((HL4.out.below HB5r.out).mono HB5r.out.size)
          have HT6 := Lib.hid ((HT4.out.below HB5r.out).mono HB5r.out.size)
          generalize Fl.kidsTo n n.length = kn at *
          go_wp2_with (first
            | (go_at_call 25; refine (cV.out _ _ HL6.out).mono ?_; rintro e w7 ⟨rfl, hb7⟩; have HB7 := Lib.hid hb7; clear hb7)
            | (go_at_call 35; refine (cW.out _ _ ((HL6.out.below HB7.out).mono HB7.out.size)).mono ?_; rintro e w8 ⟨rfl, hb8⟩; have HB8 := Lib.hid (bthen HB7.out hb8); clear hb8)
            | (go_at_call 36; refine (cD.out _ _ ((HT6.out.below HB8.out).mono HB8.out.size) (HE.out.below (bthen HB4.out (bthen HB5r.out HB8.out)))).mono ?_; rintro e w9 ⟨rfl, hb9⟩))
          go_ret
          exact ⟨rfl, bthen (bthen (bthen HB4.out HB5r.out) HB8.out) hb9⟩
  · rw [hh] at cH
    go_enter Tryd.func10, Tryd.ntmps10
    go_wp2_with (first
      | (go_at_call 27; refine cA.out.mono ?_; rintro e w1 ⟨rfl, hb1⟩; have HB1 := Lib.hid hb1; clear hb1)
      | (go_at_call 28; refine (cH.out _ HB1.out).mono ?_; rintro e w2 ⟨rfl, hb2⟩))
    go_ret
    exact ⟨rfl, bthen HB1.out hb2⟩
end Go.Proofs.YtbimjdlkffbncaaDoor
