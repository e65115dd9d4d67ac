/-
  The walk of appendDocument.
-/
import Derived.Test.YtbimjdlkffbncaaDoorFh
import Derived.Test.YtbimjdlkffbncaaDoorFm
namespace Go.Proofs.YtbimjdlkffbncaaDoor
namespace Fl
/-- what was told ahead stays ahead -/
theorem tell_app (g : List Ar.Nd) (an : List (List UInt8)) (o : List Ev.E) : ∀ (f a m : Nat) (out : List Ev.E), tell f g an a (m, o ++ out) = ((tell f g an a (m, out)).1, o ++ (tell f g an a (m, out)).2)
  | 0, _, _, _ => rfl
  | f + 1, a, m, out => by
    have key : ∀ (ks : List Int) (s : Nat × List Ev.E), ks.foldl (fun s k => tell f g an k.toNat s) (s.1, o ++ s.2) = ((ks.foldl (fun s k => tell f g an k.toNat s) s).1, o ++ (ks.foldl (fun s k => tell f g an k.toNat s) s).2) := by
      intro ks
      induction ks with
      | nil => intro s; rfl
      | cons k t ih =>
        intro s
        rw [List.foldl_cons, List.foldl_cons]
        obtain ⟨sm, so⟩ := s
        rw [show tell f g an k.toNat ((sm, so).1, o ++ (sm, so).2) = _ from tell_app g an o f k.toNat sm so]
        exact ih _
    unfold tell
    by_cases h : a < m
    · rw [if_pos h, if_pos h, List.append_assoc]
    · rw [if_neg h, if_neg h]
      have h1 := key (Ar.at' g a).kids (m + 1, out ++ [anch (an.getD a []) (event (Ar.at' g a))])
      simp only at h1 ⊢
      rw [List.append_assoc, h1, List.append_assoc]
end Fl
open Go.RowKit Go.Maps

set_option maxHeartbeats 8000000 in
set_option maxRecDepth 100000 in
theorem appendDocument_any (oa : Option Addr) (oc : Nat) (gv : Value) (out : List Ev.E) (g : List Ar.Nd) (B : Nat) (w : World) (hr : Ar.right g = true) (ho : OwnE w B (.slice oa out.length oc) out) (hg : RdG w w.heap.size gv g) (hgl : g.length ≤ 1000000) (hfi : ∀ x ∈ g, Fine x ∧ x.text.length ≤ 100000) (hl : out.length ≤ 100000000000) (hB6 : 4 ≤ B) (hBw : B ≤ w.heap.size) (hE : Env w) :
    Calls Tryd.prog 60 #[.slice oa out.length oc, gv] w fun e w' => (∃ u, e = .returned u ∧ OwnE w' B u (out ++ Fl.doc g)) ∧ Below B w w' := by
  have hn := Ar.normal_right g hr
  have hfn : ∀ x ∈ Ar.normal g, Fine x ∧ x.text.length ≤ 100000 := by
    intro x hx
    refine ⟨normal_fine g (fun y hy => (hfi y hy).1) x hx, ?_⟩
    unfold Ar.normal at hx
    rw [List.mem_map] at hx
    obtain ⟨a, ha, rfl⟩ := hx
    have hm := (Ar.order_nb g).2 a ha
    unfold Ar.renum
    rw [Ar.at_get g a (by omega) (by simpa using hm)]
    exact (hfi _ (List.getElem_mem (show ((a : Nat) : Int).toNat < g.length by simpa using hm))).2
  have hb0 := bnew w (.cells #[.slice oa out.length oc] 29)
  have cN := Lib.hid (newTeller_any gv g (w.alloc (.cells #[.slice oa out.length oc] 29)) ((hg.below hb0).mono hb0.size) hgl (fun x hx => (hfi x hx).1) (hE.below hb0))
  unfold Fl.doc
  generalize Ar.normal g = n at *
  obtain ⟨hl0, hl2⟩ := right_len hn
  have hkids : Ar.Kids n := right_kids hn
  have hal : (Fl.anchors n).length = n.length := by unfold Fl.anchors; rw [Fl.namesGo_len, Fl.addRoot_len, Ar.ins_len n hn]
  have hdoc : Fl.docN n = (Fl.bare 0 :: (Fl.tell (n.length + 1) n (Fl.anchors n) 0 (0, [])).2) ++ [Fl.bare 1] := rfl
  have hta := Fl.tell_app n (Fl.anchors n) (out ++ [Fl.bare 0]) (n.length + 1) 0 0 []
  rw [List.append_nil] at hta
  have hTL := Fl.tell_len n (Fl.anchors n) 1000000 hkids (fun a ha => by rw [Ar.at_get n a (by omega) (by simpa using ha)]; exact (hfn _ (List.getElem_mem _)).1.kids) (n.length + 1) 0 (0, []) hl0
  generalize Fl.tell (n.length + 1) n (Fl.anchors n) 0 (0, []) = R at *
  obtain ⟨rm, es⟩ := R
  simp only at hdoc hta hTL
  rw [hdoc]
  have hn2 : (n.length - 0) * (1000000 + 2) ≤ 2000 * 1000002 := Nat.mul_le_mul (by omega) (by omega)
  have hes : es.length ≤ 2000 * 1000002 + 1 := by simp only [List.length_nil] at hTL; omega
  have hlen : ((out ++ [Fl.bare 0]) ++ es).length = out.length + 1 + es.length := by rw [List.length_append, fl_len]
  have HES := Lib.hid hes
  have HL := Lib.hid hl
  clear hTL hn2 hes hl
  have HE := Lib.hid hE
  have HO := Lib.hid ho
  have g0 := alloc_blk w (.cells #[.slice oa out.length oc] 29)
  have G0 := Lib.hid g0
  have HFN := Lib.hid hfn
  have HKI := Lib.hid hkids
  clear hg hfi hE ho g0 hfn hkids
  go_enter Tryd.func60, Tryd.ntmps60
  go_wp2_with (first
    | (go_at_call 63; refine cN.out.mono ?_; rintro e w1 ⟨⟨b, ga, gc, rfl, hb, hG, hbw, hO⟩, hb1⟩; have hbt := bnew w1 (.cells #[.pointer (some ⟨b, 0, none⟩)] 92); have cA := Lib.hid (anchors_any b ga gc (.int .i64 0) n (w1.alloc (.cells #[.pointer (some ⟨b, 0, none⟩)] 92)) hn (blk_below hb hbt) ((hG.below (hbt.mono (Nat.le_of_lt (Array.getElem?_eq_some_iff.1 hb).1))).mono (Nat.le_trans (Nat.le_of_lt (Array.getElem?_eq_some_iff.1 hb).1) hbt.size)) (fun x hx => (HFN.out x hx).1) (HE.out.below (bthen (bthen (bnew w _) hb1) hbt))))
    | (go_at_call 95; refine cA.out.mono ?_; rintro e w3 ⟨⟨ab, rfl, habw, hab⟩, hb3⟩; have b35 := bthen (bnew w3 (.cells #[.slice (some ⟨ab, 0, none⟩) n.length n.length] 73)) (bnew (w3.alloc (.cells #[.slice (some ⟨ab, 0, none⟩) n.length n.length] 73)) (.cells #[.func (.func 96) #[] #[.pointer (some ⟨w1.heap.size, 0, none⟩), .pointer (some ⟨w.heap.size, 0, none⟩), .pointer (some ⟨w3.heap.size, 0, none⟩), .pointer (some ⟨w3.heap.size + 1, 0, none⟩)]] 109)); have hF5 := alloc_blk (w3.alloc (.cells #[.slice (some ⟨ab, 0, none⟩) n.length n.length] 73)) (.cells #[.func (.func 96) #[] #[.pointer (some ⟨w1.heap.size, 0, none⟩), .pointer (some ⟨w.heap.size, 0, none⟩), .pointer (some ⟨w3.heap.size, 0, none⟩), .pointer (some ⟨w3.heap.size + 1, 0, none⟩)]] 109); (rw [World.size_alloc] at hF5); have HB5 := Lib.hid (bthen (bthen (bthen (bthen hb0 hb1) hbt) hb3) b35); have HO5 := Lib.hid (blk_below (blk_below (blk_below (blk_below G0.out hb1) hbt) hb3) b35); have HD5 := Lib.hid (TellAt.mk (m := 0) (blk_below (blk_below (alloc_blk w1 _) hb3) b35) (blk_below (blk_below (blk_below hb hbt) hb3) b35) ⟨_, HO5.out, (((HO.out.below hb0).below hb1).below hbt).below hb3 |>.below b35⟩ (blk_below (alloc_blk w3 (.cells #[.slice (some ⟨ab, 0, none⟩) n.length n.length] 73)) (bnew (w3.alloc (.cells #[.slice (some ⟨ab, 0, none⟩) n.length n.length] 73)) (.cells #[.func (.func 96) #[] #[.pointer (some ⟨w1.heap.size, 0, none⟩), .pointer (some ⟨w.heap.size, 0, none⟩), .pointer (some ⟨w3.heap.size, 0, none⟩), .pointer (some ⟨w3.heap.size + 1, 0, none⟩)]] 109))) (blk_below hab b35) hF5 : TellAt ((w3.alloc (.cells #[.slice (some ⟨ab, 0, none⟩) n.length n.length] 73)).alloc (.cells #[.func (.func 96) #[] #[.pointer (some ⟨w1.heap.size, 0, none⟩), .pointer (some ⟨w.heap.size, 0, none⟩), .pointer (some ⟨w3.heap.size, 0, none⟩), .pointer (some ⟨w3.heap.size + 1, 0, none⟩)]] 109)) ga gc n.length ab b w1.heap.size w.heap.size w3.heap.size (w3.heap.size + 1) B 0 (Fl.anchors n) out); have HG5 := Lib.hid (((hO.below hbt).below hb3).below b35); have q2 := cell_blk HO5.out 0 _ rfl; have z2 := frozen_blk HO5.out 0; have HX6 := Lib.hid (bnew ((w3.alloc (.cells #[.slice (some ⟨ab, 0, none⟩) n.length n.length] 73)).alloc (.cells #[.func (.func 96) #[] #[.pointer (some ⟨w1.heap.size, 0, none⟩), .pointer (some ⟨w.heap.size, 0, none⟩), .pointer (some ⟨w3.heap.size, 0, none⟩), .pointer (some ⟨w3.heap.size + 1, 0, none⟩)]] 109)) (.cells #[.int .i64 0, .string ⟨#[]⟩, .string ⟨#[]⟩, .string ⟨#[]⟩, .bool false] 40)); have hbb := hbw; (rw [World.size_alloc] at hbb); clear hab hb3 b35 hF5 hb hG hO hb1)
    | (at_builtin; go_loud (refine wpList_pushE (by rfl) (.tmp 13) (.tmp 15) (by rfl) B (.slice oa out.length oc) out (Fl.bare 0) _ _ (0, 0) (by rfl) (by rfl) ?_ ?_ ?_ ?_ ?_; (exact new_at _ _ _ (by rw [World.size_alloc, World.size_alloc])); (exact (HO.out.below HB5.out).below HX6.out); (have := HL.out; omega); (have h1 := HB5.out.size; have h2 := HX6.out.size; omega); intro v7 w7 ho7 hk7 hb7; obtain ⟨va, vc, rfl⟩ := own_slice ho7; have HO7 := Lib.hid (hk7.blk (blk_below HO5.out HX6.out) (by decide)); have y7 := cell_blk HO7.out 0 _ rfl; have z7 := frozen_blk HO7.out 0; have HT8 := Lib.hid (HD5.out.pushed HX6.out (.slice va (out.length + 1) vc) (out ++ [Fl.bare 0]) (by have h := ho7; rw [fl_len] at h; exact h) hk7 HO5.out hBw (Nat.le_trans hBw HB5.out.size)); have HG8 := Lib.hid (HG5.out.keep HT8.out.2 (by decide) (by decide)); have y8 := cell_blk HT8.out.1.fBox 0 _ rfl; have HE8 := Lib.hid (HE.out.keep hB6 ((HB5.out.mono hBw).trans HT8.out.2.below)); have cT := Lib.hid (tellGo_any n ga gc n.length ab b w1.heap.size w.heap.size w3.heap.size (w3.heap.size + 1) B _ (Fl.anchors n) rfl hl2 HKI.out HFN.out hal (by omega) hBw hB6 (n.length + 1) 0 0 (out ++ [Fl.bare 0]) _ hl0 (Nat.zero_le _) (by omega) (by rw [fl_len]; have := HL.out; omega) HT8.out.1 HG8.out HE8.out (Nat.le_trans hBw (Nat.le_trans HB5.out.size HT8.out.2.size))); rw [hta] at cT; clear hk7 hb7 ho7))
    | (go_at_call 96; refine cT.out.mono ?_; rintro e w9 ⟨rfl, hD9, hK9, _⟩; obtain ⟨v9, p1, p2⟩ := hD9.oBox; obtain ⟨oa9, oc9, rfl⟩ := own_slice p2; (rw [hlen] at p1 p2); have q9 := cell_blk p1 0 _ rfl; have HP2 := Lib.hid p2; have HX9 := Lib.hid (bnew w9 (.cells #[.int .i64 1, .string ⟨#[]⟩, .string ⟨#[]⟩, .string ⟨#[]⟩, .bool false] 40)); have HK9 := Lib.hid hK9; clear hK9 p2 hD9)
    | (at_builtin; go_loud (refine wpList_pushE (by rfl) (.tmp 19) (.tmp 21) (by rfl) B (.slice oa9 (out.length + 1 + es.length) oc9) ((out ++ [Fl.bare 0]) ++ es) (Fl.bare 1) _ _ (0, 0) (by rfl) (by rfl) ?_ ?_ ?_ ?_ ?_; (exact new_at _ _ _ rfl); (exact HP2.out.below HX9.out); (rw [List.length_append, fl_len]; have h1 := HL.out; have h2 := HES.out; omega); (have h1 := HK9.out.size; have h2 := HT8.out.2.size; have h3 := HB5.out.size; have h4 := HX9.out.size; omega); intro v10 w10 ho10 hk10 hb10)))
  have hB9 : B ≤ w9.heap.size := Nat.le_trans hBw (Nat.le_trans HB5.out.size (Nat.le_trans HT8.out.2.size HK9.out.size))
  have hfin := ((((HB5.out.mono hBw).trans HT8.out.2.below).trans HK9.out.below).trans (HX9.out.mono hB9)).trans hk10.below
  have e : ((out ++ [Fl.bare 0]) ++ es) ++ [Fl.bare 1] = out ++ ((Fl.bare 0 :: es) ++ [Fl.bare 1]) := by simp
  rw [e] at ho10
  go_ret
  exact ⟨⟨_, rfl, ho10⟩, hfin⟩
end Go.Proofs.YtbimjdlkffbncaaDoor
