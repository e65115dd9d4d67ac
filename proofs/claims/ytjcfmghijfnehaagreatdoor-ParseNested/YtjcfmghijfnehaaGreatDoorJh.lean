/-
  Walks of flow: node, flowOf.
-/
import Derived.Test.YtjcfmghijfnehaaGreatDoorJg
namespace Go.Proofs.YtjcfmghijfnehaaGreatDoor
open Go.RowKit

theorem enters85 : ∀ args w, (callFunc 85 args).run Tryz.prog w = .ok (.enter 85 args) w := enters_of Tryz.func85 (by kernel_rfl) rfl
theorem enters147 : ∀ args w, (callFunc 147 args).run Tryz.prog w = .ok (.enter 147 args) w := enters_of Tryz.func147 (by kernel_rfl) rfl
theorem enters149 : ∀ args w, (callFunc 149 args).run Tryz.prog w = .ok (.enter 149 args) w := enters_of Tryz.func149 (by kernel_rfl) rfl
theorem enters150 : ∀ args w, (callFunc 150 args).run Tryz.prog w = .ok (.enter 150 args) w := enters_of Tryz.func150 (by kernel_rfl) rfl

/-- a function literal in node: it reads what stands between two brackets -/
def InsideR (g B F d : Nat) (o : List Lx.Wd → Px.Rd) : Prop := ∀ (us : List Lx.Wd) (xs : List Ev.E) (b : Nat) (w : World), FlAt w B F d us xs → w.heap[b]? = some (.cells #[.pointer (some ⟨F, 0, none⟩)] 138 (0, 0)) → xs.length + 2 * us.length ≤ 2199023255480 →
  Calls Tryz.prog g #[.pointer (some ⟨b, 0, none⟩)] w fun e w' => GoR B F d xs (o us) e w' ∧ Keep flT B w w'
/-- what node does -/
def NodeR (B F d : Nat) (nd : List Lx.Wd → Px.Rd) : Prop := ∀ (us : List Lx.Wd) (xs : List Ev.E) (w : World), FlAt w B F d us xs → xs.length + 2 * us.length ≤ 2199023255480 → Calls Tryz.prog 85 #[.pointer (some ⟨F, 0, none⟩)] w fun e w' => GoR B F d xs (nd us) e w' ∧ Keep flT B w w'

set_option maxHeartbeats 2000000 in
theorem node1_any (nd : List Lx.Wd → Px.Rd) (B F d : Nat) (hB : B ≤ F) (hsl : ∀ us, Px.Slim 1 us (nd us)) (hn : NodeR B F d nd) : InsideR 147 B F d (fun r => Px.items nd 7 (r.length + 1) r) := by
  intro us xs b w h hb hl
  have C := Lib.hid (items_any nd 7 B F d 85 hB enters85 hsl hn us xs w h hl (us.length + 1) (Nat.lt_succ_self _))
  have hc : w.cell? ⟨b, 0, none⟩ = some (.pointer (some ⟨F, 0, none⟩)) := cell_blk hb 0 _ rfl
  have hmf : ∀ (fn : Fn) (first cap : Array Value) (w : World), (Instr.makeFunc fn first cap).run Tryz.prog w = .ok (.func fn first cap) w := fun _ _ _ _ => rfl
  clear h hb hl hn hsl
  simp only
  cases ho : Px.items nd 7 (us.length + 1) us with
  | error n =>
    rw [ho] at C
    unfold GoR fault at C
    simp only at C
    clear ho
    go_enter Tryz.func147, Tryz.ntmps147
    go_wp2_with (go_at_call 148; go_fit C.out; rintro e w1 ⟨rfl, hk1⟩)
    exact ⟨rfl, rfl, hk1⟩
  | ok y =>
    obtain ⟨r, ys⟩ := y
    rw [ho] at C
    unfold GoR at C
    simp only at C
    clear ho
    go_enter Tryz.func147, Tryz.ntmps147
    go_wp2_with (go_at_call 148; go_fit C.out; rintro e w1 ⟨⟨rfl, hf1⟩, hk1⟩)
    go_end0
    exact ⟨⟨rfl, hf1⟩, hk1⟩

set_option maxHeartbeats 2000000 in
theorem node2_any (nd : List Lx.Wd → Px.Rd) (B F d : Nat) (hB : B ≤ F) (hsl : ∀ us, Px.Slim 1 us (nd us)) (hn : NodeR B F d nd) : InsideR 149 B F d (fun r => Px.items (Px.pair nd) 9 (r.length + 1) r) := by
  intro us xs b w h hb hl
  have C := Lib.hid (items_any (Px.pair nd) 9 B F d 150 hB enters150 (Px.pair_slim nd hsl) (fun us xs w h hl => pair_any nd B F d hB hsl hn us xs w h hl) us xs w h hl (us.length + 1) (Nat.lt_succ_self _))
  have hc : w.cell? ⟨b, 0, none⟩ = some (.pointer (some ⟨F, 0, none⟩)) := cell_blk hb 0 _ rfl
  have hmf : ∀ (fn : Fn) (first cap : Array Value) (w : World), (Instr.makeFunc fn first cap).run Tryz.prog w = .ok (.func fn first cap) w := fun _ _ _ _ => rfl
  clear h hb hl hn hsl
  simp only
  cases ho : Px.items (Px.pair nd) 9 (us.length + 1) us with
  | error n =>
    rw [ho] at C
    unfold GoR fault at C
    simp only at C
    clear ho
    go_enter Tryz.func149, Tryz.ntmps149
    go_wp2_with (go_at_call 148; go_fit C.out; rintro e w1 ⟨rfl, hk1⟩)
    exact ⟨rfl, rfl, hk1⟩
  | ok y =>
    obtain ⟨r, ys⟩ := y
    rw [ho] at C
    unfold GoR at C
    simp only at C
    clear ho
    go_enter Tryz.func149, Tryz.ntmps149
    go_wp2_with (go_at_call 148; go_fit C.out; rintro e w1 ⟨⟨rfl, hf1⟩, hk1⟩)
    go_end0
    exact ⟨⟨rfl, hf1⟩, hk1⟩

set_option maxHeartbeats 8000000 in
set_option maxRecDepth 100000 in
theorem node_step (B F d : Nat) (hB : B ≤ F) (hd : d ≤ 40) (lst mp : List Lx.Wd → Px.Rd) (hs1 : ∀ us, Px.SlimI us (lst us)) (hs2 : ∀ us, Px.SlimI us (mp us))
    (h1 : d < 40 → InsideR 147 B F (d + 1) lst) (h2 : d < 40 → InsideR 149 B F (d + 1) mp) (h13 : ¬ d < 40 → ∀ us, lst us = .error 13 ∧ mp us = .error 13) :
    NodeR B F d (Px.nodeWith lst mp) := by
  intro ws es w h hl
  have hFl := h.lt
  have hBw : B ≤ w.heap.size := Nat.le_of_lt (Nat.lt_of_le_of_lt hB hFl)
  have hmf : ∀ (fn : Fn) (first cap : Array Value) (w : World), (Instr.makeFunc fn first cap).run Tryz.prog w = .ok (.func fn first cap) w := fun _ _ _ _ => rfl
  have hX0 : (w.alloc (.cells #[.pointer (some ⟨F, 0, none⟩)] 138)).heap[w.heap.size]? = some (.cells #[.pointer (some ⟨F, 0, none⟩)] 138 (0, 0)) := alloc_blk w _
  have HX0 := Lib.hid hX0
  have c0 := cell_blk hX0 0 _ rfl
  have HK0 := Lib.hid (keep_of (ts := flT) (bnew w (.cells #[.pointer (some ⟨F, 0, none⟩)] 138)) hBw)
  have CT := Lib.hid (take_any B F d ws es (w.alloc (.cells #[.pointer (some ⟨F, 0, none⟩)] 138)) (h.call (bnew w _) hB) hB)
  have H1 := Lib.hid h1
  have H2 := Lib.hid h2
  have H3 := Lib.hid h13
  have S1 := Lib.hid hs1
  have S2 := Lib.hid hs2
  clear h hX0 h1 h2 h13 hs1 hs2
  unfold Px.nodeWith
  cases hc : Px.cutP Px.nop ws with
  | error n =>
    rw [hc] at CT
    unfold TakeR fault at CT
    simp only at CT
    clear hc hmf
    go_enter Tryz.func85, Tryz.ntmps85
    go_wp2_with (go_at_call 144; go_fit CT.out; rintro e w1 ⟨rfl, hk1⟩; clear CT)
    exact ⟨rfl, rfl, HK0.out.trans hk1⟩
  | ok y =>
    obtain ⟨p, r⟩ := y
    have hlr := Px.cutP_len ws _ _ _ hc
    rw [hc] at CT
    unfold TakeR at CT
    simp only at CT ⊢
    have hpr : prV p = .agg #[.string (str p.anchor), .string (str p.tag)] := rfl
    have CS := Lib.hid (fun w1 h => skips_any B F d 6 r es w1 h hB)
    clear hc
    cases h6 : Px.bk r 6
    · rw [h6] at CS
      simp only [Bool.false_eq_true, if_false] at CS ⊢
      have CS2 := Lib.hid (fun w1 h => skips_any B F d 8 r es w1 h hB)
      cases h8 : Px.bk r 8
      · rw [h8] at CS2
        simp only [Bool.false_eq_true, if_false] at CS2 ⊢
        have CL := Lib.hid (fun w1 h => leaf_any B F d r es p w1 h hB (by omega))
        rw [hpr] at CT CL
        clear h6 h8 hpr
        cases hlw : Px.leafW p r with
        | error n =>
          rw [hlw] at CL
          unfold GoR fault at CL
          simp only at CL
          clear hlw
          go_enter Tryz.func85, Tryz.ntmps85
          go_wp2_with (first
            | (go_at_call 144; go_fit CT.out; rintro e w1 ⟨⟨rfl, hf1⟩, hk1⟩; clear CT; have HX1 := Lib.hid (hk1.blk HX0.out (by decide)); have d0 := cell_blk (new_blk _ _ (.cells #[.string (str p.anchor), .string (str p.tag)] 117) _ HX1.out) 0 _ rfl; have HF1 := Lib.hid (hf1.call (bnew w1 (.cells #[.string (str p.anchor), .string (str p.tag)] 117)) hB); have HK1 := Lib.hid ((HK0.out.trans hk1).alloc hBw (.cells #[.string (str p.anchor), .string (str p.tag)] 117)); have HP1 := Lib.hid (alloc_blk w1 (.cells #[.string (str p.anchor), .string (str p.tag)] 117)); clear c0)
            | (go_at_call 145; go_fit (CS.out _ HF1.out); rintro e w2 ⟨rfl, hf2, hk2⟩; clear CS; have e0 := cell_blk (hk2.blk (new_blk _ _ (.cells #[.string (str p.anchor), .string (str p.tag)] 117) _ HX1.out) (by decide)) 0 _ rfl; have HX2 := Lib.hid (hk2.blk (new_blk _ _ (.cells #[.string (str p.anchor), .string (str p.tag)] 117) _ HX1.out) (by decide)); have HP2 := Lib.hid (hk2.blk HP1.out (by decide)); obtain ⟨⟨o0, o1⟩, _⟩ := two HP2.out; have HK2 := Lib.hid (HK1.out.trans hk2))
            | (go_at_call 145; go_fit (CS2.out _ hf2); rintro e w3 ⟨rfl, hf3, hk3⟩; clear CS2; have g0 := cell_blk (hk3.blk HX2.out (by decide)) 0 _ rfl; have HX3 := Lib.hid (hk3.blk HX2.out (by decide)); obtain ⟨⟨p0, p1⟩, _⟩ := two (hk3.blk HP2.out (by decide)); have HK3 := Lib.hid (HK2.out.trans hk3))
            | (go_at_call 151; go_fit (CL.out _ hf3); rintro e w4 ⟨rfl, hk4⟩))
          exact ⟨rfl, rfl, HK3.out.trans hk4⟩
        | ok z =>
          obtain ⟨q, xs⟩ := z
          rw [hlw] at CL
          unfold GoR at CL
          simp only at CL
          clear hlw
          go_enter Tryz.func85, Tryz.ntmps85
          go_wp2_with (first
            | (go_at_call 144; go_fit CT.out; rintro e w1 ⟨⟨rfl, hf1⟩, hk1⟩; clear CT; have HX1 := Lib.hid (hk1.blk HX0.out (by decide)); have d0 := cell_blk (new_blk _ _ (.cells #[.string (str p.anchor), .string (str p.tag)] 117) _ HX1.out) 0 _ rfl; have HF1 := Lib.hid (hf1.call (bnew w1 (.cells #[.string (str p.anchor), .string (str p.tag)] 117)) hB); have HK1 := Lib.hid ((HK0.out.trans hk1).alloc hBw (.cells #[.string (str p.anchor), .string (str p.tag)] 117)); have HP1 := Lib.hid (alloc_blk w1 (.cells #[.string (str p.anchor), .string (str p.tag)] 117)); clear c0)
            | (go_at_call 145; go_fit (CS.out _ HF1.out); rintro e w2 ⟨rfl, hf2, hk2⟩; clear CS; have e0 := cell_blk (hk2.blk (new_blk _ _ (.cells #[.string (str p.anchor), .string (str p.tag)] 117) _ HX1.out) (by decide)) 0 _ rfl; have HX2 := Lib.hid (hk2.blk (new_blk _ _ (.cells #[.string (str p.anchor), .string (str p.tag)] 117) _ HX1.out) (by decide)); have HP2 := Lib.hid (hk2.blk HP1.out (by decide)); obtain ⟨⟨o0, o1⟩, _⟩ := two HP2.out; have HK2 := Lib.hid (HK1.out.trans hk2))
            | (go_at_call 145; go_fit (CS2.out _ hf2); rintro e w3 ⟨rfl, hf3, hk3⟩; clear CS2; have g0 := cell_blk (hk3.blk HX2.out (by decide)) 0 _ rfl; have HX3 := Lib.hid (hk3.blk HX2.out (by decide)); obtain ⟨⟨p0, p1⟩, _⟩ := two (hk3.blk HP2.out (by decide)); have HK3 := Lib.hid (HK2.out.trans hk3))
            | (go_at_call 151; go_fit (CL.out _ hf3); rintro e w4 ⟨⟨rfl, hf4⟩, hk4⟩))
          go_end0
          exact ⟨⟨rfl, hf4⟩, HK3.out.trans hk4⟩
      · rw [h8] at CS2
        simp only [if_true] at CS2 ⊢
        have hrt : r.tail.length + 1 = r.length := by have := Px.bk_pos _ _ h8; rw [List.length_tail]; omega
        have heq : (if d < 40 then Px.wrap p 4 (mp r.tail) else .error 13) = Px.wrap p 4 (mp r.tail) := by
          split
          · rfl
          · rename_i hn
            rw [(H3.out hn r.tail).2]; rfl
        have CG := Lib.hid (fun w1 b (h : FlAt w1 B F d r.tail es) (hb : w1.heap[b]? = some (.cells #[.pointer (some ⟨F, 0, none⟩)] 138 (0, 0))) => group_any B F d r.tail es p 4 5 149 (.pointer (some ⟨b, 0, none⟩)) (mp r.tail) w1 h hB hd rfl (by omega) enters149 (S2.out r.tail) (fun h40 w2 hf hk => H2.out h40 r.tail _ b w2 hf (hk.blk hb (by decide)) (by rw [List.length_append, List.length_singleton]; omega)))
        rw [heq, hpr] at CG
        rw [hpr] at CT
        clear h8 hpr heq
        cases hw : Px.wrap p 4 (mp r.tail) with
        | error n =>
          rw [hw] at CG
          unfold GoR fault at CG
          simp only at CG
          clear hw
          go_enter Tryz.func85, Tryz.ntmps85
          go_wp2_with (first
            | (go_at_call 144; go_fit CT.out; rintro e w1 ⟨⟨rfl, hf1⟩, hk1⟩; clear CT; have HX1 := Lib.hid (hk1.blk HX0.out (by decide)); have d0 := cell_blk (new_blk _ _ (.cells #[.string (str p.anchor), .string (str p.tag)] 117) _ HX1.out) 0 _ rfl; have HF1 := Lib.hid (hf1.call (bnew w1 (.cells #[.string (str p.anchor), .string (str p.tag)] 117)) hB); have HK1 := Lib.hid ((HK0.out.trans hk1).alloc hBw (.cells #[.string (str p.anchor), .string (str p.tag)] 117)); have HP1 := Lib.hid (alloc_blk w1 (.cells #[.string (str p.anchor), .string (str p.tag)] 117)); clear c0)
            | (go_at_call 145; go_fit (CS.out _ HF1.out); rintro e w2 ⟨rfl, hf2, hk2⟩; clear CS; have e0 := cell_blk (hk2.blk (new_blk _ _ (.cells #[.string (str p.anchor), .string (str p.tag)] 117) _ HX1.out) (by decide)) 0 _ rfl; have HX2 := Lib.hid (hk2.blk (new_blk _ _ (.cells #[.string (str p.anchor), .string (str p.tag)] 117) _ HX1.out) (by decide)); have HP2 := Lib.hid (hk2.blk HP1.out (by decide)); obtain ⟨⟨o0, o1⟩, _⟩ := two HP2.out; have HK2 := Lib.hid (HK1.out.trans hk2))
            | (go_at_call 145; go_fit (CS2.out _ hf2); rintro e w3 ⟨rfl, hf3, hk3⟩; clear CS2; have g0 := cell_blk (hk3.blk HX2.out (by decide)) 0 _ rfl; have HX3 := Lib.hid (hk3.blk HX2.out (by decide)); obtain ⟨⟨p0, p1⟩, _⟩ := two (hk3.blk HP2.out (by decide)); have HK3 := Lib.hid (HK2.out.trans hk3))
            | (go_at_call 146; go_fit (CG.out _ _ hf3 HX3.out); rintro e w5 ⟨rfl, hk5⟩))
          exact ⟨rfl, rfl, HK3.out.trans hk5⟩
        | ok z =>
          obtain ⟨q, xs⟩ := z
          rw [hw] at CG
          unfold GoR at CG
          simp only at CG
          clear hw
          go_enter Tryz.func85, Tryz.ntmps85
          go_wp2_with (first
            | (go_at_call 144; go_fit CT.out; rintro e w1 ⟨⟨rfl, hf1⟩, hk1⟩; clear CT; have HX1 := Lib.hid (hk1.blk HX0.out (by decide)); have d0 := cell_blk (new_blk _ _ (.cells #[.string (str p.anchor), .string (str p.tag)] 117) _ HX1.out) 0 _ rfl; have HF1 := Lib.hid (hf1.call (bnew w1 (.cells #[.string (str p.anchor), .string (str p.tag)] 117)) hB); have HK1 := Lib.hid ((HK0.out.trans hk1).alloc hBw (.cells #[.string (str p.anchor), .string (str p.tag)] 117)); have HP1 := Lib.hid (alloc_blk w1 (.cells #[.string (str p.anchor), .string (str p.tag)] 117)); clear c0)
            | (go_at_call 145; go_fit (CS.out _ HF1.out); rintro e w2 ⟨rfl, hf2, hk2⟩; clear CS; have e0 := cell_blk (hk2.blk (new_blk _ _ (.cells #[.string (str p.anchor), .string (str p.tag)] 117) _ HX1.out) (by decide)) 0 _ rfl; have HX2 := Lib.hid (hk2.blk (new_blk _ _ (.cells #[.string (str p.anchor), .string (str p.tag)] 117) _ HX1.out) (by decide)); have HP2 := Lib.hid (hk2.blk HP1.out (by decide)); obtain ⟨⟨o0, o1⟩, _⟩ := two HP2.out; have HK2 := Lib.hid (HK1.out.trans hk2))
            | (go_at_call 145; go_fit (CS2.out _ hf2); rintro e w3 ⟨rfl, hf3, hk3⟩; clear CS2; have g0 := cell_blk (hk3.blk HX2.out (by decide)) 0 _ rfl; have HX3 := Lib.hid (hk3.blk HX2.out (by decide)); obtain ⟨⟨p0, p1⟩, _⟩ := two (hk3.blk HP2.out (by decide)); have HK3 := Lib.hid (HK2.out.trans hk3))
            | (go_at_call 146; go_fit (CG.out _ _ hf3 HX3.out); rintro e w5 ⟨⟨rfl, hf5⟩, hk5⟩))
          go_end0
          exact ⟨⟨rfl, hf5⟩, HK3.out.trans hk5⟩
    · rw [h6] at CS
      simp only [if_true] at CS ⊢
      have hrt : r.tail.length + 1 = r.length := by have := Px.bk_pos _ _ h6; rw [List.length_tail]; omega
      have heq : (if d < 40 then Px.wrap p 2 (lst r.tail) else .error 13) = Px.wrap p 2 (lst r.tail) := by
        split
        · rfl
        · rename_i hn
          rw [(H3.out hn r.tail).1]; rfl
      have CG := Lib.hid (fun w1 b (h : FlAt w1 B F d r.tail es) (hb : w1.heap[b]? = some (.cells #[.pointer (some ⟨F, 0, none⟩)] 138 (0, 0))) => group_any B F d r.tail es p 2 3 147 (.pointer (some ⟨b, 0, none⟩)) (lst r.tail) w1 h hB hd rfl (by omega) enters147 (S1.out r.tail) (fun h40 w2 hf hk => H1.out h40 r.tail _ b w2 hf (hk.blk hb (by decide)) (by rw [List.length_append, List.length_singleton]; omega)))
      rw [heq, hpr] at CG
      rw [hpr] at CT
      clear h6 hpr heq
      cases hw : Px.wrap p 2 (lst r.tail) with
      | error n =>
        rw [hw] at CG
        unfold GoR fault at CG
        simp only at CG
        clear hw
        go_enter Tryz.func85, Tryz.ntmps85
        go_wp2_with (first
          | (go_at_call 144; go_fit CT.out; rintro e w1 ⟨⟨rfl, hf1⟩, hk1⟩; clear CT; have HX1 := Lib.hid (hk1.blk HX0.out (by decide)); have d0 := cell_blk (new_blk _ _ (.cells #[.string (str p.anchor), .string (str p.tag)] 117) _ HX1.out) 0 _ rfl; have HF1 := Lib.hid (hf1.call (bnew w1 (.cells #[.string (str p.anchor), .string (str p.tag)] 117)) hB); have HK1 := Lib.hid ((HK0.out.trans hk1).alloc hBw (.cells #[.string (str p.anchor), .string (str p.tag)] 117)); have HP1 := Lib.hid (alloc_blk w1 (.cells #[.string (str p.anchor), .string (str p.tag)] 117)); clear c0)
          | (go_at_call 145; go_fit (CS.out _ HF1.out); rintro e w2 ⟨rfl, hf2, hk2⟩; clear CS; have e0 := cell_blk (hk2.blk (new_blk _ _ (.cells #[.string (str p.anchor), .string (str p.tag)] 117) _ HX1.out) (by decide)) 0 _ rfl; have HX2 := Lib.hid (hk2.blk (new_blk _ _ (.cells #[.string (str p.anchor), .string (str p.tag)] 117) _ HX1.out) (by decide)); have HP2 := Lib.hid (hk2.blk HP1.out (by decide)); obtain ⟨⟨o0, o1⟩, _⟩ := two HP2.out; have HK2 := Lib.hid (HK1.out.trans hk2))
          | (go_at_call 146; go_fit (CG.out _ _ hf2 HX2.out); rintro e w5 ⟨rfl, hk5⟩))
        exact ⟨rfl, rfl, HK2.out.trans hk5⟩
      | ok z =>
        obtain ⟨q, xs⟩ := z
        rw [hw] at CG
        unfold GoR at CG
        simp only at CG
        clear hw
        go_enter Tryz.func85, Tryz.ntmps85
        go_wp2_with (first
          | (go_at_call 144; go_fit CT.out; rintro e w1 ⟨⟨rfl, hf1⟩, hk1⟩; clear CT; have HX1 := Lib.hid (hk1.blk HX0.out (by decide)); have d0 := cell_blk (new_blk _ _ (.cells #[.string (str p.anchor), .string (str p.tag)] 117) _ HX1.out) 0 _ rfl; have HF1 := Lib.hid (hf1.call (bnew w1 (.cells #[.string (str p.anchor), .string (str p.tag)] 117)) hB); have HK1 := Lib.hid ((HK0.out.trans hk1).alloc hBw (.cells #[.string (str p.anchor), .string (str p.tag)] 117)); have HP1 := Lib.hid (alloc_blk w1 (.cells #[.string (str p.anchor), .string (str p.tag)] 117)); clear c0)
          | (go_at_call 145; go_fit (CS.out _ HF1.out); rintro e w2 ⟨rfl, hf2, hk2⟩; clear CS; have e0 := cell_blk (hk2.blk (new_blk _ _ (.cells #[.string (str p.anchor), .string (str p.tag)] 117) _ HX1.out) (by decide)) 0 _ rfl; have HX2 := Lib.hid (hk2.blk (new_blk _ _ (.cells #[.string (str p.anchor), .string (str p.tag)] 117) _ HX1.out) (by decide)); have HP2 := Lib.hid (hk2.blk HP1.out (by decide)); obtain ⟨⟨o0, o1⟩, _⟩ := two HP2.out; have HK2 := Lib.hid (HK1.out.trans hk2))
          | (go_at_call 146; go_fit (CG.out _ _ hf2 HX2.out); rintro e w5 ⟨⟨rfl, hf5⟩, hk5⟩))
        go_end0
        exact ⟨⟨rfl, hf5⟩, HK2.out.trans hk5⟩

theorem node_any (B F : Nat) (hB : B ≤ F) : ∀ (k d : Nat), d + k = 40 → NodeR B F d (Px.node k) := by
  intro k
  induction k with
  | zero =>
    intro d hd
    have e : Px.node 0 = Px.nodeWith (fun _ => .error 13) (fun _ => .error 13) := by funext ws; rfl
    rw [e]
    exact node_step B F d hB (by omega) (fun _ => .error 13) (fun _ => .error 13) (fun _ => True.intro) (fun _ => True.intro) (fun h => absurd h (by omega)) (fun h => absurd h (by omega)) (fun _ _ => ⟨rfl, rfl⟩)
  | succ k ih =>
    intro d hd
    have e : Px.node (k + 1) = Px.nodeWith (fun r => Px.items (Px.node k) 7 (r.length + 1) r) (fun r => Px.items (Px.pair (Px.node k)) 9 (r.length + 1) r) := by funext ws; rfl
    rw [e]
    have hn := ih (d + 1) (by omega)
    exact node_step B F d hB (by omega) _ _ (fun r => Px.items_slim _ _ (Px.node_slim k) _ r) (fun r => Px.items_slim _ _ (Px.pair_slim _ (Px.node_slim k)) _ r) (fun _ => node1_any _ B F (d + 1) hB (Px.node_slim k) hn) (fun _ => node2_any _ B F (d + 1) hB (Px.node_slim k) hn) (fun h => absurd (by omega) h)

/-- what flowOf answers -/
def FlowR (B : Nat) (o : Except Nat (List Ev.E)) (e : Ending) (w' : World) : Prop := match o with
  | .ok es => ∃ v, e = .returned v ∧ OwnE w' B v es
  | .error n => e = fault n

set_option maxHeartbeats 4000000 in
set_option maxRecDepth 100000 in
theorem flowOf_any (v : Value) (ws : List Lx.Wd) (d : Nat) (w : World) (h : RdW w w.heap.size v ws) (hd : d ≤ 40) (hl : 2 * ws.length ≤ 2199023255480) :
    Calls Tryz.prog 51 #[v, .int .i64 d] w fun e w' => FlowR w.heap.size (Px.flowOf ws d) e w' ∧ Below w.heap.size w w' := by
  have hF : FlAt (w.alloc (.cells #[v, .int .i64 d, .slice none 0 0] 140)) w.heap.size w.heap.size d ws [] := ⟨v, _, alloc_blk w _, h.below (bnew w _), World.ownsRow_nil _ _ _ _⟩
  have CN := Lib.hid (node_any w.heap.size w.heap.size (Nat.le_refl _) (40 - d) d (by omega) ws [] _ hF (by simpa using hl))
  unfold Px.flowOf
  have HB := Lib.hid (bnew w (.cells #[v, .int .i64 d, .slice none 0 0] 140))
  obtain ⟨a, c, rfl, _, _⟩ := h
  clear hF
  cases hn : Px.node (40 - d) ws with
  | error n =>
    rw [hn] at CN
    unfold GoR fault at CN
    simp only at CN
    clear hn
    go_enter Tryz.func51, Tryz.ntmps51
    go_wp2_with (go_at_call 85; go_fit CN.out; rintro e w1 ⟨rfl, hk1⟩)
    exact ⟨rfl, rfl, HB.out.trans hk1.below⟩
  | ok y =>
    obtain ⟨r, es⟩ := y
    rw [hn] at CN
    unfold GoR at CN
    simp only at CN
    clear hn
    cases r with
    | nil =>
      go_enter Tryz.func51, Tryz.ntmps51
      go_wp2_with (go_at_call 85; go_fit CN.out; rintro e w1 ⟨⟨rfl, wv, ov, hF1, hW1, hO1⟩, hk1⟩; obtain ⟨a1, n1, rfl⟩ := hW1.nil_form; obtain ⟨⟨d0, d1, d2⟩, g0, g1, g2⟩ := three hF1; have HO := Lib.hid hO1; obtain ⟨oa, oc, rfl⟩ := own_slice hO1)
      go_ret
      exact ⟨⟨_, rfl, HO.out⟩, HB.out.trans hk1.below⟩
    | cons x t =>
      have hn1 : (0 : Int) < ((t.length + 1 : Nat) : Int) := by omega
      go_enter Tryz.func51, Tryz.ntmps51
      go_wp2_with (go_at_call 85; go_fit CN.out; rintro e w1 ⟨⟨rfl, wv, ov, hF1, hW1, hO1⟩, hk1⟩; obtain ⟨g, o, n1, rfl, _, _, _⟩ := hW1.cons; obtain ⟨⟨d0, d1, d2⟩, g0, g1, g2⟩ := three hF1)
      exact ⟨rfl, rfl, HB.out.trans hk1.below⟩
end Go.Proofs.YtjcfmghijfnehaaGreatDoor
