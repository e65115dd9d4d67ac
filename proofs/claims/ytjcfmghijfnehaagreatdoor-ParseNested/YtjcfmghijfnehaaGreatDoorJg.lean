/-
  Walks of flow: pair.
-/
import Derived.Test.YtjcfmghijfnehaaGreatDoorJf
namespace Go.Proofs.YtjcfmghijfnehaaGreatDoor
open Go.RowKit

set_option maxHeartbeats 8000000 in
set_option maxRecDepth 100000 in
theorem pair_any (nd : List Lx.Wd → Px.Rd) (B F d : Nat) (hB : B ≤ F) (hsl : ∀ us, Px.Slim 1 us (nd us))
    (hn : ∀ us xs w, FlAt w B F d us xs → xs.length + 2 * us.length ≤ 2199023255480 → Calls Tryz.prog 85 #[.pointer (some ⟨F, 0, none⟩)] w fun e w' => GoR B F d xs (nd us) e w' ∧ Keep flT B w w')
    (ws : List Lx.Wd) (es : List Ev.E) (w : World) (h : FlAt w B F d ws es) (hl : es.length + 2 * ws.length ≤ 2199023255480) :
    Calls Tryz.prog 150 #[.pointer (some ⟨F, 0, none⟩)] w fun e w' => GoR B F d es (Px.pair nd ws) e w' ∧ Keep flT B w w' := by
  have HH := Lib.hid h
  have HN := Lib.hid hn
  have HS := Lib.hid hsl
  obtain ⟨wv, ov, hF, hW, hO⟩ := h
  have hBw : B ≤ w.heap.size := Nat.le_trans hB (Nat.le_of_lt HH.out.lt)
  obtain ⟨⟨c0, c1, c2⟩, f0, f1, f2⟩ := three hF
  have cB := begins_any wv ws 11 B w hW
  have CE1 := Lib.hid (fun w => emptyNode_any w)
  have CE2 := Lib.hid (fun w => emptyNode_any w)
  have CP1 := Lib.hid (fun w1 (h : FlAt w1 B F d ws es) => put_any B F d ws es Px.hole w1 h hB (by omega))
  have hho : evV Px.hole = .agg #[.int .i64 6, .string ⟨#[]⟩, .string ⟨#[]⟩, .string ⟨#[]⟩, .bool true] := rfl
  rw [hho] at CE1 CE2 CP1
  clear hF hW hO hn hsl
  cases hb : Px.bk ws 11
  · rw [hb] at cB
    have CB := Lib.hid cB
    clear cB CP1 CE1
    have CT := Lib.hid (take_any B F d ws es w HH.out hB)
    cases hc : Px.cutP Px.nop ws with
    | error n =>
      rw [hc] at CT
      unfold TakeR fault at CT
      simp only at CT
      have hP : Px.pair nd ws = .error n := by unfold Px.pair Px.keyW; rw [hb, hc]; rfl
      have HP := Lib.hid hP
      clear hP hb hc CE2
      go_enter Tryz.func150, Tryz.ntmps150
      go_wp2_with (first
        | (go_at_call 178; go_fit CB.out; rintro e w1 ⟨rfl, rfl⟩; clear CB)
        | (go_at_call 144; go_fit CT.out; rintro e w1 ⟨rfl, hk1⟩; clear CT))
      exact ⟨rfl, by rw [HP.out]; rfl, hk1⟩
    | ok y =>
      obtain ⟨p, r1⟩ := y
      have hlr := Px.cutP_len ws _ _ _ hc
      rw [hc] at CT
      unfold TakeR at CT
      simp only at CT
      have CL := Lib.hid (fun w1 h => leaf_any B F d r1 es p w1 h hB (by omega))
      have hLS := Px.leafW_slim p r1
      have hkk : Px.keyW ws = Px.leafW p r1 := by unfold Px.keyW; rw [hb, hc]; rfl
      clear hb hc
      cases hlw : Px.leafW p r1 with
      | error n =>
        rw [hlw] at CL hkk
        unfold GoR fault at CL
        simp only at CL
        have hP : Px.pair nd ws = .error n := by unfold Px.pair; rw [hkk]
        have HP := Lib.hid hP
        clear hP hkk hlw hLS CE2
        go_enter Tryz.func150, Tryz.ntmps150
        go_wp2_with (first
          | (go_at_call 178; go_fit CB.out; rintro e w1 ⟨rfl, rfl⟩; clear CB)
          | (go_at_call 144; go_fit CT.out; rintro e w1 ⟨⟨rfl, hf1⟩, hk1⟩; clear CT)
          | (go_at_call 151; go_fit (CL.out _ hf1); rintro e w2 ⟨rfl, hk2⟩; clear CL))
        exact ⟨rfl, by rw [HP.out]; rfl, hk1.trans hk2⟩
      | ok z =>
        obtain ⟨r, ys⟩ := z
        rw [hlw] at CL hkk hLS
        unfold GoR at CL
        simp only at CL
        obtain ⟨hs1, hs2, hs3⟩ := hLS
        have hlen2 : (es ++ ys).length ≤ 2199023255488 := by rw [List.length_append]; omega
        have hlen3 : (es ++ ys).length + 2 * r.tail.length ≤ 2199023255480 := by rw [List.length_append, List.length_tail]; omega
        clear hlw
        have hkey : Px.keyW ws = .ok (r, ys) := hkk
        have C3 := Lib.hid (fun w1 h => skips_any B F d 11 (r) (es ++ ys) w1 h hB)
        cases h11 : Px.bk (r) 11
        · rw [h11] at C3
          simp only [Bool.false_eq_true, if_false] at C3
          have hP : Px.pair nd ws = .ok (r, ys ++ [Px.hole]) := by unfold Px.pair; rw [hkey]; simp only; rw [h11]; rfl
          have HP := Lib.hid hP
          have CP2 := Lib.hid (fun w1 (h : FlAt w1 B F d (r) (es ++ ys)) => put_any B F d (r) (es ++ ys) Px.hole w1 h hB hlen2)
          rw [hho] at CP2
          clear hP hkey h11 hho
          go_enter Tryz.func150, Tryz.ntmps150
          go_wp2_with (first
            | (go_at_call 178; go_fit CB.out; rintro e w1 ⟨rfl, rfl⟩; clear CB)
            | (go_at_call 144; go_fit CT.out; rintro e w1 ⟨⟨rfl, hf1⟩, hk1⟩; clear CT)
            | (go_at_call 151; go_fit (CL.out _ hf1); rintro e w2 ⟨⟨rfl, hf2⟩, hk2⟩; clear CL; have HK2 := Lib.hid (hk1.trans hk2))
            | (go_at_call 145; go_fit (C3.out _ hf2); rintro e w3 ⟨rfl, hf3, hk3⟩; clear C3; have HF3 := Lib.hid hf3; have HK3 := Lib.hid (HK2.out.trans hk3); obtain ⟨wv3, ov3, hF3, hW3, hO3⟩ := hf3; obtain ⟨⟨d0, d1, d2⟩, g0, g1, g2⟩ := three hF3; clear hF3 hO3)
            | (go_at_call 177; go_fit (CE2.out _); rintro e w6 ⟨rfl, hb6⟩; clear CE2; have hf6 := HF3.out.call hb6 hB; have HK6 := Lib.hid (HK3.out.call hb6 hBw))
            | (go_at_call 202; go_fit (CP2.out _ hf6); rintro e w7 ⟨rfl, hf7, hk7⟩; have HK7 := Lib.hid (HK6.out.trans hk7)))
          go_end0
          exact ⟨by rw [HP.out]; exact ⟨rfl, by rw [← List.append_assoc]; exact hf7⟩, HK7.out⟩
        · rw [h11] at C3
          simp only [if_true] at C3
          have hrt : (r).tail.length + 1 = (r).length := by have := Px.bk_pos _ _ h11; rw [List.length_tail]; omega
          have C4 := Lib.hid (fun v w1 (h : RdW w1 B v (r).tail) => begins_any v (r).tail 10 B w1 h)
          have C5 := Lib.hid (fun v w1 (h : RdW w1 B v (r).tail) => begins_any v (r).tail 9 B w1 h)
          cases h10 : Px.bk (r).tail 10
          · rw [h10] at C4
            cases h9 : Px.bk (r).tail 9
            · rw [h9] at C5
              have hP : Px.pair nd ws = Px.pre (ys) (nd (r).tail) := by unfold Px.pair; rw [hkey]; simp only; rw [h11, h10, h9]; rfl
              have CN := Lib.hid (fun w1 h => HN.out (r).tail (es ++ ys) w1 h hlen3)
              have hS := HS.out (r).tail
              clear hkey h11 hho h10 h9 CE2
              cases hno : nd (r).tail with
              | error e =>
                rw [hno] at CN hP
                unfold GoR fault at CN
                simp only at CN
                have HP := Lib.hid hP
                clear hP hno hS
                go_enter Tryz.func150, Tryz.ntmps150
                go_wp2_with (first
                  | (go_at_call 178; go_fit CB.out; rintro e w1 ⟨rfl, rfl⟩; clear CB)
                  | (go_at_call 144; go_fit CT.out; rintro e w1 ⟨⟨rfl, hf1⟩, hk1⟩; clear CT)
                  | (go_at_call 151; go_fit (CL.out _ hf1); rintro e w2 ⟨⟨rfl, hf2⟩, hk2⟩; clear CL; have HK2 := Lib.hid (hk1.trans hk2))
                  | (go_at_call 145; go_fit (C3.out _ hf2); rintro e w3 ⟨rfl, hf3, hk3⟩; clear C3; have HF3 := Lib.hid hf3; have HK3 := Lib.hid (HK2.out.trans hk3); obtain ⟨wv3, ov3, hF3, hW3, hO3⟩ := hf3; obtain ⟨⟨d0, d1, d2⟩, g0, g1, g2⟩ := three hF3; clear hF3 hO3)
                  | (go_at_call 178; go_fit (C4.out _ _ hW3); rintro e w4 ⟨rfl, rfl⟩; clear C4)
                  | (go_at_call 178; go_fit (C5.out _ _ hW3); rintro e w5 ⟨rfl, rfl⟩; clear C5)
                  | (go_at_call 85; go_fit (CN.out _ HF3.out); rintro e w6 ⟨rfl, hk6⟩))
                exact ⟨rfl, by rw [HP.out]; rfl, HK3.out.trans hk6⟩
              | ok y =>
                obtain ⟨r6, ys6⟩ := y
                rw [hno] at CN hP
                unfold GoR at CN
                simp only at CN
                have HP := Lib.hid hP
                clear hP hno hS
                go_enter Tryz.func150, Tryz.ntmps150
                go_wp2_with (first
                  | (go_at_call 178; go_fit CB.out; rintro e w1 ⟨rfl, rfl⟩; clear CB)
                  | (go_at_call 144; go_fit CT.out; rintro e w1 ⟨⟨rfl, hf1⟩, hk1⟩; clear CT)
                  | (go_at_call 151; go_fit (CL.out _ hf1); rintro e w2 ⟨⟨rfl, hf2⟩, hk2⟩; clear CL; have HK2 := Lib.hid (hk1.trans hk2))
                  | (go_at_call 145; go_fit (C3.out _ hf2); rintro e w3 ⟨rfl, hf3, hk3⟩; clear C3; have HF3 := Lib.hid hf3; have HK3 := Lib.hid (HK2.out.trans hk3); obtain ⟨wv3, ov3, hF3, hW3, hO3⟩ := hf3; obtain ⟨⟨d0, d1, d2⟩, g0, g1, g2⟩ := three hF3; clear hF3 hO3)
                  | (go_at_call 178; go_fit (C4.out _ _ hW3); rintro e w4 ⟨rfl, rfl⟩; clear C4)
                  | (go_at_call 178; go_fit (C5.out _ _ hW3); rintro e w5 ⟨rfl, rfl⟩; clear C5)
                  | (go_at_call 85; go_fit (CN.out _ HF3.out); rintro e w6 ⟨⟨rfl, hf6⟩, hk6⟩))
                go_end0
                exact ⟨by rw [HP.out]; exact ⟨rfl, by rw [← List.append_assoc]; exact hf6⟩, HK3.out.trans hk6⟩
            · rw [h9] at C5
              have hP : Px.pair nd ws = .ok ((r).tail, ys ++ [Px.hole]) := by unfold Px.pair; rw [hkey]; simp only; rw [h11, h10, h9]; rfl
              have HP := Lib.hid hP
              have CP2 := Lib.hid (fun w1 (h : FlAt w1 B F d (r).tail (es ++ ys)) => put_any B F d (r).tail (es ++ ys) Px.hole w1 h hB hlen2)
              rw [hho] at CP2
              clear hP hkey h11 hho h10 h9
              go_enter Tryz.func150, Tryz.ntmps150
              go_wp2_with (first
                | (go_at_call 178; go_fit CB.out; rintro e w1 ⟨rfl, rfl⟩; clear CB)
                | (go_at_call 144; go_fit CT.out; rintro e w1 ⟨⟨rfl, hf1⟩, hk1⟩; clear CT)
                | (go_at_call 151; go_fit (CL.out _ hf1); rintro e w2 ⟨⟨rfl, hf2⟩, hk2⟩; clear CL; have HK2 := Lib.hid (hk1.trans hk2))
                | (go_at_call 145; go_fit (C3.out _ hf2); rintro e w3 ⟨rfl, hf3, hk3⟩; clear C3; have HF3 := Lib.hid hf3; have HK3 := Lib.hid (HK2.out.trans hk3); obtain ⟨wv3, ov3, hF3, hW3, hO3⟩ := hf3; obtain ⟨⟨d0, d1, d2⟩, g0, g1, g2⟩ := three hF3; clear hF3 hO3)
                | (go_at_call 178; go_fit (C4.out _ _ hW3); rintro e w4 ⟨rfl, rfl⟩; clear C4)
                | (go_at_call 178; go_fit (C5.out _ _ hW3); rintro e w5 ⟨rfl, rfl⟩; clear C5)
                | (go_at_call 177; go_fit (CE2.out _); rintro e w6 ⟨rfl, hb6⟩; clear CE2; have hf6 := HF3.out.call hb6 hB; have HK6 := Lib.hid (HK3.out.call hb6 hBw))
                | (go_at_call 202; go_fit (CP2.out _ hf6); rintro e w7 ⟨rfl, hf7, hk7⟩; have HK7 := Lib.hid (HK6.out.trans hk7)))
              go_end0
              exact ⟨by rw [HP.out]; exact ⟨rfl, by rw [← List.append_assoc]; exact hf7⟩, HK7.out⟩
          · rw [h10] at C4
            have hP : Px.pair nd ws = .ok ((r).tail, ys ++ [Px.hole]) := by unfold Px.pair; rw [hkey]; simp only; rw [h11, h10]; rfl
            have HP := Lib.hid hP
            have CP2 := Lib.hid (fun w1 (h : FlAt w1 B F d (r).tail (es ++ ys)) => put_any B F d (r).tail (es ++ ys) Px.hole w1 h hB hlen2)
            rw [hho] at CP2
            clear hP hkey h11 hho h10 C5
            go_enter Tryz.func150, Tryz.ntmps150
            go_wp2_with (first
              | (go_at_call 178; go_fit CB.out; rintro e w1 ⟨rfl, rfl⟩; clear CB)
              | (go_at_call 144; go_fit CT.out; rintro e w1 ⟨⟨rfl, hf1⟩, hk1⟩; clear CT)
              | (go_at_call 151; go_fit (CL.out _ hf1); rintro e w2 ⟨⟨rfl, hf2⟩, hk2⟩; clear CL; have HK2 := Lib.hid (hk1.trans hk2))
              | (go_at_call 145; go_fit (C3.out _ hf2); rintro e w3 ⟨rfl, hf3, hk3⟩; clear C3; have HF3 := Lib.hid hf3; have HK3 := Lib.hid (HK2.out.trans hk3); obtain ⟨wv3, ov3, hF3, hW3, hO3⟩ := hf3; obtain ⟨⟨d0, d1, d2⟩, g0, g1, g2⟩ := three hF3; clear hF3 hO3)
              | (go_at_call 178; go_fit (C4.out _ _ hW3); rintro e w4 ⟨rfl, rfl⟩; clear C4)
              | (go_at_call 177; go_fit (CE2.out _); rintro e w6 ⟨rfl, hb6⟩; clear CE2; have hf6 := HF3.out.call hb6 hB; have HK6 := Lib.hid (HK3.out.call hb6 hBw))
              | (go_at_call 202; go_fit (CP2.out _ hf6); rintro e w7 ⟨rfl, hf7, hk7⟩; have HK7 := Lib.hid (HK6.out.trans hk7)))
            go_end0
            exact ⟨by rw [HP.out]; exact ⟨rfl, by rw [← List.append_assoc]; exact hf7⟩, HK7.out⟩
  · rw [hb] at cB
    have CB := Lib.hid cB
    have hlen2 : (es ++ [Px.hole]).length ≤ 2199023255488 := by rw [List.length_append, List.length_singleton]; omega
    have hwp := Px.bk_pos ws 11 hb
    have hlen3 : (es ++ [Px.hole]).length + 2 * ws.tail.length ≤ 2199023255480 := by rw [List.length_append, List.length_singleton, List.length_tail]; omega
    clear cB
    have hkey : Px.keyW ws = .ok (ws, [Px.hole]) := by unfold Px.keyW; rw [hb]; rfl
    have C3 := Lib.hid (fun w1 h => skips_any B F d 11 (ws) (es ++ [Px.hole]) w1 h hB)
    cases h11 : Px.bk (ws) 11
    · rw [h11] at C3
      simp only [Bool.false_eq_true, if_false] at C3
      have hP : Px.pair nd ws = .ok (ws, [Px.hole] ++ [Px.hole]) := by unfold Px.pair; rw [hkey]; simp only; rw [h11]; rfl
      have HP := Lib.hid hP
      have CP2 := Lib.hid (fun w1 (h : FlAt w1 B F d (ws) (es ++ [Px.hole])) => put_any B F d (ws) (es ++ [Px.hole]) Px.hole w1 h hB hlen2)
      rw [hho] at CP2
      clear hP hkey h11 hho
      go_enter Tryz.func150, Tryz.ntmps150
      go_wp2_with (first
        | (go_at_call 178; go_fit CB.out; rintro e w1 ⟨rfl, rfl⟩; clear CB)
        | (go_at_call 177; go_fit (CE1.out _); rintro e w1 ⟨rfl, hb1⟩; clear CE1; have hf1 := HH.out.call hb1 hB; have HK1 := Lib.hid (keep_of (ts := flT) hb1 hBw))
        | (go_at_call 202; go_fit (CP1.out _ hf1); rintro e w2 ⟨rfl, hf2, hk2⟩; clear CP1; have HK2 := Lib.hid (HK1.out.trans hk2))
        | (go_at_call 145; go_fit (C3.out _ hf2); rintro e w3 ⟨rfl, hf3, hk3⟩; clear C3; have HF3 := Lib.hid hf3; have HK3 := Lib.hid (HK2.out.trans hk3); obtain ⟨wv3, ov3, hF3, hW3, hO3⟩ := hf3; obtain ⟨⟨d0, d1, d2⟩, g0, g1, g2⟩ := three hF3; clear hF3 hO3)
        | (go_at_call 177; go_fit (CE2.out _); rintro e w6 ⟨rfl, hb6⟩; clear CE2; have hf6 := HF3.out.call hb6 hB; have HK6 := Lib.hid (HK3.out.call hb6 hBw))
        | (go_at_call 202; go_fit (CP2.out _ hf6); rintro e w7 ⟨rfl, hf7, hk7⟩; have HK7 := Lib.hid (HK6.out.trans hk7)))
      go_end0
      exact ⟨by rw [HP.out]; exact ⟨rfl, by rw [← List.append_assoc]; exact hf7⟩, HK7.out⟩
    · rw [h11] at C3
      simp only [if_true] at C3
      have hrt : (ws).tail.length + 1 = (ws).length := by have := Px.bk_pos _ _ h11; rw [List.length_tail]; omega
      have C4 := Lib.hid (fun v w1 (h : RdW w1 B v (ws).tail) => begins_any v (ws).tail 10 B w1 h)
      have C5 := Lib.hid (fun v w1 (h : RdW w1 B v (ws).tail) => begins_any v (ws).tail 9 B w1 h)
      cases h10 : Px.bk (ws).tail 10
      · rw [h10] at C4
        cases h9 : Px.bk (ws).tail 9
        · rw [h9] at C5
          have hP : Px.pair nd ws = Px.pre ([Px.hole]) (nd (ws).tail) := by unfold Px.pair; rw [hkey]; simp only; rw [h11, h10, h9]; rfl
          have CN := Lib.hid (fun w1 h => HN.out (ws).tail (es ++ [Px.hole]) w1 h hlen3)
          have hS := HS.out (ws).tail
          clear hkey h11 hho h10 h9 CE2
          cases hno : nd (ws).tail with
          | error e =>
            rw [hno] at CN hP
            unfold GoR fault at CN
            simp only at CN
            have HP := Lib.hid hP
            clear hP hno hS
            go_enter Tryz.func150, Tryz.ntmps150
            go_wp2_with (first
              | (go_at_call 178; go_fit CB.out; rintro e w1 ⟨rfl, rfl⟩; clear CB)
              | (go_at_call 177; go_fit (CE1.out _); rintro e w1 ⟨rfl, hb1⟩; clear CE1; have hf1 := HH.out.call hb1 hB; have HK1 := Lib.hid (keep_of (ts := flT) hb1 hBw))
              | (go_at_call 202; go_fit (CP1.out _ hf1); rintro e w2 ⟨rfl, hf2, hk2⟩; clear CP1; have HK2 := Lib.hid (HK1.out.trans hk2))
              | (go_at_call 145; go_fit (C3.out _ hf2); rintro e w3 ⟨rfl, hf3, hk3⟩; clear C3; have HF3 := Lib.hid hf3; have HK3 := Lib.hid (HK2.out.trans hk3); obtain ⟨wv3, ov3, hF3, hW3, hO3⟩ := hf3; obtain ⟨⟨d0, d1, d2⟩, g0, g1, g2⟩ := three hF3; clear hF3 hO3)
              | (go_at_call 178; go_fit (C4.out _ _ hW3); rintro e w4 ⟨rfl, rfl⟩; clear C4)
              | (go_at_call 178; go_fit (C5.out _ _ hW3); rintro e w5 ⟨rfl, rfl⟩; clear C5)
              | (go_at_call 85; go_fit (CN.out _ HF3.out); rintro e w6 ⟨rfl, hk6⟩))
            exact ⟨rfl, by rw [HP.out]; rfl, HK3.out.trans hk6⟩
          | ok y =>
            obtain ⟨r6, ys6⟩ := y
            rw [hno] at CN hP
            unfold GoR at CN
            simp only at CN
            have HP := Lib.hid hP
            clear hP hno hS
            go_enter Tryz.func150, Tryz.ntmps150
            go_wp2_with (first
              | (go_at_call 178; go_fit CB.out; rintro e w1 ⟨rfl, rfl⟩; clear CB)
              | (go_at_call 177; go_fit (CE1.out _); rintro e w1 ⟨rfl, hb1⟩; clear CE1; have hf1 := HH.out.call hb1 hB; have HK1 := Lib.hid (keep_of (ts := flT) hb1 hBw))
              | (go_at_call 202; go_fit (CP1.out _ hf1); rintro e w2 ⟨rfl, hf2, hk2⟩; clear CP1; have HK2 := Lib.hid (HK1.out.trans hk2))
              | (go_at_call 145; go_fit (C3.out _ hf2); rintro e w3 ⟨rfl, hf3, hk3⟩; clear C3; have HF3 := Lib.hid hf3; have HK3 := Lib.hid (HK2.out.trans hk3); obtain ⟨wv3, ov3, hF3, hW3, hO3⟩ := hf3; obtain ⟨⟨d0, d1, d2⟩, g0, g1, g2⟩ := three hF3; clear hF3 hO3)
              | (go_at_call 178; go_fit (C4.out _ _ hW3); rintro e w4 ⟨rfl, rfl⟩; clear C4)
              | (go_at_call 178; go_fit (C5.out _ _ hW3); rintro e w5 ⟨rfl, rfl⟩; clear C5)
              | (go_at_call 85; go_fit (CN.out _ HF3.out); rintro e w6 ⟨⟨rfl, hf6⟩, hk6⟩))
            go_end0
            exact ⟨by rw [HP.out]; exact ⟨rfl, by rw [← List.append_assoc]; exact hf6⟩, HK3.out.trans hk6⟩
        · rw [h9] at C5
          have hP : Px.pair nd ws = .ok ((ws).tail, [Px.hole] ++ [Px.hole]) := by unfold Px.pair; rw [hkey]; simp only; rw [h11, h10, h9]; rfl
          have HP := Lib.hid hP
          have CP2 := Lib.hid (fun w1 (h : FlAt w1 B F d (ws).tail (es ++ [Px.hole])) => put_any B F d (ws).tail (es ++ [Px.hole]) Px.hole w1 h hB hlen2)
          rw [hho] at CP2
          clear hP hkey h11 hho h10 h9
          go_enter Tryz.func150, Tryz.ntmps150
          go_wp2_with (first
            | (go_at_call 178; go_fit CB.out; rintro e w1 ⟨rfl, rfl⟩; clear CB)
            | (go_at_call 177; go_fit (CE1.out _); rintro e w1 ⟨rfl, hb1⟩; clear CE1; have hf1 := HH.out.call hb1 hB; have HK1 := Lib.hid (keep_of (ts := flT) hb1 hBw))
            | (go_at_call 202; go_fit (CP1.out _ hf1); rintro e w2 ⟨rfl, hf2, hk2⟩; clear CP1; have HK2 := Lib.hid (HK1.out.trans hk2))
            | (go_at_call 145; go_fit (C3.out _ hf2); rintro e w3 ⟨rfl, hf3, hk3⟩; clear C3; have HF3 := Lib.hid hf3; have HK3 := Lib.hid (HK2.out.trans hk3); obtain ⟨wv3, ov3, hF3, hW3, hO3⟩ := hf3; obtain ⟨⟨d0, d1, d2⟩, g0, g1, g2⟩ := three hF3; clear hF3 hO3)
            | (go_at_call 178; go_fit (C4.out _ _ hW3); rintro e w4 ⟨rfl, rfl⟩; clear C4)
            | (go_at_call 178; go_fit (C5.out _ _ hW3); rintro e w5 ⟨rfl, rfl⟩; clear C5)
            | (go_at_call 177; go_fit (CE2.out _); rintro e w6 ⟨rfl, hb6⟩; clear CE2; have hf6 := HF3.out.call hb6 hB; have HK6 := Lib.hid (HK3.out.call hb6 hBw))
            | (go_at_call 202; go_fit (CP2.out _ hf6); rintro e w7 ⟨rfl, hf7, hk7⟩; have HK7 := Lib.hid (HK6.out.trans hk7)))
          go_end0
          exact ⟨by rw [HP.out]; exact ⟨rfl, by rw [← List.append_assoc]; exact hf7⟩, HK7.out⟩
      · rw [h10] at C4
        have hP : Px.pair nd ws = .ok ((ws).tail, [Px.hole] ++ [Px.hole]) := by unfold Px.pair; rw [hkey]; simp only; rw [h11, h10]; rfl
        have HP := Lib.hid hP
        have CP2 := Lib.hid (fun w1 (h : FlAt w1 B F d (ws).tail (es ++ [Px.hole])) => put_any B F d (ws).tail (es ++ [Px.hole]) Px.hole w1 h hB hlen2)
        rw [hho] at CP2
        clear hP hkey h11 hho h10 C5
        go_enter Tryz.func150, Tryz.ntmps150
        go_wp2_with (first
          | (go_at_call 178; go_fit CB.out; rintro e w1 ⟨rfl, rfl⟩; clear CB)
          | (go_at_call 177; go_fit (CE1.out _); rintro e w1 ⟨rfl, hb1⟩; clear CE1; have hf1 := HH.out.call hb1 hB; have HK1 := Lib.hid (keep_of (ts := flT) hb1 hBw))
          | (go_at_call 202; go_fit (CP1.out _ hf1); rintro e w2 ⟨rfl, hf2, hk2⟩; clear CP1; have HK2 := Lib.hid (HK1.out.trans hk2))
          | (go_at_call 145; go_fit (C3.out _ hf2); rintro e w3 ⟨rfl, hf3, hk3⟩; clear C3; have HF3 := Lib.hid hf3; have HK3 := Lib.hid (HK2.out.trans hk3); obtain ⟨wv3, ov3, hF3, hW3, hO3⟩ := hf3; obtain ⟨⟨d0, d1, d2⟩, g0, g1, g2⟩ := three hF3; clear hF3 hO3)
          | (go_at_call 178; go_fit (C4.out _ _ hW3); rintro e w4 ⟨rfl, rfl⟩; clear C4)
          | (go_at_call 177; go_fit (CE2.out _); rintro e w6 ⟨rfl, hb6⟩; clear CE2; have hf6 := HF3.out.call hb6 hB; have HK6 := Lib.hid (HK3.out.call hb6 hBw))
          | (go_at_call 202; go_fit (CP2.out _ hf6); rintro e w7 ⟨rfl, hf7, hk7⟩; have HK7 := Lib.hid (HK6.out.trans hk7)))
        go_end0
        exact ⟨by rw [HP.out]; exact ⟨rfl, by rw [← List.append_assoc]; exact hf7⟩, HK7.out⟩
end Go.Proofs.YtjcfmghijfnehaaGreatDoor
