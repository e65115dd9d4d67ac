/-
  Walks of flow: items.
-/
import Derived.Test.YtjcfmghijfnehaaGreatDoorJe
namespace Go.Proofs.YtjcfmghijfnehaaGreatDoor
open Go.RowKit
namespace Px
theorem pre_pre (a b : List Ev.E) (r : Rd) : pre a (pre b r) = pre (a ++ b) r := by
  cases r with
  | error e => rfl
  | ok y => obtain ⟨r, es⟩ := y; simp [pre]
theorem pre_nil (r : Rd) : pre [] r = r := by
  cases r with
  | error e => rfl
  | ok y => obtain ⟨r, es⟩ := y; rfl
end Px

/-- how many words are left -/
def lenAt (F : Nat) (w : World) : Nat := match w.cell? ⟨F, 0, none⟩ with
  | some v => lenS v
  | none => 0
theorem FlAt.lenAt {w : World} {B F d : Nat} {ws : List Lx.Wd} {es : List Ev.E} (h : FlAt w B F d ws es) : lenAt F w = ws.length := by
  obtain ⟨wv, ov, h1, ⟨a, c, rfl, _, _⟩, _⟩ := h
  have := cell_blk h1 0 _ rfl
  unfold Go.Proofs.YtjcfmghijfnehaaGreatDoor.lenAt
  rw [this]; rfl
theorem GoR.of_eq {B F d : Nat} {es : List Ev.E} {o o' : Px.Rd} {e : Ending} {w : World} (h : o = o') (hg : GoR B F d es o e w) : GoR B F d es o' e w := by rw [← h]; exact hg

set_option maxHeartbeats 4000000 in
set_option maxRecDepth 100000 in
theorem items_any (one : List Lx.Wd → Px.Rd) (close B F d g : Nat) (hB : B ≤ F) (eg : ∀ args w, (callFunc g args).run Tryz.prog w = .ok (.enter g args) w) (hsl : ∀ us, Px.Slim 1 us (one us))
    (hone : ∀ us xs w, FlAt w B F d us xs → xs.length + 2 * us.length ≤ 2199023255480 → Calls Tryz.prog g #[.pointer (some ⟨F, 0, none⟩)] w fun e w' => GoR B F d xs (one us) e w' ∧ Keep flT B w w')
    (ws : List Lx.Wd) (es : List Ev.E) (w : World) (h : FlAt w B F d ws es) (hl : es.length + 2 * ws.length ≤ 2199023255480) (m : Nat) (hm : ws.length < m) :
    Calls Tryz.prog 148 #[.pointer (some ⟨F, 0, none⟩), .int .i64 close, .func (.func g) #[.pointer (some ⟨F, 0, none⟩)] #[]] w fun e w' => GoR B F d es (Px.items one close m ws) e w' ∧ Keep flT B w w' := by
  obtain ⟨ANS, hANS⟩ : ∃ ANS, Px.items one close m ws = ANS := ⟨_, rfl⟩
  rw [hANS]
  have HA : Hid (Px.pre [] (Px.items one close m ws) = ANS) := by show _ = _; rw [Px.pre_nil]; exact hANS
  have HH := Lib.hid h
  have HN := Lib.hid hone
  have HS := Lib.hid hsl
  clear hANS h hone hsl
  go_enter Tryz.func148, Tryz.ntmps148
  go_wp2
  go_loopw [] (fun wr => ∃ (us : List Lx.Wd) (xs : List Ev.E) (n : Nat), Hid (FlAt wr B F d us (es ++ xs)) ∧ us.length < n ∧ Hid (Px.pre xs (Px.items one close n us) = ANS) ∧ Hid (Keep flT B w wr) ∧ (es ++ xs).length + 2 * us.length ≤ 2199023255480) (fun wr => lenAt F wr)
  case atStart => exact ⟨ws, [], m, by rw [List.append_nil]; exact HH.out, hm, HA, Keep.refl _ _ _, by rw [List.append_nil]; exact hl⟩
  case round =>
    obtain ⟨us, xs, n, HU, hun, HK, HKp, hul⟩ := hrel
    obtain ⟨k, rfl⟩ : ∃ k, n = k + 1 := ⟨n - 1, by omega⟩
    have hK := HK.out
    unfold Px.items at hK
    have HL := Lib.hid HU.out.lenAt
    have c1 := skips_any B F d close us (es ++ xs) wr HU.out hB
    clear HA HK HH hl hm
    cases hb : Px.bk us close
    · rw [hb] at hK c1
      simp only [Bool.false_eq_true, if_false] at hK c1
      have C1 := Lib.hid c1
      have C2 := Lib.hid (fun w1 h => HN.out us (es ++ xs) w1 h hul)
      have hS := HS.out us
      clear c1 hb
      cases ho : one us with
      | error e =>
        rw [ho] at hK C2
        unfold GoR fault at C2
        simp only at hK C2
        clear ho hS
        go_wp2_with (first
          | (go_at_call 145; go_fit C1.out; rintro e w1 ⟨rfl, hf1, hk1⟩; clear C1)
          | (go_at_fn g; go_fit (C2.out _ hf1); rintro e w2 ⟨rfl, hk2⟩))
        exact ⟨rfl, by rw [← hK]; rfl, (HKp.out.trans hk1).trans hk2⟩
      | ok y =>
        obtain ⟨r, ys⟩ := y
        rw [ho] at hK C2 hS
        obtain ⟨hs1, hs2, hs3⟩ := hS
        unfold GoR at C2
        simp only at hK C2
        have C3 := Lib.hid (fun w1 h => skips_any B F d 10 r ((es ++ xs) ++ ys) w1 h hB)
        clear ho
        cases hc : Px.bk r 10
        · rw [hc] at hK C3
          simp only [Bool.false_eq_true, if_false] at hK C3
          have C4 := Lib.hid (fun v w1 (h : RdW w1 B v r) => begins_any v r close B w1 h)
          cases hd : Px.bk r close
          · rw [hd] at hK C4
            simp only [Bool.false_eq_true, if_false] at hK
            clear hc hd
            go_wp2_with (first
              | (go_at_call 145; go_fit C1.out; rintro e w1 ⟨rfl, hf1, hk1⟩; clear C1)
              | (go_at_fn g; go_fit (C2.out _ hf1); rintro e w2 ⟨⟨rfl, hf2⟩, hk2⟩; clear C2)
              | (go_at_call 145; go_fit (C3.out _ hf2); rintro e w3 ⟨rfl, ⟨wv, ov, hF3, hW3, hO3⟩, hk3⟩; clear C3; have HF3 := Lib.hid hF3; obtain ⟨⟨c0, c1, c2⟩, f0, f1, f2⟩ := three hF3; clear hF3)
              | (go_at_call 178; go_fit (C4.out _ _ hW3); rintro e w4 ⟨rfl, rfl⟩))
            exact ⟨rfl, by rw [← hK]; rfl, ((HKp.out.trans hk1).trans hk2).trans hk3⟩
          · rw [hd] at hK C4
            simp only [if_true] at hK
            rw [Px.pre_pre] at hK
            have HK2 := Lib.hid hK
            clear hc hd hK
            go_wp2_with (first
              | (go_at_call 145; go_fit C1.out; rintro e w1 ⟨rfl, hf1, hk1⟩; clear C1)
              | (go_at_fn g; go_fit (C2.out _ hf1); rintro e w2 ⟨⟨rfl, hf2⟩, hk2⟩; clear C2)
              | (go_at_call 145; go_fit (C3.out _ hf2); rintro e w3 ⟨rfl, hf3, hk3⟩; clear C3; have HF3 := Lib.hid hf3; obtain ⟨wv, ov, hF3, hW3, hO3⟩ := hf3; obtain ⟨⟨c0, c1, c2⟩, f0, f1, f2⟩ := three hF3; clear hF3)
              | (go_at_call 178; go_fit (C4.out _ _ hW3); rintro e w4 ⟨rfl, rfl⟩))
            go_roundw
            case rel => exact ⟨r, xs ++ ys, k, by rw [← List.append_assoc]; exact HF3.out, by omega, HK2.out, ((HKp.out.trans hk1).trans hk2).trans hk3, by rw [← List.append_assoc, List.length_append]; omega⟩
            case measure => rw [HF3.out.lenAt, HL.out]; omega
        · rw [hc] at hK C3
          simp only [if_true] at hK C3
          rw [Px.pre_pre] at hK
          have HK2 := Lib.hid hK
          have hrt : r.tail.length ≤ r.length := by rw [List.length_tail]; omega
          clear hc hK
          go_wp2_with (first
            | (go_at_call 145; go_fit C1.out; rintro e w1 ⟨rfl, hf1, hk1⟩; clear C1)
            | (go_at_fn g; go_fit (C2.out _ hf1); rintro e w2 ⟨⟨rfl, hf2⟩, hk2⟩; clear C2)
            | (go_at_call 145; go_fit (C3.out _ hf2); rintro e w3 ⟨rfl, hf3, hk3⟩; clear C3; have HF3 := Lib.hid hf3; clear hf3))
          go_roundw
          case rel => exact ⟨r.tail, xs ++ ys, k, by rw [← List.append_assoc]; exact HF3.out, by omega, HK2.out, ((HKp.out.trans hk1).trans hk2).trans hk3, by rw [← List.append_assoc, List.length_append]; omega⟩
          case measure => rw [HF3.out.lenAt, HL.out]; omega
    · rw [hb] at hK c1
      simp only [if_true] at hK c1
      have C1 := Lib.hid c1
      clear c1 hb
      go_wp2_with (go_at_call 145; go_fit C1.out; rintro e w1 ⟨rfl, hf1, hk1⟩; clear C1)
      go_end0
      exact ⟨by rw [← hK]; exact ⟨rfl, by rw [List.append_nil]; exact hf1⟩, HKp.out.trans hk1⟩
end Go.Proofs.YtjcfmghijfnehaaGreatDoor
