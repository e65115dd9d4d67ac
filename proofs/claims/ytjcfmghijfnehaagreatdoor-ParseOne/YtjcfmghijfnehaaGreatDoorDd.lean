/-
  The walk of ParseOne.
-/
import Derived.Test.YtjcfmghijfnehaaGreatDoorDb
import Derived.Test.YtjcfmghijfnehaaGreatDoorKj
namespace Go.Proofs.YtjcfmghijfnehaaGreatDoor
open Go.RowKit
theorem index_ten : ∀ l : List UInt8, (10 : UInt8) ∈ l → 0 ≤ Lib.index l [10]
  | [], h => by cases h
  | x :: t, h => by
    have st : Lib.index (x :: t) [10] = if List.isPrefixOf [10] (x :: t) then 0 else if Lib.index t [10] == -1 then -1 else Lib.index t [10] + 1 := rfl
    rw [st]
    split
    · omega
    · rename_i hp
      have hx : ¬ (10 : UInt8) = x := fun e => hp (by subst e; simp [List.isPrefixOf])
      have ht : (10 : UInt8) ∈ t := by
        rcases List.mem_cons.1 h with h | h
        · exact absurd h hx
        · exact h
      have := index_ten t ht
      rw [if_neg (by simp; omega)]
      omega
theorem contains_ten (l : List UInt8) (h : Lib.contains l [10] = false) : ∀ b ∈ l, b ≠ 10 := by
  intro b hb e
  subst e
  have := index_ten l hb
  unfold Lib.contains at h
  simp at h; omega
theorem words_len (l : List UInt8) (ws : List Lx.Wd) (h : Lx.words l = .ok ws) : ws.length ≤ l.length + 1 := by
  unfold Lx.words at h
  split at h
  · exact Lx.wordsGo_len _ _ _ _ _ h
  · cases h
/-- what Text answers of a line that is one node -/
theorem textR_one {B : Nat} {es : List Ev.E} {e : Ending} {w : World} (h : TextR B (.ok (Px.ev 0 :: (es ++ [Px.ev 1]))) e w) :
    ∃ g c, e = .returned (.tuple #[.slice (some ⟨g, 0, none⟩) (es.length + 2) c, .int .i64 0]) ∧ es.length + 2 ≤ c ∧ RdE w w.heap.size (.slice (some ⟨g, 5, none⟩) es.length (c - 1)) es := by
  obtain ⟨v, rfl, h2⟩ := h
  have hl : (Px.ev 0 :: (es ++ [Px.ev 1])).length = es.length + 2 := by simp
  obtain ⟨g, c, rfl, hc, hg, _, hn⟩ := ownE_form h2 (by omega)
  rw [hl] at hc
  refine ⟨g, c, by rw [hl], hc, _, c - 1, rfl, by omega, fun h0 => ⟨g, 5, rfl, hg, fun j hj => ?_⟩⟩
  have hd := (hn.drop0 1 (by omega)).take es.length
  have e1 : ((Px.ev 0 :: (es ++ [Px.ev 1])).drop 1).take es.length = es := by simp
  rw [e1] at hd
  have at_ : ∀ (i : Nat) (u : Value), i < 5 → (evCells es[j])[i]? = some u → w.cell? ⟨g, 5 + j * 5 + i, none⟩ = some u := fun i u hi hu => by
    have := hd (j * 5 + i) u ((evsCells_at es j hj i hi).trans hu)
    rw [Addr.add_lit] at this
    rw [show 5 + j * 5 + i = 1 * 5 + (j * 5 + i) by omega]; exact this
  exact ⟨at_ 0 _ (by decide) rfl, at_ 1 _ (by decide) rfl, at_ 2 _ (by decide) rfl, at_ 3 _ (by decide) rfl, at_ 4 _ (by decide) rfl⟩

set_option maxHeartbeats 4000000 in
set_option maxRecDepth 100000 in
theorem one_good (s : ByteArray) (w : World) (hs : s.size ≤ 2000) (hE : Env w) (h10 : Lib.contains s.data.toList [10] = false) (ws : List Lx.Wd) (es : List Ev.E) (hw : Lx.words s.data.toList = .ok ws) (hf : Px.flowOf ws 0 = .ok es) :
    Calls Tryz.prog 8 #[.string s] w fun e w' => e = .returned (.bool true) ∧ Below w.heap.size w w' := by
  have cA := Lib.hid (palive_any w hE)
  have b1 : decide ((2000 : Int) < (s.size : Int)) = false := decide_eq_false (by omega)
  have hz := Px.text_one s.data.toList ws es (contains_ten _ h10) hw hf
  have r1 := fun w hE => textP_any s w (by omega) hE
  rw [hz] at r1
  have lz := Px.text_len _ _ hz
  rw [ba_len, List.length_cons, List.length_append] at lz
  have lx := (Px.flowOf_len _ _ _ hf).1
  have rW := fun w hE => words_any s w (by omega) hE
  rw [hw] at rW
  have lw := words_len _ _ hw
  rw [ba_len] at lw
  have rF := fun v w (h : RdW w w.heap.size v ws) => flowP_any v ws w h (by omega)
  rw [hf] at rF
  have R1 := Lib.hid r1
  have RW := Lib.hid rW
  have RF := Lib.hid rF
  have HE := Lib.hid hE
  have cC : Hid (∀ w, Env w → Calls Tryz.prog 19 #[.string s, .string ⟨#[10]⟩] w fun e w' => e = .returned (.bool false) ∧ w' = w) := fun w hE => by
    obtain ⟨m, hm⟩ := hE.maxl
    have h := Tryz.strings_Contains s ⟨#[10]⟩ m w (by omega) hm
    rw [show (⟨#[10]⟩ : ByteArray).data.toList = [10] from rfl, h10] at h
    exact h
  clear r1 rW rF hz hw hf hE h10
  go_enter Tryz.func8, Tryz.ntmps8
  go_wp2_with (first
    | (go_at_call 10; refine cA.out.mono ?_; rintro e w1 ⟨rfl, hb1⟩)
    | (go_at_call 19; refine (cC.out _ (HE.out.below hb1)).mono ?_; rintro e w' ⟨rfl, rfl⟩)
    | (go_at_call 23; refine (RW.out _ (HE.out.below hb1)).mono ?_; rintro e w2 ⟨⟨v, rfl, hv⟩, hb2⟩; obtain ⟨va, vc, rfl⟩ := own_slice hv; have HV := Lib.hid (rowW_rd hv); clear hv; have hb12 := bthen hb1 hb2)
    | (go_at_call 24; refine (RF.out _ _ HV.out).mono ?_; rintro e w3 ⟨hq, hb3⟩; obtain ⟨ua, uc, rfl, hu⟩ := textR_ok hq; have HU := Lib.hid hu; clear hu hq; have hb13 := bthen hb12 hb3)
    | (go_at_call 11; refine (R1.out _ (HE.out.below hb13)).mono ?_; rintro e w4 ⟨hq, hb4⟩; obtain ⟨g, zc, rfl, hzc, hz⟩ := textR_one hq; have HZ := Lib.hid hz; clear hz hq; have hb14 := bthen hb13 hb4; have HU4 := Lib.hid (HU.out.below hb4); have CZ := Lib.hid (ours_any _ es w4 HZ.out (by omega)))
    | (go_at_call 15; go_fit CZ.out; rintro e w5 ⟨⟨p, rfl, hp⟩, hb5⟩; obtain ⟨pa, pc, rfl⟩ := own_slice hp; have HP := Lib.hid hp; clear hp; have CX := Lib.hid (ours_any _ es w5 (rowE_rd (HU4.out.below hb5)) (by omega)))
    | (go_at_call 15; go_fit CX.out; rintro e w6 ⟨⟨q, rfl, hq⟩, hb6⟩; obtain ⟨qa, qc, rfl⟩ := own_slice hq; have CS := Lib.hid (sameE_any _ _ es w6 (rowE_rd (HP.out.below hb6)) (rowE_rd hq) (by omega)); clear hq)
    | (go_at_call 14; go_fit CS.out; rintro e w7 ⟨rfl, n7, rfl⟩))
  go_ret
  exact ⟨rfl, bel_drewN' (bthen (bthen hb14 hb5) hb6) _⟩

/-- what Words answers that has an error -/
theorem wordsR_err {B n : Nat} {e : Ending} {w : World} (h : WordsR B (.error n) e w) : e = .returned (.tuple #[.slice none 0 0, .int .i64 n]) := h
set_option maxHeartbeats 4000000 in
set_option maxRecDepth 100000 in
theorem one_walk (s : ByteArray) (w : World) (hs : s.size ≤ 9223372036854775807) (hE : Env w) :
    Calls Tryz.prog 8 #[.string s] w fun e w' => e = .returned (.bool true) ∧ Below w.heap.size w w' := by
  have cA := Lib.hid (palive_any w hE)
  by_cases hbig : 2000 < s.size
  · have b1 : decide ((2000 : Int) < (s.size : Int)) = true := decide_eq_true (by omega)
    clear hE
    go_enter Tryz.func8, Tryz.ntmps8
    go_wp2_with (go_at_call 10; refine cA.out.mono ?_; rintro e w1 ⟨rfl, hb1⟩)
    go_ret
    exact ⟨rfl, hb1⟩
  · have b1 : decide ((2000 : Int) < (s.size : Int)) = false := decide_eq_false (by omega)
    have HE := Lib.hid hE
    have cC : ∀ w, Env w → Calls Tryz.prog 19 #[.string s, .string ⟨#[10]⟩] w fun e w' => e = .returned (.bool (Lib.contains s.data.toList [10])) ∧ w' = w := fun w hE => by
      obtain ⟨m, hm⟩ := hE.maxl
      have h := Tryz.strings_Contains s ⟨#[10]⟩ m w (by omega) hm
      rw [show (⟨#[10]⟩ : ByteArray).data.toList = [10] from rfl] at h
      exact h
    cases h10 : Lib.contains s.data.toList [10] with
    | true =>
      rw [h10] at cC
      have CC := Lib.hid cC
      clear cC hE h10
      go_enter Tryz.func8, Tryz.ntmps8
      go_wp2_with (first
        | (go_at_call 10; refine cA.out.mono ?_; rintro e w1 ⟨rfl, hb1⟩)
        | (go_at_call 19; refine (CC.out _ (HE.out.below hb1)).mono ?_; rintro e w' ⟨rfl, rfl⟩))
      go_ret
      exact ⟨rfl, hb1⟩
    | false =>
      rw [h10] at cC
      have CC := Lib.hid cC
      have rW := fun w hE => words_any s w (by omega) hE
      cases hw : Lx.words s.data.toList with
      | error n =>
        rw [hw] at rW
        have hn := Lx.words_err _ _ hw
        have bn : ((n : Int) != 0) = true := bne_iff_ne.2 (by omega)
        have RW := Lib.hid rW
        have RF := Lib.hid (fun w => flowP_any (.slice none 0 0) [] w (RdW.nil w _) (by decide))
        clear rW cC hE h10 hw
        go_enter Tryz.func8, Tryz.ntmps8
        go_wp2_with (first
          | (go_at_call 10; refine cA.out.mono ?_; rintro e w1 ⟨rfl, hb1⟩)
          | (go_at_call 19; refine (CC.out _ (HE.out.below hb1)).mono ?_; rintro e w' ⟨rfl, rfl⟩)
          | (go_at_call 23; refine (RW.out _ (HE.out.below hb1)).mono ?_; rintro e w2 ⟨hq, hb2⟩; obtain rfl := wordsR_err hq; clear hq)
          | (go_at_call 24; refine (RF.out _).mono ?_; rintro e w3 ⟨hq, hb3⟩; obtain ⟨ua, un, uc, um, rfl⟩ := textR_some hq; clear hq))
        go_ret
        exact ⟨rfl, bthen (bthen hb1 hb2) hb3⟩
      | ok ws =>
        cases hf : Px.flowOf ws 0 with
        | ok es => exact one_good s w (by omega) hE h10 ws es hw hf
        | error n =>
          rw [hw] at rW
          have lw := words_len _ _ hw
          rw [ba_len] at lw
          have rF := fun v w (h : RdW w w.heap.size v ws) => flowP_any v ws w h (by omega)
          rw [hf] at rF
          have hn : n ≠ 0 := by have := Px.flowOf_er ws 0; rw [hf] at this; exact this
          have bn : ((n : Int) != 0) = true := bne_iff_ne.2 (by omega)
          have RW := Lib.hid rW
          have RF := Lib.hid rF
          clear rW rF cC hE h10 hw hf
          go_enter Tryz.func8, Tryz.ntmps8
          go_wp2_with (first
            | (go_at_call 10; refine cA.out.mono ?_; rintro e w1 ⟨rfl, hb1⟩)
            | (go_at_call 19; refine (CC.out _ (HE.out.below hb1)).mono ?_; rintro e w' ⟨rfl, rfl⟩)
            | (go_at_call 23; refine (RW.out _ (HE.out.below hb1)).mono ?_; rintro e w2 ⟨⟨v, rfl, hv⟩, hb2⟩; obtain ⟨va, vc, rfl⟩ := own_slice hv; have HV := Lib.hid (rowW_rd hv); clear hv)
            | (go_at_call 24; refine (RF.out _ _ HV.out).mono ?_; rintro e w3 ⟨hq, hb3⟩; obtain rfl := textR_err hq; clear hq))
          go_ret
          exact ⟨rfl, bthen (bthen hb1 hb2) hb3⟩
end Go.Proofs.YtjcfmghijfnehaaGreatDoor
