/-
  Walks of strings.ContainsAny at a break and a bar.
-/
import Derived.Test.YtmhakkahclbbjaaGreatDoorWk
namespace Go.Proofs.YtmhakkahclbbjaaGreatDoor
open Go.RowKit

def nowLB : List UInt8 := [10, 124]
def hasAnyB (l : List UInt8) : Bool := l.any fun b => nowLB.contains b

set_option maxHeartbeats 2000000 in
set_option maxRecDepth 1000000 in
theorem idxRune_high2B (r : Nat) (a b : UInt8) (w : World) (hRR : Utf8.encode (r : Int) = ⟨#[a, b]⟩) (hl : 128 ≤ b.toNat) (hb0 : (0 : Int) ≤ (r : Int)) (hvr : Lib.validRune (r : Int) = true) (hb1 : decide ((r : Int) < 128) = false) (hb2 : ((r : Int) == 65533) = false) :
    Calls Tryz.prog 49 #[.string ⟨#[10, 124]⟩, .int .i32 r] w fun e w' => e = .returned (.int .i64 (-1)) ∧ Below w.heap.size w w' := by
  have hne : ((((⟨#[10, 124]⟩ : ByteArray)[1]'(by decide)).toNat : Int) != (((⟨#[a, b]⟩ : ByteArray)[1]'(by show 1 < 2; decide)).toNat : Int)) = true := by
    show ((124 : Int) != (b.toNat : Int)) = true
    exact bne_iff_ne.2 (by omega)
  have hI := Lib.hid (idxByte_high [] b (by decide) hl)
  have hb256 := b.toNat_lt
  have CI := Lib.hid (fun w2 => idxByte_no ((⟨#[10, 124]⟩ : ByteArray).extract 2 2) b w2 hI)
  clear hl hI
  go_enter Tryz.func49, Tryz.ntmps49
  go_wp2_with (go_at_call 74; refine (Tryz.utf8_ValidRune _ _).mono ?_; rintro e w' ⟨rfl, rfl⟩)
  go_step3
  go_wp2
  refine wp_loop_rounds 1 ?_
  rw [rounds_succ]
  go_wp2
  go_step3
  go_wp2
  go_quiet (fail)
  go_wp2
  go_quiet ((go_at_call 73; exact quiet_add_left (CI.out _)))
  go_wp2
  rw [Exit.noGoto_ret]
  go_wp2
  rw [Exit.noGoto_ret]
  go_wp2
  go_ret
  exact ⟨rfl, bel_drewN (Below.refl _ _) _⟩
set_option maxHeartbeats 2000000 in
set_option maxRecDepth 1000000 in
theorem idxRune_high3B (r : Nat) (a b c : UInt8) (w : World) (hRR : Utf8.encode (r : Int) = ⟨#[a, b, c]⟩) (_ : 128 ≤ c.toNat) (hb0 : (0 : Int) ≤ (r : Int)) (hvr : Lib.validRune (r : Int) = true) (hb1 : decide ((r : Int) < 128) = false) (hb2 : ((r : Int) == 65533) = false) :
    Calls Tryz.prog 49 #[.string ⟨#[10, 124]⟩, .int .i32 r] w fun e w' => e = .returned (.int .i64 (-1)) ∧ Below w.heap.size w w' := by
  go_enter Tryz.func49, Tryz.ntmps49
  go_wp2_with (go_at_call 74; refine (Tryz.utf8_ValidRune _ _).mono ?_; rintro e w' ⟨rfl, rfl⟩)
  go_step3
  go_wp2
  refine wp_loop_rounds 1 ?_
  rw [rounds_succ]
  go_wp2
  rw [Exit.noGoto_ret]
  go_wp2
  go_ret
  exact ⟨rfl, Below.refl _ _⟩
set_option maxHeartbeats 2000000 in
set_option maxRecDepth 1000000 in
theorem idxRune_high4B (r : Nat) (a b c d : UInt8) (w : World) (hRR : Utf8.encode (r : Int) = ⟨#[a, b, c, d]⟩) (_ : 128 ≤ d.toNat) (hb0 : (0 : Int) ≤ (r : Int)) (hvr : Lib.validRune (r : Int) = true) (hb1 : decide ((r : Int) < 128) = false) (hb2 : ((r : Int) == 65533) = false) :
    Calls Tryz.prog 49 #[.string ⟨#[10, 124]⟩, .int .i32 r] w fun e w' => e = .returned (.int .i64 (-1)) ∧ Below w.heap.size w w' := by
  go_enter Tryz.func49, Tryz.ntmps49
  go_wp2_with (go_at_call 74; refine (Tryz.utf8_ValidRune _ _).mono ?_; rintro e w' ⟨rfl, rfl⟩)
  go_step3
  go_wp2
  refine wp_loop_rounds 1 ?_
  rw [rounds_succ]
  go_wp2
  rw [Exit.noGoto_ret]
  go_wp2
  go_ret
  exact ⟨rfl, Below.refl _ _⟩
set_option maxHeartbeats 2000000 in
set_option maxRecDepth 1000000 in
theorem idxRune_errB (w : World) :
    Calls Tryz.prog 49 #[.string ⟨#[10, 124]⟩, .int .i32 65533] w fun e w' => e = .returned (.int .i64 (-1)) ∧ Below w.heap.size w w' := by
  obtain ⟨S, hS⟩ : ∃ S : ByteArray, S = ⟨#[10, 124]⟩ := ⟨_, rfl⟩
  have hasc : ∀ (j : Nat) (h : j < S.size), (S[j]'h).toNat < 128 := by
    subst hS
    intro j h
    have : ∀ k : Fin 2, ((⟨#[10, 124]⟩ : ByteArray)[k.val]'(by have := k.isLt; exact this)).toNat < 128 := by decide
    exact this ⟨j, h⟩
  rw [← hS]
  clear hS
  have HAsc := Lib.hid hasc
  clear hasc
  go_enter Tryz.func49, Tryz.ntmps49
  go_wp2
  go_loopw [] (fun wr => ∃ pos : Nat, wr.heap[w.heap.size]? = some (.stringIter S pos) ∧ Below w.heap.size w wr) (fun wr => S.size - wr.iterPos w.heap.size)
  case atStart => exact ⟨0, World.iter_heap w S 0, (Below.refl _ w).alloc (Nat.le_refl _) _⟩
  case round =>
    obtain ⟨pos, hit, hbw⟩ := hrel
    by_cases hp : pos < S.size
    · have ha := HAsc.out pos hp
      have hnx : ∀ ty, (Instr.next (.pointer (some ⟨w.heap.size, 0, none⟩)) true ty).run Tryz.prog wr = _ := fun ty => Lib.run_next_ascii_at wr w.heap.size S pos ty hit hp ha
      have hit2 := Lib.hid (Lib.iterAt_heap wr w.heap.size S pos (pos + 1) hit)
      have hbw2 := Lib.below_iterAt hbw (k := w.heap.size) (Nat.le_refl _) S (pos + 1)
      have hb : ((S[pos].toNat : Int) == 65533) = false := beq_eq_false_iff_ne.2 (by omega)
      go_wp2
      go_roundw
      case rel => exact ⟨pos + 1, hit2.out, hbw2⟩
      case measure => simp only [World.iterPos, hit2.out, hit]; omega
    · have hnx : ∀ ty, (Instr.next (.pointer (some ⟨w.heap.size, 0, none⟩)) true ty).run Tryz.prog wr = _ := fun ty => Lib.run_next_end_at wr w.heap.size S pos ty hit hp
      go_wp2
      go_ret
      exact ⟨rfl, hbw⟩

/-- a character that is no ASCII is none of these -/
theorem idxRune_highB (r : Nat) (w : World) (h0 : 128 ≤ r) (hc : Sc.isCh r) :
    Calls Tryz.prog 49 #[.string ⟨#[10, 124]⟩, .int .i32 r] w fun e w' => e = .returned (.int .i64 (-1)) ∧ Below w.heap.size w w' := by
  by_cases he : r = 65533
  · subst he; exact idxRune_errB w
  · have hvr : Lib.validRune (r : Int) = true := by unfold Lib.validRune; unfold Sc.isCh at hc; simp; omega
    have hb1 : decide ((r : Int) < 128) = false := decide_eq_false (by omega)
    have hb2 : ((r : Int) == 65533) = false := beq_eq_false_iff_ne.2 (by omega)
    rcases encode_shape r h0 with ⟨a, b, e, hl⟩ | ⟨a, b, c, e, hl⟩ | ⟨a, b, c, d, e, hl⟩
    · exact idxRune_high2B r a b w e hl (by omega) hvr hb1 hb2
    · exact idxRune_high3B r a b c w e hl (by omega) hvr hb1 hb2
    · exact idxRune_high4B r a b c d w e hl (by omega) hvr hb1 hb2
theorem indexAny_anyB (l : List UInt8) : decide (0 ≤ Lib.indexAny l nowLB) = hasAnyB l := by
  induction l with
  | nil => rfl
  | cons b t ih =>
    have hge := Lib.indexAny_ge nowLB t
    unfold hasAnyB at *
    rw [List.any_cons, ← ih]
    have st : Lib.indexAny (b :: t) nowLB = if nowLB.contains b then 0 else if Lib.indexAny t nowLB == -1 then -1 else Lib.indexAny t nowLB + 1 := rfl
    rw [st]
    cases h : nowLB.contains b with
    | true => simp
    | false =>
      simp only [Bool.false_or]
      by_cases hm : Lib.indexAny t nowLB = -1
      · rw [hm]; simp
      · have : (Lib.indexAny t nowLB == -1) = false := beq_eq_false_iff_ne.2 hm
        simp [this]; omega

theorem high_notB (b : UInt8) (h : 128 ≤ b.toNat) : nowLB.contains b = false := by
  rw [Bool.eq_false_iff]
  intro hc
  have hm : b ∈ nowLB := by simpa using hc
  have : ∀ x ∈ nowLB, x.toNat < 128 := by decide
  have := this b hm
  omega
theorem hasAny_highB (l : List UInt8) (h : 128 ≤ (l.getD 0 0).toNat) : hasAnyB l = hasAnyB (l.drop (Lib.decodeL l).2) := by
  conv => lhs; rw [← List.take_append_drop (Lib.decodeL l).2 l]
  unfold hasAnyB
  rw [List.any_append]
  have : (l.take (Lib.decodeL l).2).any (fun b => nowLB.contains b) = false := by
    rw [List.any_eq_false]
    intro b hb
    rw [high_notB b (take_high l h b hb)]; simp
  rw [this, Bool.false_or]

theorem idxRune_lowB (r : Nat) (w : World) (h : r < 128) (b : Bool) (hb : Hid (nowLB.contains (UInt8.ofNat r) = b)) :
    Calls Tryz.prog 49 #[.string ⟨#[10, 124]⟩, .int .i32 r] w fun e w' => (∃ n : Int, e = .returned (.int .i64 n) ∧ decide (0 ≤ n) = b) ∧ w = w' := by
  refine (Tryz.strings_IndexRune_ascii _ r w (by omega) (by omega)).mono ?_
  rintro e w' ⟨rfl, rfl⟩
  refine ⟨⟨_, rfl, ?_⟩, rfl⟩
  rw [← hb.out]
  have : ∀ x : Fin 128, decide (0 ≤ Lib.indexByte nowLB ((x.val : Int).toNat.toUInt8)) = nowLB.contains (UInt8.ofNat x.val) := by decide +kernel
  exact this ⟨r, h⟩

set_option maxHeartbeats 1000000 in
set_option maxRecDepth 1000000 in
theorem idxAny_shortB (s : ByteArray) (w : World) (hs : s.size ≤ 8) :
    Calls Tryz.prog 28 #[.string s, .string ⟨#[10, 124]⟩] w fun e w' => (∃ n : Int, e = .returned (.int .i64 n) ∧ decide (0 ≤ n) = hasAnyB s.data.toList) ∧ Below w.heap.size w w' := by
  obtain ⟨ANS, hANS⟩ : ∃ ANS, hasAnyB s.data.toList = ANS := ⟨_, rfl⟩
  rw [hANS]
  have HA := Lib.hid hANS
  clear hANS
  go_enter Tryz.func28, Tryz.ntmps28
  have c69 : Calls Tryz.prog 50 #[.int .i64 (s.size : Int)] w fun e w' => e = .returned (.bool false) ∧ w = w' := by
    refine (Tryz.strings_shouldUseASCIISet _ _).mono ?_
    rintro e w' ⟨rfl, rfl⟩
    exact ⟨ret_bool (decide_eq_false (by omega)), rfl⟩
  go_wp2_with (go_at_call 50; refine c69.mono ?_; rintro e w' ⟨rfl, rfl⟩)
  clear c69
  go_loopw [] (fun wr => ∃ pos : Nat, wr.heap[w.heap.size]? = some (.stringIter s pos) ∧ Below w.heap.size w wr ∧ Hid (hasAnyB (s.data.toList.drop pos) = ANS)) (fun wr => s.size - wr.iterPos w.heap.size)
  case atStart => exact ⟨0, World.iter_heap w s 0, (Below.refl _ w).alloc (Nat.le_refl _) _, HA⟩
  case round =>
    obtain ⟨pos, hit, hbw, HK⟩ := hrel
    clear HA
    by_cases hp : pos < s.size
    · have hnx : ∀ ty, (Instr.next (.pointer (some ⟨w.heap.size, 0, none⟩)) true ty).run Tryz.prog wr = _ := fun ty => Lib.run_next_any_at wr w.heap.size s pos ty hit hp
      have hwd := dec_pos s pos
      have hit2 := Lib.hid (Lib.iterAt_heap wr w.heap.size s pos (pos + (Utf8.decode s pos).2) hit)
      have hbw2 := Lib.below_iterAt hbw (k := w.heap.size) (Nat.le_refl _) s (pos + (Utf8.decode s pos).2)
      have hdl : Lib.decodeL (s.data.toList.drop pos) = Utf8.decode s pos := Lib.decodeL_drop s pos
      have hdc := Sc.drop_cons s pos hp
      have hg0 : (s.data.toList.drop pos).getD 0 0 = s[pos] := by rw [hdc]; rfl
      by_cases hlow : s[pos].toNat < 128
      · have hd : Utf8.decode s pos = (s[pos].toNat, 1) := by rw [← hdl, hdc, Lib.decodeL_ascii _ _ hlow]
        have hstep : hasAnyB (s.data.toList.drop pos) = (nowLB.contains s[pos] || hasAnyB (s.data.toList.drop (pos + 1))) := by rw [hdc]; unfold hasAnyB; rw [List.any_cons]
        rw [hd] at hit2 hbw2 hnx hwd
        simp only at hit2 hbw2 hnx hwd
        cases hc : nowLB.contains s[pos]
        · have HN : Hid (hasAnyB (s.data.toList.drop (pos + 1)) = ANS) := by
            have := HK.out; rw [hstep, hc, Bool.false_or] at this; exact this
          have hcb : Hid (nowLB.contains (UInt8.ofNat s[pos].toNat) = false) := by show nowLB.contains _ = false; rw [← hc]; simp
          clear hstep hc hd hdl hdc hg0 HK
          go_wp2_with (go_at_call 49; refine (idxRune_lowB _ _ hlow false hcb).mono ?_; rintro e w2 ⟨⟨n, rfl, hn⟩, rfl⟩)
          go_roundw
          case rel => exact ⟨_, hit2.out, hbw2, HN⟩
          case measure => simp only [World.iterPos, hit2.out, hit]; omega
        · have HF : Hid (ANS = true) := by
            have := HK.out; rw [hstep, hc, Bool.true_or] at this; exact this.symm
          have hcb : Hid (nowLB.contains (UInt8.ofNat s[pos].toNat) = true) := by show nowLB.contains _ = true; rw [← hc]; simp
          clear hstep hc hd hdl hdc hg0 HK
          go_wp2_with (go_at_call 49; refine (idxRune_lowB _ _ hlow true hcb).mono ?_; rintro e w2 ⟨⟨n, rfl, hn⟩, rfl⟩)
          go_ret
          exact ⟨⟨_, rfl, by rw [HF.out]; exact decide_eq_true (by omega)⟩, hbw2⟩
      · have hstep : hasAnyB (s.data.toList.drop pos) = hasAnyB (s.data.toList.drop (pos + (Utf8.decode s pos).2)) := by
          rw [hasAny_highB _ (by rw [hg0]; omega), hdl, List.drop_drop]
        have HN : Hid (hasAnyB (s.data.toList.drop (pos + (Utf8.decode s pos).2)) = ANS) := by
          have := HK.out; rw [hstep] at this; exact this
        have hr : 128 ≤ (Utf8.decode s pos).1 := by rw [← hdl]; exact decode_high_first _ (by rw [hg0]; omega)
        have hch : Sc.isCh (Utf8.decode s pos).1 := by rw [← hdl]; exact Sc.decode_ch _
        have C68 := Lib.hid (fun w2 => idxRune_highB (Utf8.decode s pos).1 w2 hr hch)
        clear hstep hdl hdc hg0 HK hch hr
        have hsz2 : w.heap.size < (wr.iterAt w.heap.size s (pos + (Utf8.decode s pos).2)).heap.size := by
          rw [Lib.iterAt_size]; exact (Array.getElem?_eq_some_iff.1 hit).1
        go_wp2_with (go_at_call 49; refine (C68.out _).mono ?_; rintro e w2 ⟨rfl, hb2⟩)
        go_roundw
        case rel => exact ⟨_, (hb2.block _ hsz2).trans hit2.out, hbw2.trans (hb2.mono (Nat.le_of_lt hsz2)), HN⟩
        case measure => simp only [World.iterPos, (hb2.block _ hsz2).trans hit2.out, hit]; omega
    · have hnx : ∀ ty, (Instr.next (.pointer (some ⟨w.heap.size, 0, none⟩)) true ty).run Tryz.prog wr = _ := fun ty => Lib.run_next_end_at wr w.heap.size s pos ty hit hp
      go_wp2
      go_ret
      have : ANS = false := by rw [← HK.out, Sc.drop_nil s pos (by omega)]; rfl
      exact ⟨⟨_, rfl, by rw [this]; rfl⟩, hbw⟩

theorem idxAny_anyB (s : ByteArray) (w : World) (hs : s.size ≤ 1100000) :
    Calls Tryz.prog 28 #[.string s, .string ⟨#[10, 124]⟩] w fun e w' => (∃ n : Int, e = .returned (.int .i64 n) ∧ decide (0 ≤ n) = hasAnyB s.data.toList) ∧ Below w.heap.size w w' := by
  by_cases h8 : s.size ≤ 8
  · exact idxAny_shortB s w h8
  · have hz : ∀ w, (zeroValue 77).run Tryz.prog w = .ok (.agg (Array.replicate 256 (.bool false))) w := (zero_of_info zero80).1
    refine (Tryz.strings_IndexAny_long hz s ⟨#[10, 124]⟩ w (by decide) (by omega) (by omega) (by decide) ?_).mono ?_
    · intro j b hb
      have hm : b ∈ nowLB := List.mem_of_getElem? hb
      have : ∀ x ∈ nowLB, x.toNat < 128 := by decide
      exact this b hm
    · rintro e w' ⟨rfl, rfl⟩
      exact ⟨⟨_, rfl, indexAny_anyB _⟩, ((Below.refl _ w).alloc (Nat.le_refl _) _).alloc (by rw [World.size_alloc]; omega) _⟩

set_option maxHeartbeats 1000000 in
theorem containsAny_anyB (s : ByteArray) (w : World) (hs : s.size ≤ 1100000) :
    Calls Tryz.prog 13 #[.string s, .string ⟨#[10, 124]⟩] w fun e w' => e = .returned (.bool (hasAnyB s.data.toList)) ∧ Below w.heap.size w w' := by
  have cI := idxAny_anyB s w hs
  generalize hasAnyB s.data.toList = ANS at *
  go_enter Tryz.func13, Tryz.ntmps13
  go_wp2_with (go_at_call 28; refine cI.mono ?_; rintro e w' ⟨⟨n, rfl, hn⟩, hb⟩)
  go_ret
  exact ⟨ret_bool (by first | exact hn | (rw [← hn])), hb⟩
end Go.Proofs.YtmhakkahclbbjaaGreatDoor
