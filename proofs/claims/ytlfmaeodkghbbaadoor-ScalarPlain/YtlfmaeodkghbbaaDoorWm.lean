/-
  Walks of strings.ContainsAny at the bytes that the law of Plain asks for.
-/
import Derived.Test.YtlfmaeodkghbbaaDoorMg
namespace Go.Proofs.YtlfmaeodkghbbaaDoor
open Go.RowKit

set_option maxHeartbeats 2000000 in
set_option maxRecDepth 1000000 in
theorem idxRune_high2N (r : Nat) (a b : UInt8) (w : World) (hRR : Utf8.encode (r : Int) = ⟨#[a, b]⟩) (hl : 128 ≤ b.toNat) (hb0 : (0 : Int) ≤ (r : Int)) (hvr : Lib.validRune (r : Int) = true) (hb1 : decide ((r : Int) < 128) = false) (hb2 : ((r : Int) == 65533) = false) :
    Calls Tryd.prog 68 #[.string ⟨#[10, 13, 9, 44, 91, 93, 123, 125]⟩, .int .i32 r] w fun e w' => e = .returned (.int .i64 (-1)) ∧ Below w.heap.size w w' := by
  have hne : ((((⟨#[10, 13, 9, 44, 91, 93, 123, 125]⟩ : ByteArray)[1]'(by decide)).toNat : Int) != (((⟨#[a, b]⟩ : ByteArray)[1]'(by show 1 < 2; decide)).toNat : Int)) = true := by
    show ((13 : Int) != (b.toNat : Int)) = true
    exact bne_iff_ne.2 (by omega)
  have hI := Lib.hid (idxByte_high [9, 44, 91, 93, 123, 125] b (by decide) hl)
  have hb256 := b.toNat_lt
  have CI := Lib.hid (fun w2 => idxByte_no ((⟨#[10, 13, 9, 44, 91, 93, 123, 125]⟩ : ByteArray).extract 2 8) b w2 hI)
  clear hl hI
  go_enter Tryd.func68, Tryd.ntmps68
  go_wp2_with (go_at_call 78; refine (Tryd.utf8_ValidRune _ _).mono ?_; rintro e w' ⟨rfl, rfl⟩)
  go_step3
  go_wp2
  refine wp_loop_rounds 1 ?_
  rw [rounds_succ]
  go_wp2
  go_step3
  go_wp2
  go_quiet (fail)
  go_wp2
  go_quiet ((go_at_call 35; exact quiet_add_left (CI.out _)))
  go_wp2
  rw [Exit.noGoto_ret]
  go_wp2
  rw [Exit.noGoto_ret]
  go_wp2
  go_ret
  exact ⟨rfl, below_drewN (Below.refl _ _) _⟩
set_option maxHeartbeats 2000000 in
set_option maxRecDepth 1000000 in
theorem idxRune_high3N (r : Nat) (a b c : UInt8) (w : World) (hRR : Utf8.encode (r : Int) = ⟨#[a, b, c]⟩) (hl : 128 ≤ c.toNat) (hb0 : (0 : Int) ≤ (r : Int)) (hvr : Lib.validRune (r : Int) = true) (hb1 : decide ((r : Int) < 128) = false) (hb2 : ((r : Int) == 65533) = false) :
    Calls Tryd.prog 68 #[.string ⟨#[10, 13, 9, 44, 91, 93, 123, 125]⟩, .int .i32 r] w fun e w' => e = .returned (.int .i64 (-1)) ∧ Below w.heap.size w w' := by
  have hne : ((((⟨#[10, 13, 9, 44, 91, 93, 123, 125]⟩ : ByteArray)[2]'(by decide)).toNat : Int) != (((⟨#[a, b, c]⟩ : ByteArray)[2]'(by show 2 < 3; decide)).toNat : Int)) = true := by
    show ((9 : Int) != (c.toNat : Int)) = true
    exact bne_iff_ne.2 (by omega)
  have hI := Lib.hid (idxByte_high [44, 91, 93, 123, 125] c (by decide) hl)
  have hb256 := c.toNat_lt
  have CI := Lib.hid (fun w2 => idxByte_no ((⟨#[10, 13, 9, 44, 91, 93, 123, 125]⟩ : ByteArray).extract 3 8) c w2 hI)
  clear hl hI
  go_enter Tryd.func68, Tryd.ntmps68
  go_wp2_with (go_at_call 78; refine (Tryd.utf8_ValidRune _ _).mono ?_; rintro e w' ⟨rfl, rfl⟩)
  go_step3
  go_wp2
  refine wp_loop_rounds 1 ?_
  rw [rounds_succ]
  go_wp2
  go_step3
  go_wp2
  go_quiet (fail)
  go_wp2
  go_quiet ((go_at_call 35; exact quiet_add_left (CI.out _)))
  go_wp2
  rw [Exit.noGoto_ret]
  go_wp2
  rw [Exit.noGoto_ret]
  go_wp2
  go_ret
  exact ⟨rfl, below_drewN (Below.refl _ _) _⟩
set_option maxHeartbeats 2000000 in
set_option maxRecDepth 1000000 in
theorem idxRune_high4N (r : Nat) (a b c d : UInt8) (w : World) (hRR : Utf8.encode (r : Int) = ⟨#[a, b, c, d]⟩) (hl : 128 ≤ d.toNat) (hb0 : (0 : Int) ≤ (r : Int)) (hvr : Lib.validRune (r : Int) = true) (hb1 : decide ((r : Int) < 128) = false) (hb2 : ((r : Int) == 65533) = false) :
    Calls Tryd.prog 68 #[.string ⟨#[10, 13, 9, 44, 91, 93, 123, 125]⟩, .int .i32 r] w fun e w' => e = .returned (.int .i64 (-1)) ∧ Below w.heap.size w w' := by
  have hne : ((((⟨#[10, 13, 9, 44, 91, 93, 123, 125]⟩ : ByteArray)[3]'(by decide)).toNat : Int) != (((⟨#[a, b, c, d]⟩ : ByteArray)[3]'(by show 3 < 4; decide)).toNat : Int)) = true := by
    show ((44 : Int) != (d.toNat : Int)) = true
    exact bne_iff_ne.2 (by omega)
  have hI := Lib.hid (idxByte_high [91, 93, 123, 125] d (by decide) hl)
  have hb256 := d.toNat_lt
  have CI := Lib.hid (fun w2 => idxByte_no ((⟨#[10, 13, 9, 44, 91, 93, 123, 125]⟩ : ByteArray).extract 4 8) d w2 hI)
  clear hl hI
  go_enter Tryd.func68, Tryd.ntmps68
  go_wp2_with (go_at_call 78; refine (Tryd.utf8_ValidRune _ _).mono ?_; rintro e w' ⟨rfl, rfl⟩)
  go_step3
  go_wp2
  refine wp_loop_rounds 1 ?_
  rw [rounds_succ]
  go_wp2
  go_step3
  go_wp2
  go_quiet (fail)
  go_wp2
  go_quiet ((go_at_call 35; exact quiet_add_left (CI.out _)))
  go_wp2
  rw [Exit.noGoto_ret]
  go_wp2
  rw [Exit.noGoto_ret]
  go_wp2
  go_ret
  exact ⟨rfl, below_drewN (Below.refl _ _) _⟩

set_option maxHeartbeats 2000000 in
set_option maxRecDepth 1000000 in
theorem idxRune_errN (w : World) :
    Calls Tryd.prog 68 #[.string ⟨#[10, 13, 9, 44, 91, 93, 123, 125]⟩, .int .i32 65533] w fun e w' => e = .returned (.int .i64 (-1)) ∧ Below w.heap.size w w' := by
  obtain ⟨S, hS⟩ : ∃ S : ByteArray, S = ⟨#[10, 13, 9, 44, 91, 93, 123, 125]⟩ := ⟨_, rfl⟩
  have hasc : ∀ (j : Nat) (h : j < S.size), (S[j]'h).toNat < 128 := by
    subst hS
    intro j h
    have : ∀ k : Fin 8, ((⟨#[10, 13, 9, 44, 91, 93, 123, 125]⟩ : ByteArray)[k.val]'(by have := k.isLt; exact this)).toNat < 128 := by decide
    exact this ⟨j, h⟩
  rw [← hS]
  clear hS
  have HAsc := Lib.hid hasc
  clear hasc
  go_enter Tryd.func68, Tryd.ntmps68
  go_wp2
  go_loopw [] (fun wr => ∃ pos : Nat, wr.heap[w.heap.size]? = some (.stringIter S pos) ∧ Below w.heap.size w wr) (fun wr => S.size - wr.iterPos w.heap.size)
  case atStart => exact ⟨0, World.iter_heap w S 0, (Below.refl _ w).alloc (Nat.le_refl _) _⟩
  case round =>
    obtain ⟨pos, hit, hbw⟩ := hrel
    by_cases hp : pos < S.size
    · have ha := HAsc.out pos hp
      have hnx : ∀ ty, (Instr.next (.pointer (some ⟨w.heap.size, 0, none⟩)) true ty).run Tryd.prog wr = _ := fun ty => Lib.run_next_ascii_at wr w.heap.size S pos ty hit hp ha
      have hit2 := Lib.hid (Lib.iterAt_heap wr w.heap.size S pos (pos + 1) hit)
      have hbw2 := Lib.below_iterAt hbw (k := w.heap.size) (Nat.le_refl _) S (pos + 1)
      have hb : ((S[pos].toNat : Int) == 65533) = false := beq_eq_false_iff_ne.2 (by omega)
      go_wp2
      go_roundw
      case rel => exact ⟨pos + 1, hit2.out, hbw2⟩
      case measure => simp only [World.iterPos, hit2.out, hit]; omega
    · have hnx : ∀ ty, (Instr.next (.pointer (some ⟨w.heap.size, 0, none⟩)) true ty).run Tryd.prog wr = _ := fun ty => Lib.run_next_end_at wr w.heap.size S pos ty hit hp
      go_wp2
      go_ret
      exact ⟨rfl, hbw⟩

/-- a character that is no ASCII is none of these -/
theorem idxRune_highN (r : Nat) (w : World) (h0 : 128 ≤ r) (hc : Sc.isCh r) :
    Calls Tryd.prog 68 #[.string ⟨#[10, 13, 9, 44, 91, 93, 123, 125]⟩, .int .i32 r] w fun e w' => e = .returned (.int .i64 (-1)) ∧ Below w.heap.size w w' := by
  by_cases he : r = 65533
  · subst he; exact idxRune_errN w
  · have hvr : Lib.validRune (r : Int) = true := by unfold Lib.validRune; unfold Sc.isCh at hc; simp; omega
    have hb1 : decide ((r : Int) < 128) = false := decide_eq_false (by omega)
    have hb2 : ((r : Int) == 65533) = false := beq_eq_false_iff_ne.2 (by omega)
    rcases encode_shape r h0 with ⟨a, b, e, hl⟩ | ⟨a, b, c, e, hl⟩ | ⟨a, b, c, d, e, hl⟩
    · exact idxRune_high2N r a b w e hl (by omega) hvr hb1 hb2
    · exact idxRune_high3N r a b c w e hl (by omega) hvr hb1 hb2
    · exact idxRune_high4N r a b c d w e hl (by omega) hvr hb1 hb2
theorem indexAny_anyN (l : List UInt8) : decide (0 ≤ Lib.indexAny l nowLN) = hasAnyN l := by
  induction l with
  | nil => rfl
  | cons b t ih =>
    have hge := Lib.indexAny_ge nowLN t
    unfold hasAnyN at *
    rw [List.any_cons, ← ih]
    have st : Lib.indexAny (b :: t) nowLN = if nowLN.contains b then 0 else if Lib.indexAny t nowLN == -1 then -1 else Lib.indexAny t nowLN + 1 := rfl
    rw [st]
    cases h : nowLN.contains b with
    | true => simp
    | false =>
      simp only [Bool.false_or]
      by_cases hm : Lib.indexAny t nowLN = -1
      · rw [hm]; simp
      · have : (Lib.indexAny t nowLN == -1) = false := beq_eq_false_iff_ne.2 hm
        simp [this]; omega

theorem high_notN (b : UInt8) (h : 128 ≤ b.toNat) : nowLN.contains b = false := by
  rw [Bool.eq_false_iff]
  intro hc
  have hm : b ∈ nowLN := by simpa using hc
  have : ∀ x ∈ nowLN, x.toNat < 128 := by decide
  have := this b hm
  omega
theorem hasAny_highN (l : List UInt8) (h : 128 ≤ (l.getD 0 0).toNat) : hasAnyN l = hasAnyN (l.drop (Lib.decodeL l).2) := by
  conv => lhs; rw [← List.take_append_drop (Lib.decodeL l).2 l]
  unfold hasAnyN
  rw [List.any_append]
  have : (l.take (Lib.decodeL l).2).any (fun b => nowLN.contains b) = false := by
    rw [List.any_eq_false]
    intro b hb
    rw [high_notN b (take_high l h b hb)]; simp
  rw [this, Bool.false_or]

theorem idxRune_lowN (r : Nat) (w : World) (h : r < 128) (b : Bool) (hb : Hid (nowLN.contains (UInt8.ofNat r) = b)) :
    Calls Tryd.prog 68 #[.string ⟨#[10, 13, 9, 44, 91, 93, 123, 125]⟩, .int .i32 r] w fun e w' => (∃ n : Int, e = .returned (.int .i64 n) ∧ decide (0 ≤ n) = b) ∧ w = w' := by
  refine (Tryd.strings_IndexRune_ascii _ r w (by omega) (by omega)).mono ?_
  rintro e w' ⟨rfl, rfl⟩
  refine ⟨⟨_, rfl, ?_⟩, rfl⟩
  rw [← hb.out]
  have : ∀ x : Fin 128, decide (0 ≤ Lib.indexByte nowLN ((x.val : Int).toNat.toUInt8)) = nowLN.contains (UInt8.ofNat x.val) := by decide +kernel
  exact this ⟨r, h⟩

set_option maxHeartbeats 1000000 in
set_option maxRecDepth 1000000 in
theorem idxAny_shortN (s : ByteArray) (w : World) (hs : s.size ≤ 8) :
    Calls Tryd.prog 44 #[.string s, .string ⟨#[10, 13, 9, 44, 91, 93, 123, 125]⟩] w fun e w' => (∃ n : Int, e = .returned (.int .i64 n) ∧ decide (0 ≤ n) = hasAnyN s.data.toList) ∧ Below w.heap.size w w' := by
  obtain ⟨ANS, hANS⟩ : ∃ ANS, hasAnyN s.data.toList = ANS := ⟨_, rfl⟩
  rw [hANS]
  have HA := Lib.hid hANS
  clear hANS
  go_enter Tryd.func44, Tryd.ntmps44
  have c69 : Calls Tryd.prog 69 #[.int .i64 (s.size : Int)] w fun e w' => e = .returned (.bool false) ∧ w = w' := by
    refine (Tryd.strings_shouldUseASCIISet _ _).mono ?_
    rintro e w' ⟨rfl, rfl⟩
    exact ⟨ret_bool (decide_eq_false (by omega)), rfl⟩
  go_wp2_with (go_at_call 69; refine c69.mono ?_; rintro e w' ⟨rfl, rfl⟩)
  clear c69
  go_loopw [] (fun wr => ∃ pos : Nat, wr.heap[w.heap.size]? = some (.stringIter s pos) ∧ Below w.heap.size w wr ∧ Hid (hasAnyN (s.data.toList.drop pos) = ANS)) (fun wr => s.size - wr.iterPos w.heap.size)
  case atStart => exact ⟨0, World.iter_heap w s 0, (Below.refl _ w).alloc (Nat.le_refl _) _, HA⟩
  case round =>
    obtain ⟨pos, hit, hbw, HK⟩ := hrel
    clear HA
    by_cases hp : pos < s.size
    · have hnx : ∀ ty, (Instr.next (.pointer (some ⟨w.heap.size, 0, none⟩)) true ty).run Tryd.prog wr = _ := fun ty => Lib.run_next_any_at wr w.heap.size s pos ty hit hp
      have hwd := dec_pos s pos
      have hit2 := Lib.hid (Lib.iterAt_heap wr w.heap.size s pos (pos + (Utf8.decode s pos).2) hit)
      have hbw2 := Lib.below_iterAt hbw (k := w.heap.size) (Nat.le_refl _) s (pos + (Utf8.decode s pos).2)
      have hdl : Lib.decodeL (s.data.toList.drop pos) = Utf8.decode s pos := Lib.decodeL_drop s pos
      have hdc := Sc.drop_cons s pos hp
      have hg0 : (s.data.toList.drop pos).getD 0 0 = s[pos] := by rw [hdc]; rfl
      by_cases hlow : s[pos].toNat < 128
      · have hd : Utf8.decode s pos = (s[pos].toNat, 1) := by rw [← hdl, hdc, Lib.decodeL_ascii _ _ hlow]
        have hstep : hasAnyN (s.data.toList.drop pos) = (nowLN.contains s[pos] || hasAnyN (s.data.toList.drop (pos + 1))) := by rw [hdc]; unfold hasAnyN; rw [List.any_cons]
        rw [hd] at hit2 hbw2 hnx hwd
        simp only at hit2 hbw2 hnx hwd
        cases hc : nowLN.contains s[pos]
        · have HN : Hid (hasAnyN (s.data.toList.drop (pos + 1)) = ANS) := by
            have := HK.out; rw [hstep, hc, Bool.false_or] at this; exact this
          have hcb : Hid (nowLN.contains (UInt8.ofNat s[pos].toNat) = false) := by show nowLN.contains _ = false; rw [← hc]; simp
          clear hstep hc hd hdl hdc hg0 HK
          go_wp2_with (go_at_call 68; refine (idxRune_lowN _ _ hlow false hcb).mono ?_; rintro e w2 ⟨⟨n, rfl, hn⟩, rfl⟩)
          go_roundw
          case rel => exact ⟨_, hit2.out, hbw2, HN⟩
          case measure => simp only [World.iterPos, hit2.out, hit]; omega
        · have HF : Hid (ANS = true) := by
            have := HK.out; rw [hstep, hc, Bool.true_or] at this; exact this.symm
          have hcb : Hid (nowLN.contains (UInt8.ofNat s[pos].toNat) = true) := by show nowLN.contains _ = true; rw [← hc]; simp
          clear hstep hc hd hdl hdc hg0 HK
          go_wp2_with (go_at_call 68; refine (idxRune_lowN _ _ hlow true hcb).mono ?_; rintro e w2 ⟨⟨n, rfl, hn⟩, rfl⟩)
          go_ret
          exact ⟨⟨_, rfl, by rw [HF.out]; exact decide_eq_true (by omega)⟩, hbw2⟩
      · have hstep : hasAnyN (s.data.toList.drop pos) = hasAnyN (s.data.toList.drop (pos + (Utf8.decode s pos).2)) := by
          rw [hasAny_highN _ (by rw [hg0]; omega), hdl, List.drop_drop]
        have HN : Hid (hasAnyN (s.data.toList.drop (pos + (Utf8.decode s pos).2)) = ANS) := by
          have := HK.out; rw [hstep] at this; exact this
        have hr : 128 ≤ (Utf8.decode s pos).1 := by rw [← hdl]; exact decode_high_first _ (by rw [hg0]; omega)
        have hch : Sc.isCh (Utf8.decode s pos).1 := by rw [← hdl]; exact Sc.decode_ch _
        have C68 := Lib.hid (fun w2 => idxRune_highN (Utf8.decode s pos).1 w2 hr hch)
        clear hstep hdl hdc hg0 HK hch hr
        have hsz2 : w.heap.size < (wr.iterAt w.heap.size s (pos + (Utf8.decode s pos).2)).heap.size := by
          rw [Lib.iterAt_size]; exact (Array.getElem?_eq_some_iff.1 hit).1
        go_wp2_with (go_at_call 68; refine (C68.out _).mono ?_; rintro e w2 ⟨rfl, hb2⟩)
        go_roundw
        case rel => exact ⟨_, (hb2.block _ hsz2).trans hit2.out, hbw2.trans (hb2.mono (Nat.le_of_lt hsz2)), HN⟩
        case measure => simp only [World.iterPos, (hb2.block _ hsz2).trans hit2.out, hit]; omega
    · have hnx : ∀ ty, (Instr.next (.pointer (some ⟨w.heap.size, 0, none⟩)) true ty).run Tryd.prog wr = _ := fun ty => Lib.run_next_end_at wr w.heap.size s pos ty hit hp
      go_wp2
      go_ret
      have : ANS = false := by rw [← HK.out, Sc.drop_nil s pos (by omega)]; rfl
      exact ⟨⟨_, rfl, by rw [this]; rfl⟩, hbw⟩

theorem idxAny_anyN (s : ByteArray) (w : World) (hs : s.size ≤ 100000) :
    Calls Tryd.prog 44 #[.string s, .string ⟨#[10, 13, 9, 44, 91, 93, 123, 125]⟩] w fun e w' => (∃ n : Int, e = .returned (.int .i64 n) ∧ decide (0 ≤ n) = hasAnyN s.data.toList) ∧ Below w.heap.size w w' := by
  by_cases h8 : s.size ≤ 8
  · exact idxAny_shortN s w h8
  · have hz : ∀ w, (zeroValue 80).run Tryd.prog w = .ok (.agg (Array.replicate 256 (.bool false))) w := (zero_of_info zero80).1
    refine (Tryd.strings_IndexAny_long hz s ⟨#[10, 13, 9, 44, 91, 93, 123, 125]⟩ w (by decide) (by omega) (by omega) (by decide) ?_).mono ?_
    · intro j b hb
      have hm : b ∈ nowLN := List.mem_of_getElem? hb
      have : ∀ x ∈ nowLN, x.toNat < 128 := by decide
      exact this b hm
    · rintro e w' ⟨rfl, rfl⟩
      exact ⟨⟨_, rfl, indexAny_anyN _⟩, ((Below.refl _ w).alloc (Nat.le_refl _) _).alloc (by rw [World.size_alloc]; omega) _⟩

set_option maxHeartbeats 1000000 in
theorem containsAny_anyN (s : ByteArray) (w : World) (hs : s.size ≤ 100000) :
    Calls Tryd.prog 25 #[.string s, .string ⟨#[10, 13, 9, 44, 91, 93, 123, 125]⟩] w fun e w' => e = .returned (.bool (hasAnyN s.data.toList)) ∧ Below w.heap.size w w' := by
  have cI := idxAny_anyN s w hs
  generalize hasAnyN s.data.toList = ANS at *
  go_enter Tryd.func25, Tryd.ntmps25
  go_wp2_with (go_at_call 44; refine cI.mono ?_; rintro e w' ⟨⟨n, rfl, hn⟩, hb⟩)
  go_ret
  exact ⟨ret_bool (by first | exact hn | (rw [← hn])), hb⟩
end Go.Proofs.YtlfmaeodkghbbaaDoor
