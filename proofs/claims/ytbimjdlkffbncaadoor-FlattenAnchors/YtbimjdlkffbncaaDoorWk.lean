/-
  Walks of strings.ContainsAny at the bytes that a text without quotes has nowhere, and of scalar.Plain.
-/
import Derived.Test.YtbimjdlkffbncaaDoorWj
namespace Go.Proofs.YtbimjdlkffbncaaDoor
open Go.RowKit

def nowL : List UInt8 := [9, 44, 91, 93, 123, 125]
def hasAny (l : List UInt8) : Bool := l.any fun b => nowL.contains b

theorem indexAny_any (l : List UInt8) : decide (0 ≤ Lib.indexAny l nowL) = hasAny l := by
  induction l with
  | nil => rfl
  | cons b t ih =>
    have hge := Lib.indexAny_ge nowL t
    unfold hasAny at *
    rw [List.any_cons, ← ih]
    have st : Lib.indexAny (b :: t) nowL = if nowL.contains b then 0 else if Lib.indexAny t nowL == -1 then -1 else Lib.indexAny t nowL + 1 := rfl
    rw [st]
    cases h : nowL.contains b with
    | true => simp
    | false =>
      simp only [Bool.false_or]
      by_cases hm : Lib.indexAny t nowL = -1
      · rw [hm]; simp
      · have : (Lib.indexAny t nowL == -1) = false := beq_eq_false_iff_ne.2 hm
        simp [this]; omega

theorem high_not (b : UInt8) (h : 128 ≤ b.toNat) : nowL.contains b = false := by
  rw [Bool.eq_false_iff]
  intro hc
  have hm : b ∈ nowL := by simpa using hc
  have : ∀ x ∈ nowL, x.toNat < 128 := by decide
  have := this b hm
  omega
/-- a step of the decoder over bytes that are no ASCII passes none of these by -/
theorem take_high (l : List UInt8) (h : 128 ≤ (l.getD 0 0).toNat) : ∀ b ∈ l.take (Lib.decodeL l).2, 128 ≤ b.toNat := by
  have hN := Lib.decodeL_N l
  intro b hb
  obtain ⟨j, hj, rfl⟩ := List.getElem_of_mem hb
  rw [List.length_take] at hj
  rw [List.getElem_take]
  have hg : l[j] = l.getD j 0 := by simp [List.getD, (show j < l.length by omega)]
  rw [hg]
  rcases Lib.decodeN_shape l.length (l.getD 0 0).toNat (l.getD 1 0).toNat (l.getD 2 0).toNat (l.getD 3 0).toNat with ⟨h1, e⟩ | ⟨h1, h2, h3, h4, e⟩ | ⟨h1, h2, h3, h4, h5, h6, e⟩ | ⟨h1, h2, h3, h4, h5, h6, h7, e⟩ | e
  all_goals rw [hN, e] at hj; simp only at hj
  · omega
  · match j, hj with
    | 0, _ => exact h
    | 1, _ => omega
    | _ + 2, hj => exact absurd hj (by omega)
  · match j, hj with
    | 0, _ => exact h
    | 1, _ => omega
    | 2, _ => omega
    | _ + 3, hj => exact absurd hj (by omega)
  · match j, hj with
    | 0, _ => exact h
    | 1, _ => omega
    | 2, _ => omega
    | 3, _ => omega
    | _ + 4, hj => exact absurd hj (by omega)
  · match j, hj with
    | 0, _ => exact h
    | _ + 1, hj => exact absurd hj (by omega)
theorem decode_high_first (l : List UInt8) (h : 128 ≤ (l.getD 0 0).toNat) : 128 ≤ (Lib.decodeL l).1 := by
  rw [Lib.decodeL_N l]
  rcases Lib.decodeN_shape l.length (l.getD 0 0).toNat (l.getD 1 0).toNat (l.getD 2 0).toNat (l.getD 3 0).toNat with ⟨h1, e⟩ | ⟨h1, h2, h3, h4, e⟩ | ⟨h1, h2, h3, h4, h5, h6, e⟩ | ⟨h1, h2, h3, h4, h5, h6, h7, e⟩ | e
  all_goals rw [e]; simp only; omega
theorem hasAny_high (l : List UInt8) (h : 128 ≤ (l.getD 0 0).toNat) : hasAny l = hasAny (l.drop (Lib.decodeL l).2) := by
  conv => lhs; rw [← List.take_append_drop (Lib.decodeL l).2 l]
  unfold hasAny
  rw [List.any_append]
  have : (l.take (Lib.decodeL l).2).any (fun b => nowL.contains b) = false := by
    rw [List.any_eq_false]
    intro b hb
    rw [high_not b (take_high l h b hb)]; simp
  rw [this, Bool.false_or]

theorem idxRune_low (r : Nat) (w : World) (h : r < 128) (b : Bool) (hb : Hid (nowL.contains (UInt8.ofNat r) = b)) :
    Calls Tryd.prog 142 #[.string ⟨#[9, 44, 91, 93, 123, 125]⟩, .int .i32 r] w fun e w' => (∃ n : Int, e = .returned (.int .i64 n) ∧ decide (0 ≤ n) = b) ∧ w = w' := by
  refine (Tryd.strings_IndexRune_ascii _ r w (by omega) (by omega)).mono ?_
  rintro e w' ⟨rfl, rfl⟩
  refine ⟨⟨_, rfl, ?_⟩, rfl⟩
  rw [← hb.out]
  have : ∀ x : Fin 128, decide (0 ≤ Lib.indexByte nowL ((x.val : Int).toNat.toUInt8)) = nowL.contains (UInt8.ofNat x.val) := by decide +kernel
  exact this ⟨r, h⟩

set_option maxHeartbeats 1000000 in
set_option maxRecDepth 1000000 in
theorem idxAny_short (s : ByteArray) (w : World) (hs : s.size ≤ 8) :
    Calls Tryd.prog 131 #[.string s, .string ⟨#[9, 44, 91, 93, 123, 125]⟩] w fun e w' => (∃ n : Int, e = .returned (.int .i64 n) ∧ decide (0 ≤ n) = hasAny s.data.toList) ∧ Below w.heap.size w w' := by
  obtain ⟨ANS, hANS⟩ : ∃ ANS, hasAny s.data.toList = ANS := ⟨_, rfl⟩
  rw [hANS]
  have HA := Lib.hid hANS
  clear hANS
  go_enter Tryd.func131, Tryd.ntmps131
  have c69 : Calls Tryd.prog 143 #[.int .i64 (s.size : Int)] w fun e w' => e = .returned (.bool false) ∧ w = w' := by
    refine (Tryd.strings_shouldUseASCIISet _ _).mono ?_
    rintro e w' ⟨rfl, rfl⟩
    exact ⟨ret_bool (decide_eq_false (by omega)), rfl⟩
  go_wp2_with (go_at_call 143; refine c69.mono ?_; rintro e w' ⟨rfl, rfl⟩)
  clear c69
  go_loopw [] (fun wr => ∃ pos : Nat, wr.heap[w.heap.size]? = some (.stringIter s pos) ∧ Below w.heap.size w wr ∧ Hid (hasAny (s.data.toList.drop pos) = ANS)) (fun wr => s.size - wr.iterPos w.heap.size)
  case atStart => exact ⟨0, World.iter_heap w s 0, (Below.refl _ w).alloc (Nat.le_refl _) _, HA⟩
  case round =>
    obtain ⟨pos, hit, hbw, HK⟩ := hrel
    clear HA
    by_cases hp : pos < s.size
    · have hnx : ∀ ty, (Instr.next (.pointer (some ⟨w.heap.size, 0, none⟩)) true ty).run Tryd.prog wr = _ := fun ty => Lib.run_next_any_at wr w.heap.size s pos ty hit hp
      have hwd := dec_pos s pos
      have hit2 := Lib.hid (Lib.iterAt_heap wr w.heap.size s pos (pos + (Utf8.decode s pos).2) hit)
      have hbw2 := Lib.below_iterAt hbw (k := w.heap.size) (Nat.le_refl _) s (pos + (Utf8.decode s pos).2)
      have hdl : Lib.decodeL (s.data.toList.drop pos) = Utf8.decode s pos := Lib.decodeL_drop s pos
      have hdc := Sc.drop_cons s pos hp
      have hg0 : (s.data.toList.drop pos).getD 0 0 = s[pos] := by rw [hdc]; rfl
      by_cases hlow : s[pos].toNat < 128
      · have hd : Utf8.decode s pos = (s[pos].toNat, 1) := by rw [← hdl, hdc, Lib.decodeL_ascii _ _ hlow]
        have hstep : hasAny (s.data.toList.drop pos) = (nowL.contains s[pos] || hasAny (s.data.toList.drop (pos + 1))) := by rw [hdc]; unfold hasAny; rw [List.any_cons]
        rw [hd] at hit2 hbw2 hnx hwd
        simp only at hit2 hbw2 hnx hwd
        cases hc : nowL.contains s[pos]
        · have HN : Hid (hasAny (s.data.toList.drop (pos + 1)) = ANS) := by
            have := HK.out; rw [hstep, hc, Bool.false_or] at this; exact this
          have hcb : Hid (nowL.contains (UInt8.ofNat s[pos].toNat) = false) := by show nowL.contains _ = false; rw [← hc]; simp
          clear hstep hc hd hdl hdc hg0 HK
          go_wp2_with (go_at_call 142; refine (idxRune_low _ _ hlow false hcb).mono ?_; rintro e w2 ⟨⟨n, rfl, hn⟩, rfl⟩)
          go_roundw
          case rel => exact ⟨_, hit2.out, hbw2, HN⟩
          case measure => simp only [World.iterPos, hit2.out, hit]; omega
        · have HF : Hid (ANS = true) := by
            have := HK.out; rw [hstep, hc, Bool.true_or] at this; exact this.symm
          have hcb : Hid (nowL.contains (UInt8.ofNat s[pos].toNat) = true) := by show nowL.contains _ = true; rw [← hc]; simp
          clear hstep hc hd hdl hdc hg0 HK
          go_wp2_with (go_at_call 142; refine (idxRune_low _ _ hlow true hcb).mono ?_; rintro e w2 ⟨⟨n, rfl, hn⟩, rfl⟩)
          go_ret
          exact ⟨⟨_, rfl, by rw [HF.out]; exact decide_eq_true (by omega)⟩, hbw2⟩
      · have hstep : hasAny (s.data.toList.drop pos) = hasAny (s.data.toList.drop (pos + (Utf8.decode s pos).2)) := by
          rw [hasAny_high _ (by rw [hg0]; omega), hdl, List.drop_drop]
        have HN : Hid (hasAny (s.data.toList.drop (pos + (Utf8.decode s pos).2)) = ANS) := by
          have := HK.out; rw [hstep] at this; exact this
        have hr : 128 ≤ (Utf8.decode s pos).1 := by rw [← hdl]; exact decode_high_first _ (by rw [hg0]; omega)
        have hch : Sc.isCh (Utf8.decode s pos).1 := by rw [← hdl]; exact Sc.decode_ch _
        have C68 := Lib.hid (fun w2 => idxRune_high (Utf8.decode s pos).1 w2 hr hch)
        clear hstep hdl hdc hg0 HK hch hr
        have hsz2 : w.heap.size < (wr.iterAt w.heap.size s (pos + (Utf8.decode s pos).2)).heap.size := by
          rw [Lib.iterAt_size]; exact (Array.getElem?_eq_some_iff.1 hit).1
        go_wp2_with (go_at_call 142; refine (C68.out _).mono ?_; rintro e w2 ⟨rfl, hb2⟩)
        go_roundw
        case rel => exact ⟨_, (hb2.block _ hsz2).trans hit2.out, hbw2.trans (hb2.mono (Nat.le_of_lt hsz2)), HN⟩
        case measure => simp only [World.iterPos, (hb2.block _ hsz2).trans hit2.out, hit]; omega
    · have hnx : ∀ ty, (Instr.next (.pointer (some ⟨w.heap.size, 0, none⟩)) true ty).run Tryd.prog wr = _ := fun ty => Lib.run_next_end_at wr w.heap.size s pos ty hit hp
      go_wp2
      go_ret
      have : ANS = false := by rw [← HK.out, Sc.drop_nil s pos (by omega)]; rfl
      exact ⟨⟨_, rfl, by rw [this]; rfl⟩, hbw⟩

theorem zero80 : (Tryd.prog.info? 152).map (fun i => (i.zero, i.size)) = some (some (.agg (Array.replicate 256 (.bool false))), 256) := by kernel_rfl
theorem idxAny_any (s : ByteArray) (w : World) (hs : s.size ≤ 100000) :
    Calls Tryd.prog 131 #[.string s, .string ⟨#[9, 44, 91, 93, 123, 125]⟩] w fun e w' => (∃ n : Int, e = .returned (.int .i64 n) ∧ decide (0 ≤ n) = hasAny s.data.toList) ∧ Below w.heap.size w w' := by
  by_cases h8 : s.size ≤ 8
  · exact idxAny_short s w h8
  · have hz : ∀ w, (zeroValue 152).run Tryd.prog w = .ok (.agg (Array.replicate 256 (.bool false))) w := (zero_of_info zero80).1
    refine (Tryd.strings_IndexAny_long hz s ⟨#[9, 44, 91, 93, 123, 125]⟩ w (by decide) (by omega) (by omega) (by decide) ?_).mono ?_
    · intro j b hb
      have hm : b ∈ nowL := List.mem_of_getElem? hb
      have : ∀ x ∈ nowL, x.toNat < 128 := by decide
      exact this b hm
    · rintro e w' ⟨rfl, rfl⟩
      exact ⟨⟨_, rfl, indexAny_any _⟩, ((Below.refl _ w).alloc (Nat.le_refl _) _).alloc (by rw [World.size_alloc]; omega) _⟩

set_option maxHeartbeats 1000000 in
theorem containsAny_any (s : ByteArray) (w : World) (hs : s.size ≤ 100000) :
    Calls Tryd.prog 119 #[.string s, .string ⟨#[9, 44, 91, 93, 123, 125]⟩] w fun e w' => e = .returned (.bool (hasAny s.data.toList)) ∧ Below w.heap.size w w' := by
  have cI := idxAny_any s w hs
  generalize hasAny s.data.toList = ANS at *
  go_enter Tryd.func119, Tryd.ntmps119
  go_wp2_with (go_at_call 131; refine cI.mono ?_; rintro e w' ⟨⟨n, rfl, hn⟩, hb⟩)
  go_ret
  exact ⟨ret_bool (by first | exact hn | (rw [← hn])), hb⟩

def neverS : ByteArray := ⟨#[32, 45, 63, 58, 44, 91, 93, 123, 125, 35, 38, 42, 33, 124, 62, 39, 34, 37, 64, 96]⟩
/-- may the first byte be one of a text without quotes? -/
def badFirst (b : UInt8) : Bool := decide (0 ≤ Lib.indexByte neverS.data.toList b)
/-- Plain, by its bytes -/
def plainB (l : List UInt8) : Bool :=
  match l with
  | [] => false
  | b :: _ => !(l == [46, 46, 46]) && (oneLineB l && (!hasAny l && (!badFirst b && (!Lib.hasSuffix l [32] && (!Lib.contains l [58, 32] && (!Lib.hasSuffix l [58] && !Lib.contains l [32, 35]))))))

theorem idxByte_first (b : UInt8) (w : World) (r : Bool) (h : Hid (badFirst b = r)) :
    Calls Tryd.prog 120 #[.string ⟨#[32, 45, 63, 58, 44, 91, 93, 123, 125, 35, 38, 42, 33, 124, 62, 39, 34, 37, 64, 96]⟩, .int .u8 b.toNat] w fun e w' => (∃ n : Int, e = .returned (.int .i64 n) ∧ decide (0 ≤ n) = r) ∧ w = w' := by
  refine (Tryd.strings_IndexByte _ b.toNat w).mono ?_
  rintro e w' ⟨rfl, rfl⟩
  refine ⟨⟨_, rfl, ?_⟩, rfl⟩
  have : (b.toNat : Int).toNat.toUInt8 = b := by simp
  rw [this, ← h.out]; rfl
theorem suf_any (s p : ByteArray) (w : World) (hs : s.size ≤ 100000) :
    Calls Tryd.prog 121 #[.string s, .string p] w fun e w' => e = .returned (.bool (Lib.hasSuffix s.data.toList p.data.toList)) ∧ w = w' := by
  refine (Tryd.strings_HasSuffix s p w (by omega)).mono ?_
  rintro e w' ⟨rfl, rfl⟩
  exact ⟨rfl, rfl⟩
theorem con_any (s p : ByteArray) (w : World) (hs : s.size ≤ 100000) (hE : Env w) :
    Calls Tryd.prog 122 #[.string s, .string p] w fun e w' => e = .returned (.bool (Lib.contains s.data.toList p.data.toList)) ∧ w = w' := by
  obtain ⟨m, hm⟩ := hE.maxl
  refine (Tryd.strings_Contains s p m w (by omega) hm).mono ?_
  rintro e w' ⟨rfl, rfl⟩
  exact ⟨rfl, rfl⟩

set_option maxHeartbeats 1000000 in
theorem plain_any (s : ByteArray) (w : World) (hs : s.size ≤ 100000) (hE : Env w) :
    Calls Tryd.prog 98 #[.string s] w fun e w' => e = .returned (.bool (plainB s.data.toList)) ∧ Below w.heap.size w w' := by
  by_cases h0 : 0 < s.size
  · have hl := ba_list s h0
    have hP : plainB s.data.toList = (!(s.data.toList == [46, 46, 46]) && (oneLineB s.data.toList && (!hasAny s.data.toList && (!badFirst s[0] && (!Lib.hasSuffix s.data.toList [32] && (!Lib.contains s.data.toList [58, 32] && (!Lib.hasSuffix s.data.toList [58] && !Lib.contains s.data.toList [32, 35]))))))) := by
      conv => lhs; rw [hl]
      unfold plainB
      simp only
      rw [← hl]
    rw [hP]
    clear hP hl
    have hemp := ba_isEmpty s h0
    have hnil := ba_notnil s h0
    have cO := oneLine_any s w (by omega) hE
    have CA := fun w1 => containsAny_any s w1 hs
    have HB := Lib.hid hE
    clear hE
    have hl3 : (s.data.toList == [46, 46, 46]) = (s.toList == [46, 46, 46]) := by rw [Lib.toList_data]
    rw [hl3]
    clear hl3
    generalize oneLineB s.data.toList = b2 at *
    generalize hasAny s.data.toList = b3 at *
    have CF := fun w1 => idxByte_first s[0] w1 _ (rfl : badFirst s[0] = badFirst s[0])
    generalize badFirst s[0] = b4 at *
    have CO := Lib.hid cO
    have CA := Lib.hid CA
    have CF := Lib.hid CF
    clear cO
    go_enter Tryd.func98, Tryd.ntmps98
    go_wp2_with (first
      | (go_at_call 118; refine CO.out.mono ?_; rintro e w1 ⟨rfl, hb1⟩; have hE1 := Lib.hid (HB.out.below hb1))
      | (go_at_call 119; refine (CA.out _).mono ?_; rintro e w2 ⟨rfl, hb2⟩; have hE2 := Lib.hid (hE1.out.below hb2))
      | (go_at_call 120; refine (CF.out _).mono ?_; rintro e w3 ⟨⟨n, rfl, hn⟩, rfl⟩)
      | (go_at_call 121; refine (suf_any _ _ _ hs).mono ?_; rintro e w3 ⟨rfl, rfl⟩)
      | (go_at_call 122; refine (con_any _ _ _ hs hE2.out).mono ?_; rintro e w3 ⟨rfl, rfl⟩))
    all_goals go_ret
    all_goals refine ⟨ret_bool ?_, ?_⟩
    all_goals first | exact Below.refl _ _ | exact hb1.trans (hb2.mono hb1.size) | exact hb1 | skip
    all_goals clear CO CA CF HB
    all_goals simp_all
  · have hz := ba_zero s (by omega)
    subst hz
    go_enter Tryd.func98, Tryd.ntmps98
    go_wp2
    go_ret
    exact ⟨rfl, Below.refl _ _⟩
end Go.Proofs.YtbimjdlkffbncaaDoor
