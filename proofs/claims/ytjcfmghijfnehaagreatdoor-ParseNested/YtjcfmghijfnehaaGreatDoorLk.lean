/-
  Walks of strings.IndexRune and IndexAny at the bytes that a text without quotes has nowhere.
  Walks of strings.ContainsAny at the bytes that a text without quotes has nowhere, and of scalar.Plain.
  Walks of lex: inName, Name, checked, textOf.
  Plain mathematics, no program's run in it: what End tells.
  Walks of lex: isLine, wordAt.
  Walk of lex.wordAt.
  Walk of lex.Words.
-/
import Derived.Test.YtjcfmghijfnehaaGreatDoorWi
import Derived.WalkMore
import Derived.Test.YtjcfmghijfnehaaGreatDoorEn
import Derived.Test.YtjcfmghijfnehaaGreatDoorLe
namespace Go.Proofs.YtjcfmghijfnehaaGreatDoor
open Go.RowKit

def nowS : ByteArray := ⟨#[9, 44, 91, 93, 123, 125]⟩

theorem encode_shape (r : Nat) (h0 : 128 ≤ r) : (∃ a b : UInt8, Utf8.encode (r : Int) = ⟨#[a, b]⟩ ∧ 128 ≤ b.toNat) ∨ (∃ a b c : UInt8, Utf8.encode (r : Int) = ⟨#[a, b, c]⟩ ∧ 128 ≤ c.toNat) ∨ (∃ a b c d : UInt8, Utf8.encode (r : Int) = ⟨#[a, b, c, d]⟩ ∧ 128 ≤ d.toNat) := by
  have last : ∀ n : Nat, 128 ≤ (UInt8.ofNat (128 + n % 64)).toNat := fun n => by rw [Sc.toNat_of _ (by omega)]; omega
  simp only [Utf8.encode]
  by_cases hv : Utf8.valid (r : Int) = true
  · rw [if_pos hv]
    simp only [Int.toNat_natCast]
    rw [if_neg (by omega)]
    split
    · exact Or.inl ⟨_, _, rfl, last _⟩
    · split
      · exact Or.inr (Or.inl ⟨_, _, _, rfl, last _⟩)
      · exact Or.inr (Or.inr ⟨_, _, _, _, rfl, last _⟩)
  · rw [if_neg hv]
    exact Or.inr (Or.inl ⟨_, _, _, rfl, by decide⟩)

theorem idxByte_no (s : ByteArray) (b : UInt8) (w : World) (h : Hid (Lib.indexByte s.data.toList b = -1)) :
    Calls Tryz.prog 199 #[.string s, .int .u8 b.toNat] w fun e w' => e = .returned (.int .i64 (-1)) ∧ w = w' := by
  refine (Tryz.strings_IndexByte s b.toNat w).mono ?_
  rintro e w' ⟨rfl, rfl⟩
  refine ⟨ret_int ?_, rfl⟩
  have : (b.toNat : Int).toNat.toUInt8 = b := by simp
  rw [this]; exact h.out
theorem idxByte_high (l : List UInt8) (b : UInt8) (h : ∀ x ∈ l, x.toNat < 128) (hb : 128 ≤ b.toNat) : Lib.indexByte l b = -1 := by
  induction l with
  | nil => rfl
  | cons x t ih =>
    have hx := h x (by simp)
    have hne : (x == b) = false := by
      rw [beq_eq_false_iff_ne]; intro e; rw [e] at hx; omega
    simp [Lib.indexByte, hne, ih fun y hy => h y (by simp [hy])]

theorem quiet_add_left {P : Program} {f : FuncId} {args : Array Value} {w : World} {a n : Nat} {v : Value}
    (h : Calls P f args (w.drewN (a + n)) fun e w' => e = .returned v ∧ w.drewN (a + n) = w') :
    Calls P f args (w.drewN (a + n)) fun e w'' => e = .returned v ∧ ∃ m, w'' = w.drewN (a + m) :=
  h.mono fun _ _ ⟨he, hm⟩ => ⟨he, n, hm.symm⟩

set_option maxHeartbeats 2000000 in
set_option maxRecDepth 1000000 in
theorem idxRune_high2 (r : Nat) (a b : UInt8) (w : World) (hRR : Utf8.encode (r : Int) = ⟨#[a, b]⟩) (hl : 128 ≤ b.toNat) (hb0 : (0 : Int) ≤ (r : Int)) (hvr : Lib.validRune (r : Int) = true) (hb1 : decide ((r : Int) < 128) = false) (hb2 : ((r : Int) == 65533) = false) :
    Calls Tryz.prog 260 #[.string ⟨#[9, 44, 91, 93, 123, 125]⟩, .int .i32 r] w fun e w' => e = .returned (.int .i64 (-1)) ∧ Below w.heap.size w w' := by
  have hne : ((((⟨#[9, 44, 91, 93, 123, 125]⟩ : ByteArray)[1]'(by decide)).toNat : Int) != (((⟨#[a, b]⟩ : ByteArray)[1]'(by show 1 < 2; decide)).toNat : Int)) = true := by
    show ((44 : Int) != (b.toNat : Int)) = true
    exact bne_iff_ne.2 (by omega)
  have hI := Lib.hid (idxByte_high [91, 93, 123, 125] b (by decide) hl)
  have hb256 := b.toNat_lt
  have CI := Lib.hid (fun w2 => idxByte_no ((⟨#[9, 44, 91, 93, 123, 125]⟩ : ByteArray).extract 2 6) b w2 hI)
  clear hl hI
  go_enter Tryz.func260, Tryz.ntmps260
  go_wp2_with (go_at_call 262; refine (Tryz.utf8_ValidRune _ _).mono ?_; rintro e w' ⟨rfl, rfl⟩)
  go_step3
  go_wp2
  refine wp_loop_rounds 1 ?_
  rw [rounds_succ]
  go_wp2
  go_step3
  go_wp2
  go_quiet (fail)
  go_wp2
  go_quiet ((go_at_call 199; exact quiet_add_left (CI.out _)))
  go_wp2
  rw [Exit.noGoto_ret]
  go_wp2
  rw [Exit.noGoto_ret]
  go_wp2
  go_ret
  exact ⟨rfl, bel_drewN (Below.refl _ _) _⟩
set_option maxHeartbeats 2000000 in
set_option maxRecDepth 1000000 in
theorem idxRune_high3 (r : Nat) (a b c : UInt8) (w : World) (hRR : Utf8.encode (r : Int) = ⟨#[a, b, c]⟩) (hl : 128 ≤ c.toNat) (hb0 : (0 : Int) ≤ (r : Int)) (hvr : Lib.validRune (r : Int) = true) (hb1 : decide ((r : Int) < 128) = false) (hb2 : ((r : Int) == 65533) = false) :
    Calls Tryz.prog 260 #[.string ⟨#[9, 44, 91, 93, 123, 125]⟩, .int .i32 r] w fun e w' => e = .returned (.int .i64 (-1)) ∧ Below w.heap.size w w' := by
  have hne : ((((⟨#[9, 44, 91, 93, 123, 125]⟩ : ByteArray)[2]'(by decide)).toNat : Int) != (((⟨#[a, b, c]⟩ : ByteArray)[2]'(by show 2 < 3; decide)).toNat : Int)) = true := by
    show ((91 : Int) != (c.toNat : Int)) = true
    exact bne_iff_ne.2 (by omega)
  have hI := Lib.hid (idxByte_high [93, 123, 125] c (by decide) hl)
  have hb256 := c.toNat_lt
  have CI := Lib.hid (fun w2 => idxByte_no ((⟨#[9, 44, 91, 93, 123, 125]⟩ : ByteArray).extract 3 6) c w2 hI)
  clear hl hI
  go_enter Tryz.func260, Tryz.ntmps260
  go_wp2_with (go_at_call 262; refine (Tryz.utf8_ValidRune _ _).mono ?_; rintro e w' ⟨rfl, rfl⟩)
  go_step3
  go_wp2
  refine wp_loop_rounds 1 ?_
  rw [rounds_succ]
  go_wp2
  go_step3
  go_wp2
  go_quiet (fail)
  go_wp2
  go_quiet ((go_at_call 199; exact quiet_add_left (CI.out _)))
  go_wp2
  rw [Exit.noGoto_ret]
  go_wp2
  rw [Exit.noGoto_ret]
  go_wp2
  go_ret
  exact ⟨rfl, bel_drewN (Below.refl _ _) _⟩
set_option maxHeartbeats 2000000 in
set_option maxRecDepth 1000000 in
theorem idxRune_high4 (r : Nat) (a b c d : UInt8) (w : World) (hRR : Utf8.encode (r : Int) = ⟨#[a, b, c, d]⟩) (hl : 128 ≤ d.toNat) (hb0 : (0 : Int) ≤ (r : Int)) (hvr : Lib.validRune (r : Int) = true) (hb1 : decide ((r : Int) < 128) = false) (hb2 : ((r : Int) == 65533) = false) :
    Calls Tryz.prog 260 #[.string ⟨#[9, 44, 91, 93, 123, 125]⟩, .int .i32 r] w fun e w' => e = .returned (.int .i64 (-1)) ∧ Below w.heap.size w w' := by
  have hne : ((((⟨#[9, 44, 91, 93, 123, 125]⟩ : ByteArray)[3]'(by decide)).toNat : Int) != (((⟨#[a, b, c, d]⟩ : ByteArray)[3]'(by show 3 < 4; decide)).toNat : Int)) = true := by
    show ((93 : Int) != (d.toNat : Int)) = true
    exact bne_iff_ne.2 (by omega)
  have hI := Lib.hid (idxByte_high [123, 125] d (by decide) hl)
  have hb256 := d.toNat_lt
  have CI := Lib.hid (fun w2 => idxByte_no ((⟨#[9, 44, 91, 93, 123, 125]⟩ : ByteArray).extract 4 6) d w2 hI)
  clear hl hI
  go_enter Tryz.func260, Tryz.ntmps260
  go_wp2_with (go_at_call 262; refine (Tryz.utf8_ValidRune _ _).mono ?_; rintro e w' ⟨rfl, rfl⟩)
  go_step3
  go_wp2
  refine wp_loop_rounds 1 ?_
  rw [rounds_succ]
  go_wp2
  go_step3
  go_wp2
  go_quiet (fail)
  go_wp2
  go_quiet ((go_at_call 199; exact quiet_add_left (CI.out _)))
  go_wp2
  rw [Exit.noGoto_ret]
  go_wp2
  rw [Exit.noGoto_ret]
  go_wp2
  go_ret
  exact ⟨rfl, bel_drewN (Below.refl _ _) _⟩

set_option maxHeartbeats 2000000 in
set_option maxRecDepth 1000000 in
theorem idxRune_err (w : World) :
    Calls Tryz.prog 260 #[.string ⟨#[9, 44, 91, 93, 123, 125]⟩, .int .i32 65533] w fun e w' => e = .returned (.int .i64 (-1)) ∧ Below w.heap.size w w' := by
  obtain ⟨S, hS⟩ : ∃ S : ByteArray, S = ⟨#[9, 44, 91, 93, 123, 125]⟩ := ⟨_, rfl⟩
  have hasc : ∀ (j : Nat) (h : j < S.size), (S[j]'h).toNat < 128 := by
    subst hS
    intro j h
    have : ∀ k : Fin 6, ((⟨#[9, 44, 91, 93, 123, 125]⟩ : ByteArray)[k.val]'(by have := k.isLt; exact this)).toNat < 128 := by decide
    exact this ⟨j, h⟩
  rw [← hS]
  clear hS
  have HAsc := Lib.hid hasc
  clear hasc
  go_enter Tryz.func260, Tryz.ntmps260
  go_wp2
  go_loopw [] (fun wr => ∃ pos : Nat, wr.heap[w.heap.size]? = some (.stringIter S pos) ∧ Below w.heap.size w wr) (fun wr => S.size - wr.iterPos w.heap.size)
  case atStart => exact ⟨0, World.iter_heap w S 0, (Below.refl _ w).alloc (Nat.le_refl _) _⟩
  case round =>
    obtain ⟨pos, hit, hbw⟩ := hrel
    by_cases hp : pos < S.size
    · have ha := HAsc.out pos hp
      have hnx : ∀ ty, (Instr.next (.pointer (some ⟨w.heap.size, 0, none⟩)) true ty).run Tryz.prog wr = _ := fun ty => Lib.run_next_ascii_at wr w.heap.size S pos ty hit hp ha
      have hit2 := Lib.hid (Lib.iterAt_heap wr w.heap.size S pos (pos + 1) hit)
      have hbw2 := Lib.below_iterAt hbw (k := w.heap.size) (Nat.le_refl _) S (pos + 1)
      have hb : ((S[pos].toNat : Int) == 65533) = false := beq_eq_false_iff_ne.2 (by omega)
      go_wp2
      go_roundw
      case rel => exact ⟨pos + 1, hit2.out, hbw2⟩
      case measure => simp only [World.iterPos, hit2.out, hit]; omega
    · have hnx : ∀ ty, (Instr.next (.pointer (some ⟨w.heap.size, 0, none⟩)) true ty).run Tryz.prog wr = _ := fun ty => Lib.run_next_end_at wr w.heap.size S pos ty hit hp
      go_wp2
      go_ret
      exact ⟨rfl, hbw⟩

/-- a character that is no ASCII is none of these -/
theorem idxRune_high (r : Nat) (w : World) (h0 : 128 ≤ r) (hc : Sc.isCh r) :
    Calls Tryz.prog 260 #[.string ⟨#[9, 44, 91, 93, 123, 125]⟩, .int .i32 r] w fun e w' => e = .returned (.int .i64 (-1)) ∧ Below w.heap.size w w' := by
  by_cases he : r = 65533
  · subst he; exact idxRune_err w
  · have hvr : Lib.validRune (r : Int) = true := by unfold Lib.validRune; unfold Sc.isCh at hc; simp; omega
    have hb1 : decide ((r : Int) < 128) = false := decide_eq_false (by omega)
    have hb2 : ((r : Int) == 65533) = false := beq_eq_false_iff_ne.2 (by omega)
    rcases encode_shape r h0 with ⟨a, b, e, hl⟩ | ⟨a, b, c, e, hl⟩ | ⟨a, b, c, d, e, hl⟩
    · exact idxRune_high2 r a b w e hl (by omega) hvr hb1 hb2
    · exact idxRune_high3 r a b c w e hl (by omega) hvr hb1 hb2
    · exact idxRune_high4 r a b c d w e hl (by omega) hvr hb1 hb2
end Go.Proofs.YtjcfmghijfnehaaGreatDoor
namespace Go.Proofs.YtjcfmghijfnehaaGreatDoor
open Go.RowKit

def nowL : List UInt8 := [9, 44, 91, 93, 123, 125]
def hasAny (l : List UInt8) : Bool := l.any fun b => nowL.contains b

theorem indexAny_any (l : List UInt8) : decide (0 ≤ Lib.indexAny l nowL) = hasAny l := by
  induction l with
  | nil => rfl
  | cons b t ih =>
    have hge := Lib.indexAny_ge nowL t
    unfold hasAny at *
    rw [List.any_cons, ← ih]
    have st : Lib.indexAny (b :: t) nowL = if nowL.contains b then 0 else if Lib.indexAny t nowL == -1 then -1 else Lib.indexAny t nowL + 1 := rfl
    rw [st]
    cases h : nowL.contains b with
    | true => simp
    | false =>
      simp only [Bool.false_or]
      by_cases hm : Lib.indexAny t nowL = -1
      · rw [hm]; simp
      · have : (Lib.indexAny t nowL == -1) = false := beq_eq_false_iff_ne.2 hm
        simp [this]; omega

theorem high_not (b : UInt8) (h : 128 ≤ b.toNat) : nowL.contains b = false := by
  rw [Bool.eq_false_iff]
  intro hc
  have hm : b ∈ nowL := by simpa using hc
  have : ∀ x ∈ nowL, x.toNat < 128 := by decide
  have := this b hm
  omega
/-- a step of the decoder over bytes that are no ASCII passes none of these by -/
theorem take_high (l : List UInt8) (h : 128 ≤ (l.getD 0 0).toNat) : ∀ b ∈ l.take (Lib.decodeL l).2, 128 ≤ b.toNat := by
  have hN := Lib.decodeL_N l
  intro b hb
  obtain ⟨j, hj, rfl⟩ := List.getElem_of_mem hb
  rw [List.length_take] at hj
  rw [List.getElem_take]
  have hg : l[j] = l.getD j 0 := by simp [List.getD, (show j < l.length by omega)]
  rw [hg]
  rcases Lib.decodeN_shape l.length (l.getD 0 0).toNat (l.getD 1 0).toNat (l.getD 2 0).toNat (l.getD 3 0).toNat with ⟨h1, e⟩ | ⟨h1, h2, h3, h4, e⟩ | ⟨h1, h2, h3, h4, h5, h6, e⟩ | ⟨h1, h2, h3, h4, h5, h6, h7, e⟩ | e
  all_goals rw [hN, e] at hj; simp only at hj
  · omega
  · match j, hj with
    | 0, _ => exact h
    | 1, _ => omega
    | _ + 2, hj => exact absurd hj (by omega)
  · match j, hj with
    | 0, _ => exact h
    | 1, _ => omega
    | 2, _ => omega
    | _ + 3, hj => exact absurd hj (by omega)
  · match j, hj with
    | 0, _ => exact h
    | 1, _ => omega
    | 2, _ => omega
    | 3, _ => omega
    | _ + 4, hj => exact absurd hj (by omega)
  · match j, hj with
    | 0, _ => exact h
    | _ + 1, hj => exact absurd hj (by omega)
theorem decode_high_first (l : List UInt8) (h : 128 ≤ (l.getD 0 0).toNat) : 128 ≤ (Lib.decodeL l).1 := by
  rw [Lib.decodeL_N l]
  rcases Lib.decodeN_shape l.length (l.getD 0 0).toNat (l.getD 1 0).toNat (l.getD 2 0).toNat (l.getD 3 0).toNat with ⟨h1, e⟩ | ⟨h1, h2, h3, h4, e⟩ | ⟨h1, h2, h3, h4, h5, h6, e⟩ | ⟨h1, h2, h3, h4, h5, h6, h7, e⟩ | e
  all_goals rw [e]; simp only; omega
theorem hasAny_high (l : List UInt8) (h : 128 ≤ (l.getD 0 0).toNat) : hasAny l = hasAny (l.drop (Lib.decodeL l).2) := by
  conv => lhs; rw [← List.take_append_drop (Lib.decodeL l).2 l]
  unfold hasAny
  rw [List.any_append]
  have : (l.take (Lib.decodeL l).2).any (fun b => nowL.contains b) = false := by
    rw [List.any_eq_false]
    intro b hb
    rw [high_not b (take_high l h b hb)]; simp
  rw [this, Bool.false_or]

theorem idxRune_low (r : Nat) (w : World) (h : r < 128) (b : Bool) (hb : Hid (nowL.contains (UInt8.ofNat r) = b)) :
    Calls Tryz.prog 260 #[.string ⟨#[9, 44, 91, 93, 123, 125]⟩, .int .i32 r] w fun e w' => (∃ n : Int, e = .returned (.int .i64 n) ∧ decide (0 ≤ n) = b) ∧ w = w' := by
  refine (Tryz.strings_IndexRune_ascii _ r w (by omega) (by omega)).mono ?_
  rintro e w' ⟨rfl, rfl⟩
  refine ⟨⟨_, rfl, ?_⟩, rfl⟩
  rw [← hb.out]
  have : ∀ x : Fin 128, decide (0 ≤ Lib.indexByte nowL ((x.val : Int).toNat.toUInt8)) = nowL.contains (UInt8.ofNat x.val) := by decide +kernel
  exact this ⟨r, h⟩

set_option maxHeartbeats 1000000 in
set_option maxRecDepth 1000000 in
theorem idxAny_short (s : ByteArray) (w : World) (hs : s.size ≤ 8) :
    Calls Tryz.prog 236 #[.string s, .string ⟨#[9, 44, 91, 93, 123, 125]⟩] w fun e w' => (∃ n : Int, e = .returned (.int .i64 n) ∧ decide (0 ≤ n) = hasAny s.data.toList) ∧ Below w.heap.size w w' := by
  obtain ⟨ANS, hANS⟩ : ∃ ANS, hasAny s.data.toList = ANS := ⟨_, rfl⟩
  rw [hANS]
  have HA := Lib.hid hANS
  clear hANS
  go_enter Tryz.func236, Tryz.ntmps236
  have c69 : Calls Tryz.prog 263 #[.int .i64 (s.size : Int)] w fun e w' => e = .returned (.bool false) ∧ w = w' := by
    refine (Tryz.strings_shouldUseASCIISet _ _).mono ?_
    rintro e w' ⟨rfl, rfl⟩
    exact ⟨ret_bool (decide_eq_false (by omega)), rfl⟩
  go_wp2_with (go_at_call 263; refine c69.mono ?_; rintro e w' ⟨rfl, rfl⟩)
  clear c69
  go_loopw [] (fun wr => ∃ pos : Nat, wr.heap[w.heap.size]? = some (.stringIter s pos) ∧ Below w.heap.size w wr ∧ Hid (hasAny (s.data.toList.drop pos) = ANS)) (fun wr => s.size - wr.iterPos w.heap.size)
  case atStart => exact ⟨0, World.iter_heap w s 0, (Below.refl _ w).alloc (Nat.le_refl _) _, HA⟩
  case round =>
    obtain ⟨pos, hit, hbw, HK⟩ := hrel
    clear HA
    by_cases hp : pos < s.size
    · have hnx : ∀ ty, (Instr.next (.pointer (some ⟨w.heap.size, 0, none⟩)) true ty).run Tryz.prog wr = _ := fun ty => Lib.run_next_any_at wr w.heap.size s pos ty hit hp
      have hwd := dec_pos s pos
      have hit2 := Lib.hid (Lib.iterAt_heap wr w.heap.size s pos (pos + (Utf8.decode s pos).2) hit)
      have hbw2 := Lib.below_iterAt hbw (k := w.heap.size) (Nat.le_refl _) s (pos + (Utf8.decode s pos).2)
      have hdl : Lib.decodeL (s.data.toList.drop pos) = Utf8.decode s pos := Lib.decodeL_drop s pos
      have hdc := Sc.drop_cons s pos hp
      have hg0 : (s.data.toList.drop pos).getD 0 0 = s[pos] := by rw [hdc]; rfl
      by_cases hlow : s[pos].toNat < 128
      · have hd : Utf8.decode s pos = (s[pos].toNat, 1) := by rw [← hdl, hdc, Lib.decodeL_ascii _ _ hlow]
        have hstep : hasAny (s.data.toList.drop pos) = (nowL.contains s[pos] || hasAny (s.data.toList.drop (pos + 1))) := by rw [hdc]; unfold hasAny; rw [List.any_cons]
        rw [hd] at hit2 hbw2 hnx hwd
        simp only at hit2 hbw2 hnx hwd
        cases hc : nowL.contains s[pos]
        · have HN : Hid (hasAny (s.data.toList.drop (pos + 1)) = ANS) := by
            have := HK.out; rw [hstep, hc, Bool.false_or] at this; exact this
          have hcb : Hid (nowL.contains (UInt8.ofNat s[pos].toNat) = false) := by show nowL.contains _ = false; rw [← hc]; simp
          clear hstep hc hd hdl hdc hg0 HK
          go_wp2_with (go_at_call 260; refine (idxRune_low _ _ hlow false hcb).mono ?_; rintro e w2 ⟨⟨n, rfl, hn⟩, rfl⟩)
          go_roundw
          case rel => exact ⟨_, hit2.out, hbw2, HN⟩
          case measure => simp only [World.iterPos, hit2.out, hit]; omega
        · have HF : Hid (ANS = true) := by
            have := HK.out; rw [hstep, hc, Bool.true_or] at this; exact this.symm
          have hcb : Hid (nowL.contains (UInt8.ofNat s[pos].toNat) = true) := by show nowL.contains _ = true; rw [← hc]; simp
          clear hstep hc hd hdl hdc hg0 HK
          go_wp2_with (go_at_call 260; refine (idxRune_low _ _ hlow true hcb).mono ?_; rintro e w2 ⟨⟨n, rfl, hn⟩, rfl⟩)
          go_ret
          exact ⟨⟨_, rfl, by rw [HF.out]; exact decide_eq_true (by omega)⟩, hbw2⟩
      · have hstep : hasAny (s.data.toList.drop pos) = hasAny (s.data.toList.drop (pos + (Utf8.decode s pos).2)) := by
          rw [hasAny_high _ (by rw [hg0]; omega), hdl, List.drop_drop]
        have HN : Hid (hasAny (s.data.toList.drop (pos + (Utf8.decode s pos).2)) = ANS) := by
          have := HK.out; rw [hstep] at this; exact this
        have hr : 128 ≤ (Utf8.decode s pos).1 := by rw [← hdl]; exact decode_high_first _ (by rw [hg0]; omega)
        have hch : Sc.isCh (Utf8.decode s pos).1 := by rw [← hdl]; exact Sc.decode_ch _
        have C68 := Lib.hid (fun w2 => idxRune_high (Utf8.decode s pos).1 w2 hr hch)
        clear hstep hdl hdc hg0 HK hch hr
        have hsz2 : w.heap.size < (wr.iterAt w.heap.size s (pos + (Utf8.decode s pos).2)).heap.size := by
          rw [Lib.iterAt_size]; exact (Array.getElem?_eq_some_iff.1 hit).1
        go_wp2_with (go_at_call 260; refine (C68.out _).mono ?_; rintro e w2 ⟨rfl, hb2⟩)
        go_roundw
        case rel => exact ⟨_, (hb2.block _ hsz2).trans hit2.out, hbw2.trans (hb2.mono (Nat.le_of_lt hsz2)), HN⟩
        case measure => simp only [World.iterPos, (hb2.block _ hsz2).trans hit2.out, hit]; omega
    · have hnx : ∀ ty, (Instr.next (.pointer (some ⟨w.heap.size, 0, none⟩)) true ty).run Tryz.prog wr = _ := fun ty => Lib.run_next_end_at wr w.heap.size s pos ty hit hp
      go_wp2
      go_ret
      have : ANS = false := by rw [← HK.out, Sc.drop_nil s pos (by omega)]; rfl
      exact ⟨⟨_, rfl, by rw [this]; rfl⟩, hbw⟩

theorem zero80 : (Tryz.prog.info? 207).map (fun i => (i.zero, i.size)) = some (some (.agg (Array.replicate 256 (.bool false))), 256) := by kernel_rfl
theorem idxAny_any (s : ByteArray) (w : World) (hs : s.size ≤ 100000) :
    Calls Tryz.prog 236 #[.string s, .string ⟨#[9, 44, 91, 93, 123, 125]⟩] w fun e w' => (∃ n : Int, e = .returned (.int .i64 n) ∧ decide (0 ≤ n) = hasAny s.data.toList) ∧ Below w.heap.size w w' := by
  by_cases h8 : s.size ≤ 8
  · exact idxAny_short s w h8
  · have hz : ∀ w, (zeroValue 207).run Tryz.prog w = .ok (.agg (Array.replicate 256 (.bool false))) w := (zero_of_info zero80).1
    refine (Tryz.strings_IndexAny_long hz s ⟨#[9, 44, 91, 93, 123, 125]⟩ w (by decide) (by omega) (by omega) (by decide) ?_).mono ?_
    · intro j b hb
      have hm : b ∈ nowL := List.mem_of_getElem? hb
      have : ∀ x ∈ nowL, x.toNat < 128 := by decide
      exact this b hm
    · rintro e w' ⟨rfl, rfl⟩
      exact ⟨⟨_, rfl, indexAny_any _⟩, ((Below.refl _ w).alloc (Nat.le_refl _) _).alloc (by rw [World.size_alloc]; omega) _⟩

set_option maxHeartbeats 1000000 in
theorem containsAny_any (s : ByteArray) (w : World) (hs : s.size ≤ 100000) :
    Calls Tryz.prog 198 #[.string s, .string ⟨#[9, 44, 91, 93, 123, 125]⟩] w fun e w' => e = .returned (.bool (hasAny s.data.toList)) ∧ Below w.heap.size w w' := by
  have cI := idxAny_any s w hs
  generalize hasAny s.data.toList = ANS at *
  go_enter Tryz.func198, Tryz.ntmps198
  go_wp2_with (go_at_call 236; refine cI.mono ?_; rintro e w' ⟨⟨n, rfl, hn⟩, hb⟩)
  go_ret
  exact ⟨ret_bool (by first | exact hn | (rw [← hn])), hb⟩

def neverS : ByteArray := ⟨#[32, 45, 63, 58, 44, 91, 93, 123, 125, 35, 38, 42, 33, 124, 62, 39, 34, 37, 64, 96]⟩
/-- may the first byte be one of a text without quotes? -/
def badFirst (b : UInt8) : Bool := decide (0 ≤ Lib.indexByte neverS.data.toList b)
/-- Plain, by its bytes -/
def plainB (l : List UInt8) : Bool :=
  match l with
  | [] => false
  | b :: _ => !(l == [46, 46, 46]) && (oneLineB l && (!hasAny l && (!badFirst b && (!Lib.hasSuffix l [32] && (!Lib.contains l [58, 32] && (!Lib.hasSuffix l [58] && !Lib.contains l [32, 35]))))))

theorem idxByte_first (b : UInt8) (w : World) (r : Bool) (h : Hid (badFirst b = r)) :
    Calls Tryz.prog 199 #[.string ⟨#[32, 45, 63, 58, 44, 91, 93, 123, 125, 35, 38, 42, 33, 124, 62, 39, 34, 37, 64, 96]⟩, .int .u8 b.toNat] w fun e w' => (∃ n : Int, e = .returned (.int .i64 n) ∧ decide (0 ≤ n) = r) ∧ w = w' := by
  refine (Tryz.strings_IndexByte _ b.toNat w).mono ?_
  rintro e w' ⟨rfl, rfl⟩
  refine ⟨⟨_, rfl, ?_⟩, rfl⟩
  have : (b.toNat : Int).toNat.toUInt8 = b := by simp
  rw [this, ← h.out]; rfl
theorem suf_any (s p : ByteArray) (w : World) (hs : s.size ≤ 100000) :
    Calls Tryz.prog 200 #[.string s, .string p] w fun e w' => e = .returned (.bool (Lib.hasSuffix s.data.toList p.data.toList)) ∧ w = w' := by
  refine (Tryz.strings_HasSuffix s p w (by omega)).mono ?_
  rintro e w' ⟨rfl, rfl⟩
  exact ⟨rfl, rfl⟩
theorem con_any (s p : ByteArray) (w : World) (hs : s.size ≤ 100000) (hE : Env w) :
    Calls Tryz.prog 19 #[.string s, .string p] w fun e w' => e = .returned (.bool (Lib.contains s.data.toList p.data.toList)) ∧ w = w' := by
  obtain ⟨m, hm⟩ := hE.maxl
  refine (Tryz.strings_Contains s p m w (by omega) hm).mono ?_
  rintro e w' ⟨rfl, rfl⟩
  exact ⟨rfl, rfl⟩

set_option maxHeartbeats 1000000 in
theorem plain_any (s : ByteArray) (w : World) (hs : s.size ≤ 100000) (hE : Env w) :
    Calls Tryz.prog 143 #[.string s] w fun e w' => e = .returned (.bool (plainB s.data.toList)) ∧ Below w.heap.size w w' := by
  by_cases h0 : 0 < s.size
  · have hl := ba_list s h0
    have hP : plainB s.data.toList = (!(s.data.toList == [46, 46, 46]) && (oneLineB s.data.toList && (!hasAny s.data.toList && (!badFirst s[0] && (!Lib.hasSuffix s.data.toList [32] && (!Lib.contains s.data.toList [58, 32] && (!Lib.hasSuffix s.data.toList [58] && !Lib.contains s.data.toList [32, 35]))))))) := by
      conv => lhs; rw [hl]
      unfold plainB
      simp only
      rw [← hl]
    rw [hP]
    clear hP hl
    have hemp := ba_isEmpty s h0
    have hnil := ba_notnil s h0
    have cO := oneLine_any s w (by omega) hE
    have CA := fun w1 => containsAny_any s w1 hs
    have HB := Lib.hid hE
    clear hE
    have hl3 : (s.data.toList == [46, 46, 46]) = (s.toList == [46, 46, 46]) := by rw [Lib.toList_data]
    rw [hl3]
    clear hl3
    generalize oneLineB s.data.toList = b2 at *
    generalize hasAny s.data.toList = b3 at *
    have CF := fun w1 => idxByte_first s[0] w1 _ (rfl : badFirst s[0] = badFirst s[0])
    generalize badFirst s[0] = b4 at *
    have CO := Lib.hid cO
    have CA := Lib.hid CA
    have CF := Lib.hid CF
    clear cO
    go_enter Tryz.func143, Tryz.ntmps143
    go_wp2_with (first
      | (go_at_call 197; refine CO.out.mono ?_; rintro e w1 ⟨rfl, hb1⟩; have hE1 := Lib.hid (HB.out.below hb1))
      | (go_at_call 198; refine (CA.out _).mono ?_; rintro e w2 ⟨rfl, hb2⟩; have hE2 := Lib.hid (hE1.out.below hb2))
      | (go_at_call 199; refine (CF.out _).mono ?_; rintro e w3 ⟨⟨n, rfl, hn⟩, rfl⟩)
      | (go_at_call 200; refine (suf_any _ _ _ hs).mono ?_; rintro e w3 ⟨rfl, rfl⟩)
      | (go_at_call 19; refine (con_any _ _ _ hs hE2.out).mono ?_; rintro e w3 ⟨rfl, rfl⟩))
    all_goals go_ret
    all_goals refine ⟨ret_bool ?_, ?_⟩
    all_goals first | exact Below.refl _ _ | exact hb1.trans (hb2.mono hb1.size) | exact hb1 | skip
    all_goals clear CO CA CF HB
    all_goals simp_all
  · have hz := ba_zero s (by omega)
    subst hz
    go_enter Tryz.func143, Tryz.ntmps143
    go_wp2
    go_ret
    exact ⟨rfl, Below.refl _ _⟩
end Go.Proofs.YtjcfmghijfnehaaGreatDoor
namespace Go.Proofs.YtjcfmghijfnehaaGreatDoor
namespace Lx
def inName (b : UInt8) : Bool := (decide (65 ≤ b.toNat) && decide (b.toNat ≤ 90)) || (decide (97 ≤ b.toNat) && decide (b.toNat ≤ 122)) || (decide (48 ≤ b.toNat) && decide (b.toNat ≤ 57)) || decide (b.toNat = 45) || decide (b.toNat = 95)
def name (l : List UInt8) : Bool := !l.isEmpty && decide (l.length ≤ 40) && l.all inName
/-- a text that has to be of a form -/
def chk (b : Bool) (l : List UInt8) : List UInt8 × Nat := if b then (l, 0) else ([], 5)
def orErr (n : Nat) : Option (List UInt8) → List UInt8 × Nat
  | some l => (l, 0)
  | none => ([], n)
/-- the text of a word, or its error -/
def wtext (l : List UInt8) (k : Nat) : List UInt8 × Nat :=
  if k = 2 then orErr 10 (unquoteOf l) else if k = 1 then orErr 10 (unsingleOf l) else if k = 3 ∨ k = 4 then chk (name (l.drop 1)) (l.drop 1)
  else if k = 5 then orErr 14 (Tg.read l) else if k = 0 then chk (plainB l) l else ([], 0)
end Lx
open Go.RowKit

set_option maxHeartbeats 1000000 in
theorem linName_any (b : UInt8) (w : World) :
    Calls Tryz.prog 119 #[.int .u8 b.toNat] w fun e w' => e = .returned (.bool (Lx.inName b)) ∧ w = w' := by
  have hb := b.toNat_lt
  go_enter Tryz.func119, Tryz.ntmps119
  go_wp2
  all_goals go_ret
  all_goals exact ⟨ret_bool (by unfold Lx.inName; rw [Bool.eq_iff_iff]; simp at *; omega), rfl⟩
theorem lall_at (s : ByteArray) (k : Nat) (h : k < s.size) : (s.data.toList.drop k).all Lx.inName = (Lx.inName s[k] && (s.data.toList.drop (k + 1)).all Lx.inName) := by
  rw [Sc.drop_cons s k h, List.all_cons]

set_option maxHeartbeats 1000000 in
set_option maxRecDepth 100000 in
theorem lname_any (s : ByteArray) (w : World) (hs : s.size ≤ 1000000) :
    Calls Tryz.prog 72 #[.string s] w fun e w' => e = .returned (.bool (Lx.name s.data.toList)) ∧ Below w.heap.size w w' := by
  by_cases h0 : s.size = 0
  · obtain rfl := Tag.ba_nil s h0
    clear h0
    go_enter Tryz.func72, Tryz.ntmps72
    go_wp2
    go_ret
    exact ⟨rfl, Below.refl _ _⟩
  · have hp : 0 < s.size := by omega
    have hemp := ba_isEmpty s hp
    have hnil := ba_notnil s hp
    have hne : s.data.toList.isEmpty = false := by rw [← Lib.toList_data]; exact hemp
    unfold Lx.name
    rw [hne, ← Lib.size_eq]
    clear hne
    by_cases h4 : s.size ≤ 40
    · have b1 : decide ((40 : Int) < (s.size : Int)) = false := decide_eq_false (by omega)
      rw [decide_eq_true h4]
      obtain ⟨ANS, hANS⟩ : ∃ ANS, s.data.toList.all Lx.inName = ANS := ⟨_, rfl⟩
      rw [hANS]
      have HA : Hid ((s.data.toList.drop 0).all Lx.inName = ANS) := hANS
      clear hANS
      have hcv := Lib.run_convert_string_bytes (P := Tryz.prog) w 9 53 5 s (u := .string) Tryz.underlying9 Tryz.underlying53 Tryz.underlying5
      have hbw := Lib.bytesWorld_below w 5 s
      have HC := Lib.hid (fun j hj => Lib.bytesWorld_cell w 5 s j hj)
      generalize Lib.bytesWorld w 5 s = W1 at hcv hbw HC
      go_enter Tryz.func72, Tryz.ntmps72
      go_wp2
      go_loop [15] (fun i => ∃ k : Nat, k ≤ s.size ∧ i = .int .i64 k ∧ Hid ((s.data.toList.drop k).all Lx.inName = ANS)) (fun i => s.size - (intOf i).toNat)
      case atStart => exact ⟨0, by omega, rfl, HA⟩
      case round =>
        obtain ⟨k, hk, rfl, HK⟩ := hrel
        clear HA hcv
        by_cases hlt : k < s.size
        · have HS : Hid (_ = _) := lall_at s k hlt
          have hc := HC.out k hlt
          rw [Lx.getD_at s k hlt] at hc
          have cI := linName_any s[k] W1
          cases hi : Lx.inName s[k]
          · rw [hi] at cI
            have HF : Hid (ANS = false) := by have h := HK.out; rw [HS.out, hi, Bool.false_and] at h; exact h.symm
            clear HS HK hi
            go_wp2_with (go_at_call 119; refine cI.mono ?_; rintro e w' ⟨rfl, rfl⟩)
            go_ret
            exact ⟨ret_bool (by rw [HF.out] <;> rfl), hbw⟩
          · rw [hi] at cI
            have HN : Hid ((s.data.toList.drop (k + 1)).all Lx.inName = ANS) := by have h := HK.out; rw [HS.out, hi, Bool.true_and] at h; exact h
            clear HS HK hi
            go_wp2_with (go_at_call 119; refine cI.mono ?_; rintro e w' ⟨rfl, rfl⟩)
            go_round
            case rel => exact ⟨k + 1, by omega, by go_num, HN⟩
            case measure => simp [intOf]; omega
        · have HF : Hid (ANS = true) := by have h := HK.out; rw [Sc.drop_nil s k (by omega)] at h; exact h.symm
          clear HK
          go_wp2
          go_ret
          exact ⟨ret_bool (by rw [HF.out] <;> rfl), hbw⟩
    · have b1 : decide ((40 : Int) < (s.size : Int)) = true := decide_eq_true (by omega)
      rw [decide_eq_false h4]
      go_enter Tryz.func72, Tryz.ntmps72
      go_wp2
      go_ret
      exact ⟨rfl, Below.refl _ _⟩


def strI (p : List UInt8 × Nat) : Ending := .returned (.tuple #[.string (str p.1), .int .i64 p.2])
theorem str_self (s : ByteArray) : str s.data.toList = s := Tag.str_eq s

set_option maxHeartbeats 1000000 in
theorem checked_any (g : Nat) (b : Bool) (s : ByteArray) (w : World) (eg : ∀ args w, (callFunc g args).run Tryz.prog w = .ok (.enter g args) w)
    (hg : Calls Tryz.prog g #[.string s] w fun e w' => e = .returned (.bool b) ∧ Below w.heap.size w w') :
    Calls Tryz.prog 141 #[.string s, .func (.func g) #[] #[]] w fun e w' => e = strI (Lx.chk b s.data.toList) ∧ Below w.heap.size w w' := by
  cases b
  · go_enter Tryz.func141, Tryz.ntmps141
    go_wp2_with (go_at_fn g; refine hg.mono ?_; rintro e w' ⟨rfl, hb⟩)
    go_ret2
    exact ⟨rfl, hb⟩
  · go_enter Tryz.func141, Tryz.ntmps141
    go_wp2_with (go_at_fn g; refine hg.mono ?_; rintro e w' ⟨rfl, hb⟩)
    go_ret2
    refine ⟨?_, hb⟩
    show _ = Ending.returned (.tuple #[.string (str s.data.toList), _])
    rw [str_self]; rfl
theorem entersN : ∀ args w, (callFunc 72 args).run Tryz.prog w = .ok (.enter 72 args) w := enters_of Tryz.func72 (by kernel_rfl) rfl
theorem entersP : ∀ args w, (callFunc 143 args).run Tryz.prog w = .ok (.enter 143 args) w := enters_of Tryz.func143 (by kernel_rfl) rfl

theorem txtR_orErr (o : Option (List UInt8)) : txtR o = strI (Lx.orErr 10 o) := by cases o <;> rfl
theorem readE_orErr (o : Option (List UInt8)) : Tag.readE o = strI (Lx.orErr 14 o) := by cases o <;> rfl

set_option maxHeartbeats 2000000 in
theorem wtext_any (s : ByteArray) (k : Nat) (w : World) (hs : s.size ≤ 50000) (h0 : 0 < s.size) (hk : k ≤ 13) (hE : Env w) :
    Calls Tryz.prog 84 #[.string s, .int .i64 k] w fun e w' => e = strI (Lx.wtext s.data.toList k) ∧ Below w.heap.size w w' := by
  have e1 : (s.extract 1 s.size).data.toList = s.data.toList.drop 1 := Lib.extract_to_end s 1
  have hTs : (s.extract 1 s.size).size ≤ 1000000 := by
    rw [Lib.size_eq, e1, List.length_drop, ← Lib.size_eq]; omega
  have c1 := unquote_any s w hs hE
  have c2 := unsingle_any s w (by omega) hE
  have c3 := checked_any 72 _ (s.extract 1 s.size) w entersN (lname_any (s.extract 1 s.size) w hTs)
  have c4 := Tag.read_any s w (by omega)
  have c5 := checked_any 143 _ s w entersP (plain_any s w (by omega) hE)
  rw [e1] at c3
  rw [txtR_orErr] at c1 c2
  rw [readE_orErr] at c4
  clear hE e1 hTs
  unfold Lx.wtext
  generalize Lx.orErr 10 (unquoteOf s.data.toList) = A1 at *
  generalize Lx.orErr 10 (unsingleOf s.data.toList) = A2 at *
  generalize Lx.chk (Lx.name (s.data.toList.drop 1)) (s.data.toList.drop 1) = A3 at *
  generalize Lx.orErr 14 (Tg.read s.data.toList) = A4 at *
  generalize Lx.chk (plainB s.data.toList) s.data.toList = A5 at *
  unfold strI at *
  have H1 := Lib.hid c1
  have H2 := Lib.hid c2
  have H3 := Lib.hid c3
  have H4 := Lib.hid c4
  have H5 := Lib.hid c5
  clear c1 c2 c3 c4 c5
  match k, hk with
  | 3, _ | 4, _ =>
    go_enter Tryz.func84, Tryz.ntmps84
    go_wp2_with (go_at_call 141; refine H3.out.mono ?_; rintro e w' ⟨rfl, hb⟩)
    go_ret2
    exact ⟨rfl, hb⟩
  | 0, _ | 1, _ | 2, _ | 5, _ | 6, _ | 7, _ | 8, _ | 9, _ | 10, _ | 11, _ | 12, _ | 13, _ =>
    go_enter Tryz.func84, Tryz.ntmps84
    go_wp2_with (first
      | (go_at_call 139; refine H1.out.mono ?_; rintro e w' ⟨rfl, hb⟩)
      | (go_at_call 140; refine H2.out.mono ?_; rintro e w' ⟨rfl, hb⟩)
      | (go_at_call 141; refine H5.out.mono ?_; rintro e w' ⟨rfl, hb⟩)
      | (go_at_call 142; refine H4.out.mono ?_; rintro e w' ⟨rfl, hb⟩))
    go_ret2
    first | exact ⟨rfl, hb⟩ | exact ⟨rfl, Below.refl _ _⟩
end Go.Proofs.YtjcfmghijfnehaaGreatDoor
namespace Go.Proofs.YtjcfmghijfnehaaGreatDoor
namespace Sc
theorem endD_some : ∀ (t : List UInt8) (k n : Nat), endD t k = some n → k + 1 ≤ n ∧ n ≤ k + t.length ∧ t[n - k - 1]? = some 34 ∧ ∀ r, endD (t.take (n - k) ++ r) k = some n
  | [], k, n, h => by simp [endD] at h
  | [b], k, n, h => by
    simp only [endD] at h
    by_cases hb : b = 34
    · rw [if_pos hb] at h
      cases h
      subst hb
      have e : k + 1 - k = 1 := by omega
      refine ⟨by omega, by simp, by simp [e], fun r => ?_⟩
      simp [e, endD_q]
    · rw [if_neg hb] at h; cases h
  | b :: c :: t, k, n, h => by
    simp only [endD] at h
    by_cases hb : b = 92
    · rw [if_pos hb] at h
      obtain ⟨h1, h2, h3, h4⟩ := endD_some t (k + 2) n h
      subst hb
      obtain ⟨m, rfl⟩ : ∃ m, n = k + 2 + m + 1 := ⟨n - k - 3, by omega⟩
      have e1 : k + 2 + m + 1 - (k + 2) - 1 = m := by omega
      have e2 : k + 2 + m + 1 - (k + 2) = m + 1 := by omega
      have e3 : k + 2 + m + 1 - k - 1 = m + 2 := by omega
      have e4 : k + 2 + m + 1 - k = m + 3 := by omega
      rw [e1] at h3
      refine ⟨by omega, by simp; omega, by rw [e3]; simpa using h3, fun r => ?_⟩
      have := h4 r
      rw [e2] at this
      rw [e4]
      simp only [List.take_succ_cons, List.cons_append]
      rw [endD_bs]
      simpa using this
    · rw [if_neg hb] at h
      by_cases hb2 : b = 34
      · rw [if_pos hb2] at h
        cases h
        subst hb2
        have e : k + 1 - k = 1 := by omega
        refine ⟨by omega, by simp, by simp [e], fun r => ?_⟩
        simp [e, endD_q]
      · rw [if_neg hb2] at h
        obtain ⟨h1, h2, h3, h4⟩ := endD_some (c :: t) (k + 1) n h
        obtain ⟨m, rfl⟩ : ∃ m, n = k + 1 + m + 1 := ⟨n - k - 2, by omega⟩
        have e1 : k + 1 + m + 1 - (k + 1) - 1 = m := by omega
        have e2 : k + 1 + m + 1 - (k + 1) = m + 1 := by omega
        have e3 : k + 1 + m + 1 - k - 1 = m + 1 := by omega
        have e4 : k + 1 + m + 1 - k = m + 2 := by omega
        rw [e1] at h3
        refine ⟨by omega, by simp at h2 ⊢; omega, by rw [e3]; simpa using h3, fun r => ?_⟩
        have := h4 r
        rw [e2] at this
        rw [e4]
        simp only [List.take_succ_cons, List.cons_append]
        rw [endD_other b _ _ hb hb2]
        simpa using this
theorem endS_some : ∀ (t : List UInt8) (k n : Nat), endS t k = some n → k + 1 ≤ n ∧ n ≤ k + t.length ∧ t[n - k - 1]? = some 39 ∧ ∀ r, r.head? ≠ some 39 → endS (t.take (n - k) ++ r) k = some n
  | [], k, n, h => by simp [endS] at h
  | [b], k, n, h => by
    simp only [endS] at h
    by_cases hb : b = 39
    · rw [if_pos hb] at h
      cases h
      subst hb
      have e : k + 1 - k = 1 := by omega
      refine ⟨by omega, by simp, by simp [e], fun r hr => ?_⟩
      simp [e, endS_q r k hr]
    · rw [if_neg hb] at h; cases h
  | b :: c :: t, k, n, h => by
    simp only [endS] at h
    by_cases hb : b = 39
    · rw [if_pos hb] at h
      subst hb
      by_cases hc : c = 39
      · rw [if_pos hc] at h
        subst hc
        obtain ⟨h1, h2, h3, h4⟩ := endS_some t (k + 2) n h
        obtain ⟨m, rfl⟩ : ∃ m, n = k + 2 + m + 1 := ⟨n - k - 3, by omega⟩
        have e1 : k + 2 + m + 1 - (k + 2) - 1 = m := by omega
        have e2 : k + 2 + m + 1 - (k + 2) = m + 1 := by omega
        have e3 : k + 2 + m + 1 - k - 1 = m + 2 := by omega
        have e4 : k + 2 + m + 1 - k = m + 3 := by omega
        rw [e1] at h3
        refine ⟨by omega, by simp; omega, by rw [e3]; simpa using h3, fun r hr => ?_⟩
        have := h4 r hr
        rw [e2] at this
        rw [e4]
        simp only [List.take_succ_cons, List.cons_append]
        rw [endS_qq]
        simpa using this
      · rw [if_neg hc] at h
        cases h
        have e : k + 1 - k = 1 := by omega
        refine ⟨by omega, by simp, by simp [e], fun r hr => ?_⟩
        simp [e, endS_q r k hr]
    · rw [if_neg hb] at h
      obtain ⟨h1, h2, h3, h4⟩ := endS_some (c :: t) (k + 1) n h
      obtain ⟨m, rfl⟩ : ∃ m, n = k + 1 + m + 1 := ⟨n - k - 2, by omega⟩
      have e1 : k + 1 + m + 1 - (k + 1) - 1 = m := by omega
      have e2 : k + 1 + m + 1 - (k + 1) = m + 1 := by omega
      have e3 : k + 1 + m + 1 - k - 1 = m + 1 := by omega
      have e4 : k + 1 + m + 1 - k = m + 2 := by omega
      rw [e1] at h3
      refine ⟨by omega, by simp at h2 ⊢; omega, by rw [e3]; simpa using h3, fun r hr => ?_⟩
      have := h4 r hr
      rw [e2] at this
      rw [e4]
      simp only [List.take_succ_cons, List.cons_append]
      rw [endS_other b _ _ hb]
      simpa using this

/-- WHAT End TELLS: its bounds, its two quotes, and that it ends there, whatever stands behind it -/
theorem endOf_some (l : List UInt8) (n : Nat) (h : endOf l = some n) :
    2 ≤ n ∧ n ≤ l.length ∧ (∃ q : UInt8, (q = 34 ∨ q = 39) ∧ l.head? = some q ∧ l[n - 1]? = some q) ∧ endOf (l.take n) = some n := by
  cases l with
  | nil => simp [endOf] at h
  | cons q t =>
    simp only [endOf] at h
    by_cases h1 : q = 34
    · rw [if_pos h1] at h
      subst h1
      obtain ⟨a, b, c, d⟩ := endD_some t 1 n h
      obtain ⟨m, rfl⟩ : ∃ m, n = m + 2 := ⟨n - 2, by omega⟩
      have e1 : m + 2 - 1 - 1 = m := by omega
      have e2 : m + 2 - 1 = m + 1 := by omega
      rw [e1] at c
      refine ⟨by omega, by simp; omega, ⟨34, Or.inl rfl, rfl, by rw [e2]; simpa using c⟩, ?_⟩
      have := d []
      rw [e2] at this
      simp only [List.take_succ_cons, endOf, if_true]
      simpa using this
    · rw [if_neg h1] at h
      by_cases h2 : q = 39
      · rw [if_pos h2] at h
        subst h2
        obtain ⟨a, b, c, d⟩ := endS_some t 1 n h
        obtain ⟨m, rfl⟩ : ∃ m, n = m + 2 := ⟨n - 2, by omega⟩
        have e1 : m + 2 - 1 - 1 = m := by omega
        have e2 : m + 2 - 1 = m + 1 := by omega
        rw [e1] at c
        refine ⟨by omega, by simp; omega, ⟨39, Or.inr rfl, rfl, by rw [e2]; simpa using c⟩, ?_⟩
        have := d [] (by simp)
        rw [e2] at this
        simp only [List.take_succ_cons, endOf, if_neg h1, if_true]
        simpa using this
      · rw [if_neg h2] at h; cases h
end Sc
end Go.Proofs.YtjcfmghijfnehaaGreatDoor
namespace Go.Proofs.YtjcfmghijfnehaaGreatDoor
namespace Lx
structure Wd where
  kind : Nat
  text : List UInt8
  at_ : Nat
def lineR (r : Nat) : Bool := !decide (r = 10) && Sc.mayB r
def isLine (l : List UInt8) : Bool := Lib.validD l && (Sc.rns l).all lineR
/-- the word that begins at a place, and how many bytes it takes; or its error -/
def wordAt (l : List UInt8) (k : Nat) (d : Bool) : Except Nat (Wd × Nat) :=
  let r := l.drop k
  if isB (r.getD 0 0) 9 then .error 8 else
    let z := sizeOf r (kindOf r d)
    if z.2 = 0 then
      let t := wtext (r.take z.1) (kindOf r d)
      if t.2 = 0 then .ok (⟨kindOf r d, t.1, k⟩, z.1) else .error t.2
    else .error z.2
theorem ite_le {c : Prop} [Decidable c] {a b n : Nat} (h1 : a ≤ n) (h2 : b ≤ n) : (if c then a else b) ≤ n := by split <;> assumption
theorem kindOf_le (l : List UInt8) (d : Bool) : kindOf l d ≤ 13 := by
  unfold kindOf
  dsimp only
  iterate 12 (refine ite_le (by decide) ?_)
  exact ite_le (by decide) (by decide)
/-- a word takes a byte, and no more than there are -/
theorem sizeOf_le (l : List UInt8) (k : Nat) (h0 : 0 < l.length) (hb : k = 0 → isB (l.getD 0 0) 32 = false) (h : (sizeOf l k).2 = 0) : 1 ≤ (sizeOf l k).1 ∧ (sizeOf l k).1 ≤ l.length := by
  unfold sizeOf at h ⊢
  split
  · rename_i hk
    rw [if_pos hk] at h
    cases he : Sc.endOf l with
    | none => rw [he] at h; simp at h
    | some n =>
      obtain ⟨h1, h2, _⟩ := Sc.endOf_some l n he
      simp only
      omega
  · split
    · simp only
      exact ⟨upTo_ge _ _ _ _ h0, upTo_le _ _ _ _⟩
    · split
      · rename_i hk
        have hb := hb hk
        simp only
        have h1 := upTo_ge (endP l) l.length l.length 1 h0
        have h2 := upTo_le (endP l) l.length l.length 1
        generalize upTo (endP l) l.length l.length 1 = X at *
        have h3 : (Lib.trimRightB (l.take X) 32).length ≤ (l.take X).length := by
          unfold Lib.trimRightB
          rw [List.length_reverse]
          have := (List.dropWhile_suffix (fun x : UInt8 => x == 32) (l := (l.take X).reverse)).length_le
          rwa [List.length_reverse] at this
        rw [List.length_take] at h3
        refine ⟨?_, by omega⟩
        cases l with
        | nil => simp at h0
        | cons b t =>
          obtain ⟨Y, rfl⟩ : ∃ Y, X = Y + 1 := ⟨X - 1, by omega⟩
          have hb32 : b ≠ 32 := by
            intro e; subst e; simp [isB] at hb
          unfold Lib.trimRightB
          rw [List.take_succ_cons, List.reverse_cons, List.length_reverse, List.dropWhile_append]
          split
          · rw [List.dropWhile_cons_of_neg (by simpa using hb32)]; simp
          · simp
      · simp only; omega
end Lx
open Go.RowKit

set_option maxHeartbeats 1000000 in
set_option maxRecDepth 100000 in
theorem isLine_any (s : ByteArray) (w : World) (hs : s.size ≤ 1000000) (hE : Env w) :
    Calls Tryz.prog 46 #[.string s] w fun e w' => e = .returned (.bool (Lx.isLine s.data.toList)) ∧ Below w.heap.size w w' := by
  have cV := valid_any s w hs hE
  unfold Lx.isLine
  cases hv : Lib.validD s.data.toList
  · rw [hv] at cV
    rw [Bool.false_and]
    clear hv
    go_enter Tryz.func46, Tryz.ntmps46
    go_wp2_with (go_at_call 71; refine cV.mono ?_; rintro e w' ⟨rfl, hb⟩)
    go_ret
    exact ⟨rfl, hb⟩
  · rw [hv] at cV
    rw [Bool.true_and]
    clear hv
    obtain ⟨ANS, hANS⟩ : ∃ ANS, (Sc.rns s.data.toList).all Lx.lineR = ANS := ⟨_, rfl⟩
    rw [hANS]
    have HA : Hid ((Sc.rns s.data.toList).all Lx.lineR = ANS) := hANS
    clear hANS
    go_enter Tryz.func46, Tryz.ntmps46
    go_wp2_with (go_at_call 71; refine cV.mono ?_; rintro e w1 ⟨rfl, hb⟩)
    go_loopw [] (fun wr => ∃ pos : Nat, wr.heap[w1.heap.size]? = some (.stringIter s pos) ∧ Below w1.heap.size w1 wr ∧ Hid ((Sc.rns (s.data.toList.drop pos)).all Lx.lineR = ANS)) (fun wr => s.size - wr.iterPos w1.heap.size)
    case atStart =>
      exact ⟨0, World.iter_heap w1 s 0, (Below.refl _ w1).alloc (Nat.le_refl _) _, HA⟩
    case round =>
      obtain ⟨pos, hit, hbw, HK⟩ := hrel
      clear HA cV
      by_cases hp : pos < s.size
      · have hnx : ∀ ty, (Instr.next (.pointer (some ⟨w1.heap.size, 0, none⟩)) true ty).run Tryz.prog wr = _ := fun ty => Lib.run_next_any_at wr w1.heap.size s pos ty hit hp
        have HS : Hid (_ = _) := rns_drop s pos hp
        have hwd := dec_pos s pos
        have hit2 := Lib.iterAt_heap wr w1.heap.size s pos (pos + (Utf8.decode s pos).2) hit
        have hbw2 := Lib.below_iterAt hbw (k := w1.heap.size) (Nat.le_refl _) s (pos + (Utf8.decode s pos).2)
        have HI := Lib.hid hit2
        clear hit2
        have hfin : Below w.heap.size w (wr.iterAt w1.heap.size s (pos + (Utf8.decode s pos).2)) := hb.trans (hbw2.mono hb.size)
        by_cases h10 : (Utf8.decode s pos).1 = 10
        · have HF : Hid (ANS = false) := by
            have h := HK.out; rw [HS.out, List.all_cons] at h; unfold Lx.lineR at h; rw [h10] at h; show ANS = false; simpa using h.symm
          have b10 : (((Utf8.decode s pos).1 : Int) == 10) = true := beq_iff_eq.2 (by omega)
          clear HS HK h10
          go_wp2_with (go_at_call 80; refine (may_any _ _).mono ?_; rintro e w' ⟨rfl, rfl⟩)
          go_ret
          exact ⟨ret_bool HF.out.symm, hfin⟩
        · have b10 : (((Utf8.decode s pos).1 : Int) == 10) = false := beq_eq_false_iff_ne.2 (by omega)
          cases hm : Sc.mayB (Utf8.decode s pos).1
          · have HF : Hid (ANS = false) := by
              have h := HK.out; rw [HS.out, List.all_cons] at h; unfold Lx.lineR at h; rw [hm] at h; show ANS = false; simpa using h.symm
            clear HS HK h10
            go_wp2_with (go_at_call 80; refine (may_any _ _).mono ?_; rintro e w' ⟨rfl, rfl⟩)
            go_ret
            exact ⟨ret_bool HF.out.symm, hfin⟩
          · have HN : Hid ((Sc.rns (s.data.toList.drop (pos + (Utf8.decode s pos).2))).all Lx.lineR = ANS) := by
              have h := HK.out; rw [HS.out, List.all_cons] at h
              have e : Lx.lineR (Utf8.decode s pos).1 = true := by unfold Lx.lineR; rw [hm]; simp [h10]
              rw [e, Bool.true_and] at h; exact h
            clear HS HK h10
            go_wp2_with (go_at_call 80; refine (may_any _ _).mono ?_; rintro e w' ⟨rfl, rfl⟩)
            go_roundw
            case rel => exact ⟨_, HI.out, hbw2, HN⟩
            case measure =>
              simp only [World.iterPos, HI.out, hit]
              omega
      · have hnx : ∀ ty, (Instr.next (.pointer (some ⟨w1.heap.size, 0, none⟩)) true ty).run Tryz.prog wr = _ := fun ty => Lib.run_next_end_at wr w1.heap.size s pos ty hit hp
        go_wp2
        go_ret
        have : ANS = true := by rw [← HK.out, Sc.drop_nil s pos (by omega)]; rfl
        exact ⟨ret_bool this.symm, hb.trans (hbw.mono hb.size)⟩
end Go.Proofs.YtjcfmghijfnehaaGreatDoor
namespace Go.Proofs.YtjcfmghijfnehaaGreatDoor
open Go.RowKit

def wordV (x : Lx.Wd) : Value := .agg #[.int .i64 x.kind, .string (str x.text), .int .i64 x.at_]
def wordE : Except Nat (Lx.Wd × Nat) → Ending
  | .ok (x, n) => .returned (.tuple #[wordV x, .int .i64 n, .int .i64 0])
  | .error e => .returned (.tuple #[.agg #[.int .i64 0, .string ⟨#[]⟩, .int .i64 0], .int .i64 0, .int .i64 e])

theorem bthen {a b c : World} (h : Below a.heap.size a b) (k : Below b.heap.size b c) : Below a.heap.size a c := h.trans (k.mono h.size)
theorem bnew (w : World) (o : Obj) : Below w.heap.size w (w.alloc o) := (Below.refl _ w).alloc (Nat.le_refl _) o
theorem blk_kept {w w1 w2 : World} {c : Array Value} {t : TypeId} (h1 : Below (w.alloc (.cells c t)).heap.size (w.alloc (.cells c t)) w1) (h2 : Below w1.heap.size w1 w2) : w2.heap[w.heap.size]? = some (.cells c t (0, 0)) := by
  have e : (w.alloc (.cells c t)).heap[w.heap.size]? = some (.cells c t (0, 0)) := by show (w.heap.push _)[w.heap.size]? = _; simp
  have hlt : w.heap.size < (w.alloc (.cells c t)).heap.size := by rw [World.size_alloc]; omega
  rw [h2.block _ (Nat.lt_of_lt_of_le hlt h1.size), h1.block _ hlt, e]
theorem cell_blk {w : World} {b : Nat} {c : Array Value} {t : TypeId} {fr : Nat × Nat} (h : w.heap[b]? = some (.cells c t fr)) (i : Nat) (v : Value) (hi : c[i]? = some v) : w.cell? ⟨b, i, none⟩ = some v := by
  simp [World.cell?, h, hi]
theorem frozen_blk {w : World} {b : Nat} {c : Array Value} {t : TypeId} (h : w.heap[b]? = some (.cells c t (0, 0))) (i : Nat) : w.frozen? ⟨b, i, none⟩ = false := by
  simp [World.frozen?, h]

set_option maxHeartbeats 2000000 in
theorem wordAt_any (s : ByteArray) (k : Nat) (d : Bool) (w : World) (hs : s.size ≤ 50000) (hk : k < s.size) (hb : Lx.isB (s.data.toList.getD k 0) 32 = false) (hE : Env w) :
    Calls Tryz.prog 49 #[.string s, .int .i64 k, .bool d] w fun e w' => e = wordE (Lx.wordAt s.data.toList k d) ∧ Below w.heap.size w w' := by
  unfold Lx.wordAt
  obtain ⟨r, hr⟩ : ∃ r, s.extract k s.size = r := ⟨_, rfl⟩
  have hrd : r.data.toList = s.data.toList.drop k := by rw [← hr]; exact Lib.extract_to_end s k
  have hrs : r.size = s.size - k := by rw [Lib.size_eq, hrd, List.length_drop, ← Lib.size_eq]
  have h0 : 0 < r.size := by omega
  have hb0 : Lx.isB r[0] 32 = false := by
    rw [← Lx.getD_at r 0 h0, hrd, List.getD_eq_getElem?_getD, List.getElem?_drop, Nat.add_zero, ← List.getD_eq_getElem?_getD]; exact hb
  rw [← hrd]
  have hw0 : Env (w.alloc (.cells #[.int .i64 0, .string ⟨#[]⟩, .int .i64 0] 56)) := hE.below ((Below.refl _ w).alloc (Nat.le_refl _) _)
  simp only
  rw [Lx.getD_at r 0 h0]
  clear hrd hb
  by_cases h9 : Lx.isB r[0] 9 = true
  · rw [if_pos h9]
    have b9 : ((r[0].toNat : Int) == 9) = true := h9
    clear h9 hb0 hE hw0
    go_enter Tryz.func49, Tryz.ntmps49
    go_wp2
    refine bodyPost_ret (v := .tuple #[.agg #[.int .i64 0, .string ⟨#[]⟩, .int .i64 0], .int .i64 0, .int .i64 8]) (by simp [results, go_sem]) rfl ?_
    exact ⟨rfl, (Below.refl _ _).alloc (Nat.le_refl _) _⟩
  · rw [if_neg h9]
    have b9 : ((r[0].toNat : Int) == 9) = false := by simpa [Lx.isB] using h9
    clear h9
    have cK := fun w => kind_any r d w (by omega) h0
    have hK := Lx.kindOf_le r.data.toList d
    generalize Lx.kindOf r.data.toList d = K at *
    have cZ := fun w => size_any r K w (by omega) h0 hK
    have hZ := Lx.sizeOf_le r.data.toList K (by rw [ba_len]; exact h0) (fun _ => by rw [Lx.getD_at r 0 h0]; exact hb0)
    rw [ba_len] at hZ
    generalize Lx.sizeOf r.data.toList K = Z at *
    obtain ⟨z, e⟩ := Z
    simp only at hZ ⊢
    unfold pairI at cZ
    simp only at cZ
    have HK := Lib.hid cK
    have HZ := Lib.hid cZ
    clear cK cZ hb0
    by_cases he : e = 0
    · subst he
      rw [if_pos rfl]
      obtain ⟨hz1, hz2⟩ := hZ rfl
      obtain ⟨t, ht⟩ : ∃ t, r.extract 0 z = t := ⟨_, rfl⟩
      have htd : t.data.toList = r.data.toList.take z := by rw [← ht]; exact Tag.ext_take r z
      have hts : t.size = z := by rw [Lib.size_eq, htd, List.length_take, ← Lib.size_eq]; omega
      have cT := fun w hE => wtext_any t K w (by omega) (by omega) hK hE
      rw [htd] at cT
      generalize Lx.wtext (r.data.toList.take z) K = T at *
      obtain ⟨x, f⟩ := T
      unfold strI at cT
      simp only at cT ⊢
      have HT := Lib.hid cT
      clear cT htd hZ
      have HE := Lib.hid hw0
      clear hE hw0
      by_cases hf : f = 0
      · subst hf
        rw [if_pos rfl]
        go_enter Tryz.func49, Tryz.ntmps49
        go_wp2_with (first
          | (go_at_call 82; refine (HK.out _).mono ?_; rintro e w' ⟨rfl, rfl⟩)
          | (go_at_call 83; refine (HZ.out _).mono ?_; rintro e w1 ⟨rfl, hb1⟩)
          | (go_at_call 84; refine (HT.out _ (HE.out.below hb1)).mono ?_; rintro e w2 ⟨rfl, hb2⟩; have hk2 := blk_kept hb1 hb2; have f0 := frozen_blk hk2 0; have f1 := frozen_blk hk2 1; have f2 := frozen_blk hk2 2; have c0 := cell_blk hk2 0 (.int .i64 0) rfl; have c1 := cell_blk hk2 1 (.string ⟨#[]⟩) rfl; have c2 := cell_blk hk2 2 (.int .i64 0) rfl; clear hk2))
        refine bodyPost_ret (v := .tuple #[wordV ⟨K, x, k⟩, .int .i64 z, .int .i64 0]) (by simp [results, wordV, go_sem, c0, c1, c2]) rfl ?_
        exact ⟨rfl, (((bthen (bthen (bnew w _) hb1) hb2).setCell (p := ⟨w.heap.size, 0, none⟩) (Nat.le_refl _) _).setCell (p := ⟨w.heap.size, 1, none⟩) (Nat.le_refl _) _).setCell (p := ⟨w.heap.size, 2, none⟩) (Nat.le_refl _) _⟩
      · rw [if_neg hf]
        have bf : ((f : Int) != 0) = true := bne_iff_ne.2 (by omega)
        go_enter Tryz.func49, Tryz.ntmps49
        go_wp2_with (first
          | (go_at_call 82; refine (HK.out _).mono ?_; rintro e w' ⟨rfl, rfl⟩)
          | (go_at_call 83; refine (HZ.out _).mono ?_; rintro e w1 ⟨rfl, hb1⟩)
          | (go_at_call 84; refine (HT.out _ (HE.out.below hb1)).mono ?_; rintro e w2 ⟨rfl, hb2⟩; have hk2 := blk_kept hb1 hb2; have f0 := frozen_blk hk2 0; have f1 := frozen_blk hk2 1; have f2 := frozen_blk hk2 2; have c0 := cell_blk hk2 0 (.int .i64 0) rfl; have c1 := cell_blk hk2 1 (.string ⟨#[]⟩) rfl; have c2 := cell_blk hk2 2 (.int .i64 0) rfl; clear hk2))
        refine bodyPost_ret (v := .tuple #[.agg #[.int .i64 0, .string ⟨#[]⟩, .int .i64 0], .int .i64 0, .int .i64 f]) (by simp [results, go_sem, c0, c1, c2]) rfl ?_
        exact ⟨rfl, (((bthen (bthen (bnew w _) hb1) hb2).setCell (p := ⟨w.heap.size, 0, none⟩) (Nat.le_refl _) _).setCell (p := ⟨w.heap.size, 1, none⟩) (Nat.le_refl _) _).setCell (p := ⟨w.heap.size, 2, none⟩) (Nat.le_refl _) _⟩
    · rw [if_neg he]
      have be : ((e : Int) != 0) = true := bne_iff_ne.2 (by omega)
      go_enter Tryz.func49, Tryz.ntmps49
      go_wp2_with (first
        | (go_at_call 82; refine (HK.out _).mono ?_; rintro e w' ⟨rfl, rfl⟩)
        | (go_at_call 83; refine (HZ.out _).mono ?_; rintro e w1 ⟨rfl, hb1⟩; have hk2 := blk_kept hb1 (Below.refl _ _); have f0 := frozen_blk hk2 0; have f1 := frozen_blk hk2 1; have f2 := frozen_blk hk2 2; have c0 := cell_blk hk2 0 (.int .i64 0) rfl; have c1 := cell_blk hk2 1 (.string ⟨#[]⟩) rfl; have c2 := cell_blk hk2 2 (.int .i64 0) rfl; clear hk2))
      refine bodyPost_ret (v := .tuple #[.agg #[.int .i64 0, .string ⟨#[]⟩, .int .i64 0], .int .i64 0, .int .i64 e]) (by simp [results, go_sem, c0, c1, c2]) rfl ?_
      exact ⟨rfl, (((bthen (bnew w _) hb1).setCell (p := ⟨w.heap.size, 0, none⟩) (Nat.le_refl _) _).setCell (p := ⟨w.heap.size, 1, none⟩) (Nat.le_refl _) _).setCell (p := ⟨w.heap.size, 2, none⟩) (Nat.le_refl _) _⟩
end Go.Proofs.YtjcfmghijfnehaaGreatDoor
namespace Go.Proofs.YtjcfmghijfnehaaGreatDoor
namespace Lx
/-- the words from a place on, with fuel -/
def wordsGo (l : List UInt8) : Nat → Nat → Bool → Except Nat (List Wd)
  | 0, _, _ => .ok []
  | n + 1, k, d => if over l k then .ok [] else
    match wordAt l k d with
    | .error e => .error e
    | .ok (x, z) => match wordsGo l n (past l (k + z)) (d && decide (x.kind = 12)) with
      | .error e => .error e
      | .ok xs => .ok (x :: xs)
/-- THE WORDS of a line, or their error -/
def words (l : List UInt8) : Except Nat (List Wd) := if isLine l then wordsGo l (l.length + 1) (past l 0) true else .error 5
/-- what was told, and what is to come -/
def joinW (acc : List Wd) : Except Nat (List Wd) → Except Nat (List Wd)
  | .ok xs => .ok (acc ++ xs)
  | .error e => .error e
theorem joinW_step (acc : List Wd) (x : Wd) (r : Except Nat (List Wd)) : joinW acc (match r with
      | .error e => .error e
      | .ok xs => .ok (x :: xs)) = joinW (acc ++ [x]) r := by
  cases r <;> simp [joinW]
theorem wordAt_err (l : List UInt8) (k : Nat) (d : Bool) (e : Nat) (h : wordAt l k d = .error e) : e ≠ 0 := by
  unfold wordAt at h
  simp only at h
  repeat' split at h
  all_goals first
    | (cases h; done)
    | (cases h; assumption)
    | (cases h; decide)
theorem wordAt_size (l : List UInt8) (k : Nat) (d : Bool) (x : Wd) (z : Nat) (hk : k < l.length) (hb : isB (l.getD k 0) 32 = false) (h : wordAt l k d = .ok (x, z)) : 1 ≤ z ∧ k + z ≤ l.length ∧ x.kind = kindOf (l.drop k) d ∧ x.at_ = k := by
  unfold wordAt at h
  simp only at h
  split at h
  · cases h
  · split at h
    · rename_i hz
      have hl : 0 < (l.drop k).length := by rw [List.length_drop]; omega
      have h1 := sizeOf_le (l.drop k) (kindOf (l.drop k) d) hl (fun _ => by rw [List.getD_eq_getElem?_getD, List.getElem?_drop, Nat.add_zero, ← List.getD_eq_getElem?_getD]; exact hb) hz
      rw [List.length_drop] at h1
      split at h
      · cases h
        exact ⟨h1.1, by omega, rfl, rfl⟩
      · cases h
    · cases h
theorem wordsGo_err (l : List UInt8) : ∀ n k d e, wordsGo l n k d = .error e → e ≠ 0
  | 0, _, _, _, h => by cases h
  | n + 1, k, d, e, h => by
    unfold wordsGo at h
    split at h
    · cases h
    · split at h
      · rename_i he; cases h; exact wordAt_err _ _ _ _ he
      · split at h
        · rename_i he; cases h; exact wordsGo_err l n _ _ _ he
        · cases h
theorem words_err (l : List UInt8) (e : Nat) (h : words l = .error e) : e ≠ 0 := by
  unfold words at h
  split at h
  · exact wordsGo_err _ _ _ _ _ h
  · cases h; decide
end Lx
open Go.RowKit

def wordCells (ws : List Lx.Wd) : List Value := ws.flatMap fun x => [.int .i64 x.kind, .string (str x.text), .int .i64 x.at_]
theorem wordCells_len (ws : List Lx.Wd) : (wordCells ws).length = ws.length * 3 := by
  induction ws with
  | nil => rfl
  | cons x t ih =>
    have : wordCells (x :: t) = [.int .i64 x.kind, .string (str x.text), .int .i64 x.at_] ++ wordCells t := rfl
    rw [this, List.length_append, ih]; simp; omega
theorem wordCells_snoc (ws : List Lx.Wd) (x : Lx.Wd) : wordCells (ws ++ [x]) = wordCells ws ++ [.int .i64 x.kind, .string (str x.text), .int .i64 x.at_] := by
  unfold wordCells; rw [List.flatMap_append]; simp
/-- words that the call owns -/
def OwnW (w : World) (B : Nat) (v : Value) (ws : List Lx.Wd) : Prop := w.ownsRow B 56 3 v ws.length (wordCells ws)
theorem row_below {w w' : World} {B e z n : Nat} {v : Value} {xs : List Value} (h : w.ownsRow B e z v n xs) (hb : Below w.heap.size w w') : w'.ownsRow B e z v n xs := by
  obtain ⟨h1, h2⟩ := h
  refine ⟨h1, ?_⟩
  rcases h2 with h2 | ⟨g, cap, cur, hv, hB, hh, hr⟩
  · exact .inl h2
  · exact .inr ⟨g, cap, cur, hv, hB, (hb.block g (Array.getElem?_eq_some_iff.1 hh).1).trans hh, hr⟩
theorem infoW : (Tryz.prog.info? 56).map (fun i => (i.zero, i.size, i.bytes)) = some (some (.agg #[.int .i64 0, .string ⟨#[]⟩, .int .i64 0]), 3, 32) := by kernel_rfl

/-- 'append' of one word that was just laid, onto words that the call owns -/
theorem wpList_pushW {ops : Array Oper} {rest : List Oper} {o : Oper} {a : Act} {Q : Exit → Act → World → Prop} (hgd : o.guard = none) (s x : Operand)
    (ho : o.op = .call { callee := .builtin .append, args := #[s, x], argTypes := #[49, 49] }) (B : Nat) (v : Value) (ws : List Lx.Wd) (y : Lx.Wd) (w0 : World) (C : Array Value) (c : Nat)
    (hs : a.eval s = v) (ga : Nat) (hx : a.eval x = .slice (some ⟨ga, 0, none⟩) 1 c) (hga : ga = w0.heap.size) (hC : C = #[.int .i64 y.kind, .string (str y.text), .int .i64 y.at_]) (hown : OwnW w0 B v ws) (hl : ws.length ≤ 2000000) (hB : B ≤ w0.heap.size)
    (h : ∀ v' w', OwnW w' B v' (ws ++ [y]) → Below B w0 w' → B ≤ w'.heap.size → (∀ k, k < w0.heap.size → v.ownBlock ≠ some k → w'.heap[k]? = w0.heap[k]?) → wpList Tryz.prog ops Q rest (a.put o.dst v') w') :
    wpList Tryz.prog ops Q (o :: rest) a (w0.alloc (.cells C 56)) := by
  subst hC hga
  obtain ⟨i0, hi, hz0, hz1, hz2⟩ := info_parts infoW
  refine wpList_append_own _ hgd s x 49 ho B 56 i0 _ 3 32 Tryz.underlying49 hi hz0 hz1 hz2 rfl (by decide) v ws.length (wordCells ws) hs (World.ownsRow.alloc hown _) ⟨w0.heap.size, 0, none⟩ 1 c [.int .i64 y.kind, .string (str y.text), .int .i64 y.at_] hx rfl
    (fun j u hu => cells_of_new w0 56 [.int .i64 y.kind, .string (str y.text), .int .i64 y.at_] j u hu) (fun u hu => by simp only [List.mem_cons, List.not_mem_nil, or_false] at hu; rcases hu with rfl | rfl | rfl <;> rfl) (by simp only [maxLen]; omega) (by omega) (by rw [World.size_alloc]; omega) ?_
  intro v' w' ho' hg _
  have hk : Below B w0 w' := ((Below.refl B w0).alloc hB _).grown hg (by rw [World.size_alloc]; omega) (fun k hk => (World.ownsRow.lt hown k hk).1)
  refine h v' w' ?_ hk (Nat.le_trans hB hk.size) (fun k hk hne => ?_)
  · unfold OwnW
    rw [List.length_append, wordCells_snoc]
    exact ho'
  · rw [hg.block k (by rw [World.size_alloc]; omega) hne.symm]
    show (w0.heap.push _)[k]? = _
    rw [Array.getElem?_push, if_neg (by omega)]
end Go.Proofs.YtjcfmghijfnehaaGreatDoor
