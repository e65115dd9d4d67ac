/-
  Walks of strings.IndexRune and IndexAny at the bytes that a text without quotes has nowhere.
-/
import Derived.Test.YtbimjdlkffbncaaDoorWi
import Derived.WalkMore
namespace Go.Proofs.YtbimjdlkffbncaaDoor
open Go.RowKit

def nowS : ByteArray := ⟨#[9, 44, 91, 93, 123, 125]⟩

theorem encode_shape (r : Nat) (h0 : 128 ≤ r) : (∃ a b : UInt8, Utf8.encode (r : Int) = ⟨#[a, b]⟩ ∧ 128 ≤ b.toNat) ∨ (∃ a b c : UInt8, Utf8.encode (r : Int) = ⟨#[a, b, c]⟩ ∧ 128 ≤ c.toNat) ∨ (∃ a b c d : UInt8, Utf8.encode (r : Int) = ⟨#[a, b, c, d]⟩ ∧ 128 ≤ d.toNat) := by
  have last : ∀ n : Nat, 128 ≤ (UInt8.ofNat (128 + n % 64)).toNat := fun n => by rw [Sc.toNat_of _ (by omega)]; omega
  simp only [Utf8.encode]
  by_cases hv : Utf8.valid (r : Int) = true
  · rw [if_pos hv]
    simp only [Int.toNat_natCast]
    rw [if_neg (by omega)]
    split
    · exact Or.inl ⟨_, _, rfl, last _⟩
    · split
      · exact Or.inr (Or.inl ⟨_, _, _, rfl, last _⟩)
      · exact Or.inr (Or.inr ⟨_, _, _, _, rfl, last _⟩)
  · rw [if_neg hv]
    exact Or.inr (Or.inl ⟨_, _, _, rfl, by decide⟩)

theorem idxByte_no (s : ByteArray) (b : UInt8) (w : World) (h : Hid (Lib.indexByte s.data.toList b = -1)) :
    Calls Tryd.prog 120 #[.string s, .int .u8 b.toNat] w fun e w' => e = .returned (.int .i64 (-1)) ∧ w = w' := by
  refine (Tryd.strings_IndexByte s b.toNat w).mono ?_
  rintro e w' ⟨rfl, rfl⟩
  refine ⟨ret_int ?_, rfl⟩
  have : (b.toNat : Int).toNat.toUInt8 = b := by simp
  rw [this]; exact h.out
theorem idxByte_high (l : List UInt8) (b : UInt8) (h : ∀ x ∈ l, x.toNat < 128) (hb : 128 ≤ b.toNat) : Lib.indexByte l b = -1 := by
  induction l with
  | nil => rfl
  | cons x t ih =>
    have hx := h x (by simp)
    have hne : (x == b) = false := by
      rw [beq_eq_false_iff_ne]; intro e; rw [e] at hx; omega
    simp [Lib.indexByte, hne, ih fun y hy => h y (by simp [hy])]

theorem quiet_add_left {P : Program} {f : FuncId} {args : Array Value} {w : World} {a n : Nat} {v : Value}
    (h : Calls P f args (w.drewN (a + n)) fun e w' => e = .returned v ∧ w.drewN (a + n) = w') :
    Calls P f args (w.drewN (a + n)) fun e w'' => e = .returned v ∧ ∃ m, w'' = w.drewN (a + m) :=
  h.mono fun _ _ ⟨he, hm⟩ => ⟨he, n, hm.symm⟩

set_option maxHeartbeats 2000000 in
set_option maxRecDepth 1000000 in
theorem idxRune_high2 (r : Nat) (a b : UInt8) (w : World) (hRR : Utf8.encode (r : Int) = ⟨#[a, b]⟩) (hl : 128 ≤ b.toNat) (hb0 : (0 : Int) ≤ (r : Int)) (hvr : Lib.validRune (r : Int) = true) (hb1 : decide ((r : Int) < 128) = false) (hb2 : ((r : Int) == 65533) = false) :
    Calls Tryd.prog 142 #[.string ⟨#[9, 44, 91, 93, 123, 125]⟩, .int .i32 r] w fun e w' => e = .returned (.int .i64 (-1)) ∧ Below w.heap.size w w' := by
  have hne : ((((⟨#[9, 44, 91, 93, 123, 125]⟩ : ByteArray)[1]'(by decide)).toNat : Int) != (((⟨#[a, b]⟩ : ByteArray)[1]'(by show 1 < 2; decide)).toNat : Int)) = true := by
    show ((44 : Int) != (b.toNat : Int)) = true
    exact bne_iff_ne.2 (by omega)
  have hI := Lib.hid (idxByte_high [91, 93, 123, 125] b (by decide) hl)
  have hb256 := b.toNat_lt
  have CI := Lib.hid (fun w2 => idxByte_no ((⟨#[9, 44, 91, 93, 123, 125]⟩ : ByteArray).extract 2 6) b w2 hI)
  clear hl hI
  go_enter Tryd.func142, Tryd.ntmps142
  go_wp2_with (go_at_call 159; refine (Tryd.utf8_ValidRune _ _).mono ?_; rintro e w' ⟨rfl, rfl⟩)
  go_step3
  go_wp2
  refine wp_loop_rounds 1 ?_
  rw [rounds_succ]
  go_wp2
  go_step3
  go_wp2
  go_quiet (fail)
  go_wp2
  go_quiet ((go_at_call 120; exact quiet_add_left (CI.out _)))
  go_wp2
  rw [Exit.noGoto_ret]
  go_wp2
  rw [Exit.noGoto_ret]
  go_wp2
  go_ret
  exact ⟨rfl, bel_drewN (Below.refl _ _) _⟩
set_option maxHeartbeats 2000000 in
set_option maxRecDepth 1000000 in
theorem idxRune_high3 (r : Nat) (a b c : UInt8) (w : World) (hRR : Utf8.encode (r : Int) = ⟨#[a, b, c]⟩) (hl : 128 ≤ c.toNat) (hb0 : (0 : Int) ≤ (r : Int)) (hvr : Lib.validRune (r : Int) = true) (hb1 : decide ((r : Int) < 128) = false) (hb2 : ((r : Int) == 65533) = false) :
    Calls Tryd.prog 142 #[.string ⟨#[9, 44, 91, 93, 123, 125]⟩, .int .i32 r] w fun e w' => e = .returned (.int .i64 (-1)) ∧ Below w.heap.size w w' := by
  have hne : ((((⟨#[9, 44, 91, 93, 123, 125]⟩ : ByteArray)[2]'(by decide)).toNat : Int) != (((⟨#[a, b, c]⟩ : ByteArray)[2]'(by show 2 < 3; decide)).toNat : Int)) = true := by
    show ((91 : Int) != (c.toNat : Int)) = true
    exact bne_iff_ne.2 (by omega)
  have hI := Lib.hid (idxByte_high [93, 123, 125] c (by decide) hl)
  have hb256 := c.toNat_lt
  have CI := Lib.hid (fun w2 => idxByte_no ((⟨#[9, 44, 91, 93, 123, 125]⟩ : ByteArray).extract 3 6) c w2 hI)
  clear hl hI
  go_enter Tryd.func142, Tryd.ntmps142
  go_wp2_with (go_at_call 159; refine (Tryd.utf8_ValidRune _ _).mono ?_; rintro e w' ⟨rfl, rfl⟩)
  go_step3
  go_wp2
  refine wp_loop_rounds 1 ?_
  rw [rounds_succ]
  go_wp2
  go_step3
  go_wp2
  go_quiet (fail)
  go_wp2
  go_quiet ((go_at_call 120; exact quiet_add_left (CI.out _)))
  go_wp2
  rw [Exit.noGoto_ret]
  go_wp2
  rw [Exit.noGoto_ret]
  go_wp2
  go_ret
  exact ⟨rfl, bel_drewN (Below.refl _ _) _⟩
set_option maxHeartbeats 2000000 in
set_option maxRecDepth 1000000 in
theorem idxRune_high4 (r : Nat) (a b c d : UInt8) (w : World) (hRR : Utf8.encode (r : Int) = ⟨#[a, b, c, d]⟩) (hl : 128 ≤ d.toNat) (hb0 : (0 : Int) ≤ (r : Int)) (hvr : Lib.validRune (r : Int) = true) (hb1 : decide ((r : Int) < 128) = false) (hb2 : ((r : Int) == 65533) = false) :
    Calls Tryd.prog 142 #[.string ⟨#[9, 44, 91, 93, 123, 125]⟩, .int .i32 r] w fun e w' => e = .returned (.int .i64 (-1)) ∧ Below w.heap.size w w' := by
  have hne : ((((⟨#[9, 44, 91, 93, 123, 125]⟩ : ByteArray)[3]'(by decide)).toNat : Int) != (((⟨#[a, b, c, d]⟩ : ByteArray)[3]'(by show 3 < 4; decide)).toNat : Int)) = true := by
    show ((93 : Int) != (d.toNat : Int)) = true
    exact bne_iff_ne.2 (by omega)
  have hI := Lib.hid (idxByte_high [123, 125] d (by decide) hl)
  have hb256 := d.toNat_lt
  have CI := Lib.hid (fun w2 => idxByte_no ((⟨#[9, 44, 91, 93, 123, 125]⟩ : ByteArray).extract 4 6) d w2 hI)
  clear hl hI
  go_enter Tryd.func142, Tryd.ntmps142
  go_wp2_with (go_at_call 159; refine (Tryd.utf8_ValidRune _ _).mono ?_; rintro e w' ⟨rfl, rfl⟩)
  go_step3
  go_wp2
  refine wp_loop_rounds 1 ?_
  rw [rounds_succ]
  go_wp2
  go_step3
  go_wp2
  go_quiet (fail)
  go_wp2
  go_quiet ((go_at_call 120; exact quiet_add_left (CI.out _)))
  go_wp2
  rw [Exit.noGoto_ret]
  go_wp2
  rw [Exit.noGoto_ret]
  go_wp2
  go_ret
  exact ⟨rfl, bel_drewN (Below.refl _ _) _⟩

set_option maxHeartbeats 2000000 in
set_option maxRecDepth 1000000 in
theorem idxRune_err (w : World) :
    Calls Tryd.prog 142 #[.string ⟨#[9, 44, 91, 93, 123, 125]⟩, .int .i32 65533] w fun e w' => e = .returned (.int .i64 (-1)) ∧ Below w.heap.size w w' := by
  obtain ⟨S, hS⟩ : ∃ S : ByteArray, S = ⟨#[9, 44, 91, 93, 123, 125]⟩ := ⟨_, rfl⟩
  have hasc : ∀ (j : Nat) (h : j < S.size), (S[j]'h).toNat < 128 := by
    subst hS
    intro j h
    have : ∀ k : Fin 6, ((⟨#[9, 44, 91, 93, 123, 125]⟩ : ByteArray)[k.val]'(by have := k.isLt; exact this)).toNat < 128 := by decide
    exact this ⟨j, h⟩
  rw [← hS]
  clear hS
  have HAsc := Lib.hid hasc
  clear hasc
  go_enter Tryd.func142, Tryd.ntmps142
  go_wp2
  go_loopw [] (fun wr => ∃ pos : Nat, wr.heap[w.heap.size]? = some (.stringIter S pos) ∧ Below w.heap.size w wr) (fun wr => S.size - wr.iterPos w.heap.size)
  case atStart => exact ⟨0, World.iter_heap w S 0, (Below.refl _ w).alloc (Nat.le_refl _) _⟩
  case round =>
    obtain ⟨pos, hit, hbw⟩ := hrel
    by_cases hp : pos < S.size
    · have ha := HAsc.out pos hp
      have hnx : ∀ ty, (Instr.next (.pointer (some ⟨w.heap.size, 0, none⟩)) true ty).run Tryd.prog wr = _ := fun ty => Lib.run_next_ascii_at wr w.heap.size S pos ty hit hp ha
      have hit2 := Lib.hid (Lib.iterAt_heap wr w.heap.size S pos (pos + 1) hit)
      have hbw2 := Lib.below_iterAt hbw (k := w.heap.size) (Nat.le_refl _) S (pos + 1)
      have hb : ((S[pos].toNat : Int) == 65533) = false := beq_eq_false_iff_ne.2 (by omega)
      go_wp2
      go_roundw
      case rel => exact ⟨pos + 1, hit2.out, hbw2⟩
      case measure => simp only [World.iterPos, hit2.out, hit]; omega
    · have hnx : ∀ ty, (Instr.next (.pointer (some ⟨w.heap.size, 0, none⟩)) true ty).run Tryd.prog wr = _ := fun ty => Lib.run_next_end_at wr w.heap.size S pos ty hit hp
      go_wp2
      go_ret
      exact ⟨rfl, hbw⟩

/-- a character that is no ASCII is none of these -/
theorem idxRune_high (r : Nat) (w : World) (h0 : 128 ≤ r) (hc : Sc.isCh r) :
    Calls Tryd.prog 142 #[.string ⟨#[9, 44, 91, 93, 123, 125]⟩, .int .i32 r] w fun e w' => e = .returned (.int .i64 (-1)) ∧ Below w.heap.size w w' := by
  by_cases he : r = 65533
  · subst he; exact idxRune_err w
  · have hvr : Lib.validRune (r : Int) = true := by unfold Lib.validRune; unfold Sc.isCh at hc; simp; omega
    have hb1 : decide ((r : Int) < 128) = false := decide_eq_false (by omega)
    have hb2 : ((r : Int) == 65533) = false := beq_eq_false_iff_ne.2 (by omega)
    rcases encode_shape r h0 with ⟨a, b, e, hl⟩ | ⟨a, b, c, e, hl⟩ | ⟨a, b, c, d, e, hl⟩
    · exact idxRune_high2 r a b w e hl (by omega) hvr hb1 hb2
    · exact idxRune_high3 r a b c w e hl (by omega) hvr hb1 hb2
    · exact idxRune_high4 r a b c d w e hl (by omega) hvr hb1 hb2
end Go.Proofs.YtbimjdlkffbncaaDoor
