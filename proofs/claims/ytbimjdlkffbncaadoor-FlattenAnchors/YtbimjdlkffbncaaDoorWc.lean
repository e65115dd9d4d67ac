/-
  Walks of scalar.oneLine, Single, Unsingle.
-/
import Derived.Test.YtbimjdlkffbncaaDoorEn
namespace Go.Proofs.YtbimjdlkffbncaaDoor
open Go.RowKit

/-- may a character stand in a text of one line? -/
def lineR (r : Nat) : Bool := Sc.mayB r && !decide (r = 10) && !decide (r = 13)
def lineB (rs : List Nat) : Bool := rs.all lineR
def oneLineB (l : List UInt8) : Bool := Lib.validD l && lineB (Sc.rns l)

theorem rns_drop (s : ByteArray) (pos : Nat) (h : pos < s.size) : Sc.rns (s.data.toList.drop pos) = (Utf8.decode s pos).1 :: Sc.rns (s.data.toList.drop (pos + (Utf8.decode s pos).2)) := by
  have hne : s.data.toList.drop pos ≠ [] := by
    intro e
    have := congrArg List.length e
    rw [List.length_drop, ← Lib.size_eq] at this
    simp at this; omega
  rw [Sc.rns_step _ hne, Lib.decodeL_drop, List.drop_drop]
theorem dec_pos (s : ByteArray) (pos : Nat) : 1 ≤ (Utf8.decode s pos).2 := by
  rw [← Lib.decodeL_drop]; exact Lib.decodeL_width _

set_option maxHeartbeats 1000000 in
set_option maxRecDepth 100000 in
theorem oneLine_any (s : ByteArray) (w : World) (hs : s.size ≤ 1000000) (hE : Env w) :
    Calls Tryd.prog 118 #[.string s] w fun e w' => e = .returned (.bool (oneLineB s.data.toList)) ∧ Below w.heap.size w w' := by
  have cV := valid_any s w hs hE
  unfold oneLineB
  cases hv : Lib.validD s.data.toList
  · rw [hv] at cV
    rw [Bool.false_and]
    clear hv
    go_enter Tryd.func118, Tryd.ntmps118
    go_wp2_with (go_at_call 86; refine cV.mono ?_; rintro e w' ⟨rfl, hb⟩)
    go_ret
    exact ⟨rfl, hb⟩
  · rw [hv] at cV
    rw [Bool.true_and]
    clear hv
    obtain ⟨ANS, hANS⟩ : ∃ ANS, lineB (Sc.rns s.data.toList) = ANS := ⟨_, rfl⟩
    rw [hANS]
    have HA : Hid (lineB (Sc.rns s.data.toList) = ANS) := hANS
    clear hANS
    go_enter Tryd.func118, Tryd.ntmps118
    go_wp2_with (go_at_call 86; refine cV.mono ?_; rintro e w1 ⟨rfl, hb⟩)
    go_loopw [] (fun wr => ∃ pos : Nat, wr.heap[w1.heap.size]? = some (.stringIter s pos) ∧ Below w1.heap.size w1 wr ∧ Hid (lineB (Sc.rns (s.data.toList.drop pos)) = ANS)) (fun wr => s.size - wr.iterPos w1.heap.size)
    case atStart =>
      exact ⟨0, World.iter_heap w1 s 0, (Below.refl _ w1).alloc (Nat.le_refl _) _, HA⟩
    case round =>
      obtain ⟨pos, hit, hbw, HK⟩ := hrel
      clear HA cV
      by_cases hp : pos < s.size
      · have hnx : ∀ ty, (Instr.next (.pointer (some ⟨w1.heap.size, 0, none⟩)) true ty).run Tryd.prog wr = _ := fun ty => Lib.run_next_any_at wr w1.heap.size s pos ty hit hp
        have HS : Hid (_ = _) := rns_drop s pos hp
        have hwd := dec_pos s pos
        have hit2 := Lib.iterAt_heap wr w1.heap.size s pos (pos + (Utf8.decode s pos).2) hit
        have hbw2 := Lib.below_iterAt hbw (k := w1.heap.size) (Nat.le_refl _) s (pos + (Utf8.decode s pos).2)
        have HI := Lib.hid hit2
        clear hit2
        by_cases hl : lineR (Utf8.decode s pos).1 = true
        · have HN : Hid (lineB (Sc.rns (s.data.toList.drop (pos + (Utf8.decode s pos).2))) = ANS) := by
            have h := HK.out; rw [HS.out] at h; unfold lineB at h; rw [List.all_cons, hl, Bool.true_and] at h; exact h
          have hm : Sc.mayB (Utf8.decode s pos).1 = true := by
            unfold lineR at hl; simp only [Bool.and_eq_true] at hl; exact hl.1.1
          have h10 : (((Utf8.decode s pos).1 : Int) == 10) = false := by
            unfold lineR at hl; simp only [Bool.and_eq_true] at hl; have := hl.1.2; simp at this; exact beq_eq_false_iff_ne.2 (by omega)
          have h13 : (((Utf8.decode s pos).1 : Int) == 13) = false := by
            unfold lineR at hl; simp only [Bool.and_eq_true] at hl; have := hl.2; simp at this; exact beq_eq_false_iff_ne.2 (by omega)
          clear hl HS HK
          go_wp2_with (go_at_call 130; refine (may_any _ _).mono ?_; rintro e w' ⟨rfl, rfl⟩)
          go_roundw
          case rel => exact ⟨_, HI.out, hbw2, HN⟩
          case measure =>
            simp only [World.iterPos, HI.out, hit]
            omega
        · have HF : Hid (ANS = false) := by
            have h := HK.out; rw [HS.out] at h; unfold lineB at h; rw [List.all_cons, Bool.eq_false_iff.2 hl, Bool.false_and] at h; exact h.symm
          have hfin : Below w.heap.size w (wr.iterAt w1.heap.size s (pos + (Utf8.decode s pos).2)) := hb.trans (hbw2.mono hb.size)
          by_cases hm : Sc.mayB (Utf8.decode s pos).1 = true
          · have hr : (((Utf8.decode s pos).1 : Int) == 10) = true ∨ ((((Utf8.decode s pos).1 : Int) == 10) = false ∧ (((Utf8.decode s pos).1 : Int) == 13) = true) := by
              unfold lineR at hl; simp only [hm, Bool.true_and] at hl
              by_cases h10 : (Utf8.decode s pos).1 = 10
              · left; exact beq_iff_eq.2 (by omega)
              · right
                refine ⟨beq_eq_false_iff_ne.2 (by omega), beq_iff_eq.2 ?_⟩
                simp [h10] at hl; omega
            clear hl HS HK
            rcases hr with h10 | ⟨h10, h13⟩
            all_goals
              go_wp2_with (go_at_call 130; refine (may_any _ _).mono ?_; rintro e w' ⟨rfl, rfl⟩)
              go_ret
              exact ⟨ret_bool HF.out.symm, hfin⟩
          · clear hl HS HK
            have hm' : Sc.mayB (Utf8.decode s pos).1 = false := Bool.eq_false_iff.2 hm
            clear hm
            go_wp2_with (go_at_call 130; refine (may_any _ _).mono ?_; rintro e w' ⟨rfl, rfl⟩)
            go_ret
            exact ⟨ret_bool HF.out.symm, hfin⟩
      · have hnx : ∀ ty, (Instr.next (.pointer (some ⟨w1.heap.size, 0, none⟩)) true ty).run Tryd.prog wr = _ := fun ty => Lib.run_next_end_at wr w1.heap.size s pos ty hit hp
        go_wp2
        go_ret
        have : ANS = true := by rw [← HK.out, Sc.drop_nil s pos (by omega)]; rfl
        exact ⟨ret_bool this.symm, hb.trans (hbw.mono hb.size)⟩
end Go.Proofs.YtbimjdlkffbncaaDoor
