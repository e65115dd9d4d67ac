/-
  Walks of lex: isLine, wordAt.
-/
import Derived.Test.YtmhakkahclbbjaaGreatDoorLh
import Derived.Test.YtmhakkahclbbjaaGreatDoorMf
namespace Go.Proofs.YtmhakkahclbbjaaGreatDoor
namespace Lx
structure Wd where
  kind : Nat
  text : List UInt8
  at_ : Nat
def lineR (r : Nat) : Bool := !decide (r = 10) && Sc.mayB r
def isLine (l : List UInt8) : Bool := Lib.validD l && (Sc.rns l).all lineR
/-- the word that begins at a place, and how many bytes it takes; or its error -/
def wordAt (l : List UInt8) (k : Nat) (d : Bool) : Except Nat (Wd × Nat) :=
  let r := l.drop k
  if isB (r.getD 0 0) 9 then .error 8 else
    let z := sizeOf r (kindOf r d)
    if z.2 = 0 then
      let t := wtext (r.take z.1) (kindOf r d)
      if t.2 = 0 then .ok (⟨kindOf r d, t.1, k⟩, z.1) else .error t.2
    else .error z.2
theorem ite_le {c : Prop} [Decidable c] {a b n : Nat} (h1 : a ≤ n) (h2 : b ≤ n) : (if c then a else b) ≤ n := by split <;> assumption
theorem kindOf_le (l : List UInt8) (d : Bool) : kindOf l d ≤ 13 := by
  unfold kindOf
  dsimp only
  iterate 12 (refine ite_le (by decide) ?_)
  exact ite_le (by decide) (by decide)
/-- a word takes a byte, and no more than there are -/
theorem sizeOf_le (l : List UInt8) (k : Nat) (h0 : 0 < l.length) (hb : k = 0 → isB (l.getD 0 0) 32 = false) (h : (sizeOf l k).2 = 0) : 1 ≤ (sizeOf l k).1 ∧ (sizeOf l k).1 ≤ l.length := by
  unfold sizeOf at h ⊢
  split
  · rename_i hk
    rw [if_pos hk] at h
    cases he : Sc.endOf l with
    | none => rw [he] at h; simp at h
    | some n =>
      obtain ⟨h1, h2, _⟩ := Sc.endOf_some l n he
      simp only
      omega
  · split
    · simp only
      exact ⟨upTo_ge _ _ _ _ h0, upTo_le _ _ _ _⟩
    · split
      · rename_i hk
        have hb := hb hk
        simp only
        have h1 := upTo_ge (endP l) l.length l.length 1 h0
        have h2 := upTo_le (endP l) l.length l.length 1
        generalize upTo (endP l) l.length l.length 1 = X at *
        have h3 : (Lib.trimRightB (l.take X) 32).length ≤ (l.take X).length := by
          unfold Lib.trimRightB
          rw [List.length_reverse]
          have := (List.dropWhile_suffix (fun x : UInt8 => x == 32) (l := (l.take X).reverse)).length_le
          rwa [List.length_reverse] at this
        rw [List.length_take] at h3
        refine ⟨?_, by omega⟩
        cases l with
        | nil => simp at h0
        | cons b t =>
          obtain ⟨Y, rfl⟩ : ∃ Y, X = Y + 1 := ⟨X - 1, by omega⟩
          have hb32 : b ≠ 32 := by
            intro e; subst e; simp [isB] at hb
          unfold Lib.trimRightB
          rw [List.take_succ_cons, List.reverse_cons, List.length_reverse, List.dropWhile_append]
          split
          · rw [List.dropWhile_cons_of_neg (by simpa using hb32)]; simp
          · simp
      · simp only; omega
end Lx
open Go.RowKit

set_option maxHeartbeats 1000000 in
set_option maxRecDepth 100000 in
theorem isLine_any (s : ByteArray) (w : World) (hs : s.size ≤ 1000000) (hE : Env w) :
    Calls Tryz.prog 63 #[.string s] w fun e w' => e = .returned (.bool (Lx.isLine s.data.toList)) ∧ Below w.heap.size w w' := by
  have cV := valid_any s w hs hE
  unfold Lx.isLine
  cases hv : Lib.validD s.data.toList
  · rw [hv] at cV
    rw [Bool.false_and]
    clear hv
    go_enter Tryz.func63, Tryz.ntmps63
    go_wp2_with (go_at_call 69; refine cV.mono ?_; rintro e w' ⟨rfl, hb⟩)
    go_ret
    exact ⟨rfl, hb⟩
  · rw [hv] at cV
    rw [Bool.true_and]
    clear hv
    obtain ⟨ANS, hANS⟩ : ∃ ANS, (Sc.rns s.data.toList).all Lx.lineR = ANS := ⟨_, rfl⟩
    rw [hANS]
    have HA : Hid ((Sc.rns s.data.toList).all Lx.lineR = ANS) := hANS
    clear hANS
    go_enter Tryz.func63, Tryz.ntmps63
    go_wp2_with (go_at_call 69; refine cV.mono ?_; rintro e w1 ⟨rfl, hb⟩)
    go_loopw [] (fun wr => ∃ pos : Nat, wr.heap[w1.heap.size]? = some (.stringIter s pos) ∧ Below w1.heap.size w1 wr ∧ Hid ((Sc.rns (s.data.toList.drop pos)).all Lx.lineR = ANS)) (fun wr => s.size - wr.iterPos w1.heap.size)
    case atStart =>
      exact ⟨0, World.iter_heap w1 s 0, (Below.refl _ w1).alloc (Nat.le_refl _) _, HA⟩
    case round =>
      obtain ⟨pos, hit, hbw, HK⟩ := hrel
      clear HA cV
      by_cases hp : pos < s.size
      · have hnx : ∀ ty, (Instr.next (.pointer (some ⟨w1.heap.size, 0, none⟩)) true ty).run Tryz.prog wr = _ := fun ty => Lib.run_next_any_at wr w1.heap.size s pos ty hit hp
        have HS : Hid (_ = _) := rns_drop s pos hp
        have hwd := dec_pos s pos
        have hit2 := Lib.iterAt_heap wr w1.heap.size s pos (pos + (Utf8.decode s pos).2) hit
        have hbw2 := Lib.below_iterAt hbw (k := w1.heap.size) (Nat.le_refl _) s (pos + (Utf8.decode s pos).2)
        have HI := Lib.hid hit2
        clear hit2
        have hfin : Below w.heap.size w (wr.iterAt w1.heap.size s (pos + (Utf8.decode s pos).2)) := hb.trans (hbw2.mono hb.size)
        by_cases h10 : (Utf8.decode s pos).1 = 10
        · have HF : Hid (ANS = false) := by
            have h := HK.out; rw [HS.out, List.all_cons] at h; unfold Lx.lineR at h; rw [h10] at h; show ANS = false; simpa using h.symm
          have b10 : (((Utf8.decode s pos).1 : Int) == 10) = true := beq_iff_eq.2 (by omega)
          clear HS HK h10
          go_wp2_with (go_at_call 72; refine (may_any _ _).mono ?_; rintro e w' ⟨rfl, rfl⟩)
          go_ret
          exact ⟨ret_bool HF.out.symm, hfin⟩
        · have b10 : (((Utf8.decode s pos).1 : Int) == 10) = false := beq_eq_false_iff_ne.2 (by omega)
          cases hm : Sc.mayB (Utf8.decode s pos).1
          · have HF : Hid (ANS = false) := by
              have h := HK.out; rw [HS.out, List.all_cons] at h; unfold Lx.lineR at h; rw [hm] at h; show ANS = false; simpa using h.symm
            clear HS HK h10
            go_wp2_with (go_at_call 72; refine (may_any _ _).mono ?_; rintro e w' ⟨rfl, rfl⟩)
            go_ret
            exact ⟨ret_bool HF.out.symm, hfin⟩
          · have HN : Hid ((Sc.rns (s.data.toList.drop (pos + (Utf8.decode s pos).2))).all Lx.lineR = ANS) := by
              have h := HK.out; rw [HS.out, List.all_cons] at h
              have e : Lx.lineR (Utf8.decode s pos).1 = true := by unfold Lx.lineR; rw [hm]; simp [h10]
              rw [e, Bool.true_and] at h; exact h
            clear HS HK h10
            go_wp2_with (go_at_call 72; refine (may_any _ _).mono ?_; rintro e w' ⟨rfl, rfl⟩)
            go_roundw
            case rel => exact ⟨_, HI.out, hbw2, HN⟩
            case measure =>
              simp only [World.iterPos, HI.out, hit]
              omega
      · have hnx : ∀ ty, (Instr.next (.pointer (some ⟨w1.heap.size, 0, none⟩)) true ty).run Tryz.prog wr = _ := fun ty => Lib.run_next_end_at wr w1.heap.size s pos ty hit hp
        go_wp2
        go_ret
        have : ANS = true := by rw [← HK.out, Sc.drop_nil s pos (by omega)]; rfl
        exact ⟨ret_bool this.symm, hb.trans (hbw.mono hb.size)⟩
end Go.Proofs.YtmhakkahclbbjaaGreatDoor
