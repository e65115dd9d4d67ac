/-
  Walks of the document's escaped and Quote.
-/
import Derived.Test.YtlfmaeodkghbbaaDoorRg
import Derived.Test.YtlfmaeodkghbbaaDoorMh
namespace Go.Proofs.YtlfmaeodkghbbaaDoor
open Go.RowKit

theorem rdI_new (w : World) (m : List Nat) : RdI (w.alloc (.cells (m.map fun (r : Nat) => Value.int .i64 (r : Int)).toArray 3)) (w.heap.size + 1) (some ⟨w.heap.size, 0, none⟩) m := fun _ => by
  refine ⟨w.heap.size, 0, rfl, by omega, fun j hj => ?_⟩
  have h1 := cells_of_new w 3 (m.map fun (r : Nat) => Value.int .i64 (r : Int)) j (.int .i64 (m[j] : Nat)) (by simp [hj])
  have e : (⟨w.heap.size, 0, none⟩ : Addr).add j = ⟨w.heap.size, 0 + j, none⟩ := by unfold Addr.add; split <;> simp_all
  rw [e] at h1
  exact h1
theorem text_one (y : Nat) (w : World) (hy : Sc.isCh y) :
    Calls Tryd.prog 31 #[.slice (some ⟨w.heap.size, 0, none⟩) 1 1] (w.alloc (.cells #[.int .i64 y] 3)) fun e w' => e = .returned (.string (str (Sc.enc y))) ∧ Below w.heap.size w w' := by
  have h := text_any (some ⟨w.heap.size, 0, none⟩) [y] 1 (w.alloc (.cells #[.int .i64 y] 3)) (by rw [World.size_alloc]; exact rdI_new w [y]) (by simpa using hy) (by simp)
  refine Calls.mono h ?_
  rintro e w' ⟨rfl, hb⟩
  refine ⟨by rw [Sc.encs_cons, Sc.encs_nil, List.append_nil], ?_⟩
  exact ((Below.refl _ w).alloc (Nat.le_refl _) _).trans (hb.mono (by rw [World.size_alloc]; omega))

set_option maxHeartbeats 1000000 in
set_option maxRecDepth 100000 in
theorem escapedR_any (r : Nat) (w : World) (hc : Sc.isCh r) :
    Calls Tryd.prog 34 #[.int .i64 r] w fun e w' => e = .returned (.string (str (esc r))) ∧ Below w.heap.size w w' := by
  have hr : r ≤ 1114111 := by unfold Sc.isCh at hc; omega
  have CL := Lib.hid (fun w1 => letter_any r w1)
  cases hn : nameOf r with
  | some b =>
    have hm := nameOf_mem r b hn
    have hb0 : b ≠ 0 := by
      have : ∀ p ∈ namedTab, p.2 ≠ 0 := by decide
      exact this _ hm
    have hb1 : b < 128 := (named_back _ hm).1
    have HF : Hid (esc r = [92] ++ Sc.enc b) := by
      show esc r = _
      unfold esc; rw [hn, Sc.enc1 b (by omega)]; rfl
    rw [hn, Option.getD_some] at CL
    have CT := Lib.hid (fun w1 => text_one b w1 (by unfold Sc.isCh; omega))
    have b1 : ((b : Int) != 0) = true := bne_iff_ne.2 (by omega)
    have hsz : (str (Sc.enc b)).size ≤ 4 := by rw [str_size]; exact (Sc.enc_len b).2
    clear hn hm
    go_enter Tryd.func34, Tryd.ntmps34
    go_wp2_with fail
    refine (CL.out _).mono ?_
    rintro e w1 ⟨rfl, h1⟩
    go_wp2_with fail
    refine (CL.out _).mono ?_
    rintro e w2 ⟨rfl, h2⟩
    replace h1 := h1.trans (h2.mono h1.size)
    clear h2 CL
    go_wp2_with fail
    refine (CT.out _).mono ?_
    rintro e w3 ⟨rfl, h2⟩
    replace h1 := h1.trans (h2.mono h1.size)
    clear h2 CT
    go_wp2
    go_ret
    rw [HF.out, ← str_app]
    exact ⟨rfl, h1⟩
  | none =>
    rw [hn, Option.getD_none] at CL
    have HE : Hid (esc r = if Sc.mayB r = true then Sc.enc r else if r < 256 then [92, 120] ++ Sc.hexL r 2 else if r < 65536 then [92, 117] ++ Sc.hexL r 4 else [92, 85] ++ Sc.hexL r 8) := by
      show esc r = _
      unfold esc; rw [hn]
    clear hn
    by_cases hm : Sc.mayB r = true
    · have HF := Lib.hid (HE.out.trans (if_pos hm))
      clear HE
      have CT := Lib.hid (fun w1 => text_one r w1 hc)
      go_enter Tryd.func34, Tryd.ntmps34
      go_wp2_with fail
      refine (CL.out _).mono ?_
      rintro e w1 ⟨rfl, h1⟩
      clear CL
      go_wp2_with (go_at_call 30; refine (mayR_any _ _).mono ?_; rintro e w' ⟨rfl, rfl⟩)
      refine (CT.out _).mono ?_
      rintro e w3 ⟨rfl, h2⟩
      replace h1 := h1.trans (h2.mono h1.size)
      clear h2 CT
      go_wp2
      go_ret
      rw [HF.out]
      exact ⟨rfl, h1⟩
    · have HE2 := Lib.hid (HE.out.trans (if_neg hm))
      have hmf : Sc.mayB r = false := Bool.eq_false_iff.2 hm
      clear HE hm hc
      have fin : ∀ (d : Nat), d ≤ 8 → (str (Sc.hexL r d)).size ≤ 8 := fun d hd => by rw [str_size, Sc.hexL_len]; exact hd
      by_cases h1 : r < 256
      · have HF := Lib.hid (HE2.out.trans (if_pos h1))
        have hz := fin 2 (by omega)
        clear HE2 fin
        have CX := Lib.hid (fun w1 => hexR_any r 2 w1 hr (by omega))
        go_enter Tryd.func34, Tryd.ntmps34
        go_wp2_with fail
        refine (CL.out _).mono ?_
        rintro e w1 ⟨rfl, h1⟩
        clear CL
        go_wp2_with (first | (go_at_call 30; refine (mayR_any _ _).mono ?_; rintro e w' ⟨rfl, rfl⟩) | (go_at_call 54; refine (CX.out _).mono ?_; rintro e w' ⟨rfl, rfl⟩))
        go_ret
        rw [HF.out, ← str_app]
        exact ⟨rfl, h1⟩
      · have HE3 := Lib.hid (HE2.out.trans (if_neg h1))
        have b1 : decide ((r : Int) < 256) = false := decide_eq_false (by omega)
        clear HE2
        by_cases h2 : r < 65536
        · have HF := Lib.hid (HE3.out.trans (if_pos h2))
          have hz := fin 4 (by omega)
          have b2 : decide ((r : Int) < 65536) = true := decide_eq_true (by omega)
          clear HE3 fin
          have CX := Lib.hid (fun w1 => hexR_any r 4 w1 hr (by omega))
          clear h1 h2 hr
          go_enter Tryd.func34, Tryd.ntmps34
          go_wp2_with fail
          refine (CL.out _).mono ?_
          rintro e w1 ⟨rfl, h1⟩
          clear CL
          go_wp2_with (first | (go_at_call 30; refine (mayR_any _ _).mono ?_; rintro e w' ⟨rfl, rfl⟩) | (go_at_call 54; refine (CX.out _).mono ?_; rintro e w' ⟨rfl, rfl⟩))
          go_ret
          rw [HF.out, ← str_app]
          exact ⟨rfl, h1⟩
        · have HF := Lib.hid (HE3.out.trans (if_neg h2))
          have hz := fin 8 (by omega)
          have b2 : decide ((r : Int) < 65536) = false := decide_eq_false (by omega)
          clear HE3 fin
          have CX := Lib.hid (fun w1 => hexR_any r 8 w1 hr (by omega))
          clear h1 h2 hr
          go_enter Tryd.func34, Tryd.ntmps34
          go_wp2_with fail
          refine (CL.out _).mono ?_
          rintro e w1 ⟨rfl, h1⟩
          clear CL
          go_wp2_with (first | (go_at_call 30; refine (mayR_any _ _).mono ?_; rintro e w' ⟨rfl, rfl⟩) | (go_at_call 54; refine (CX.out _).mono ?_; rintro e w' ⟨rfl, rfl⟩))
          go_ret
          rw [HF.out, ← str_app]
          exact ⟨rfl, h1⟩

theorem flat_take (l : List Nat) (k : Nat) (h : k < l.length) : (l.take (k + 1)).flatMap esc = (l.take k).flatMap esc ++ esc l[k] := by
  rw [take_snoc l k h, List.flatMap_append]; simp

set_option maxHeartbeats 1000000 in
set_option maxRecDepth 100000 in
/-- the document's Quote is the program's -/
theorem quoteR_any (s : ByteArray) (w : World) (hs : s.size ≤ 5000) :
    Calls Tryd.prog 14 #[.string s] w fun e w' => e = .returned (.string (str (quoteOf s.data.toList))) ∧ Below w.heap.size w w' := by
  have CC := Lib.hid (fun w1 => chars_any s w1 (by omega))
  unfold quoteOf
  by_cases hv : Lib.validD s.data.toList = true
  · rw [if_pos hv]
    have hco : Sc.charsOf s.data.toList = some (Sc.rns s.data.toList) := by unfold Sc.charsOf; rw [if_pos hv]
    rw [hco] at CC
    have HC := Lib.hid (Sc.ch_rns s.data.toList)
    have hrl := rns_len s.data.toList.length s.data.toList (Nat.le_refl _)
    rw [← Lib.size_eq] at hrl
    clear hv hco
    generalize Sc.rns s.data.toList = l at *
    go_enter Tryd.func14, Tryd.ntmps14
    go_wp2_with fail
    refine (CC.out _).mono ?_
    rintro e w1 ⟨v, rfl, ho, hb⟩
    clear CC
    obtain ⟨a, cap, hv, hc1, hc2, hrd⟩ := ho.form
    simp only [Option.getD_some] at hv hc1 hrd
    subst hv
    have HR := Lib.hid hrd
    clear ho hrd
    go_wp2
    go_loopw [5, 6] (fun o i wr => ∃ (k : Nat), k ≤ l.length ∧ i = .int .i64 k ∧ o = .string (str (34 :: (l.take k).flatMap esc)) ∧ Below w1.heap.size w1 wr) (fun _ i _ => l.length - (intOf i).toNat)
    case atStart => exact ⟨0, by omega, rfl, rfl, Below.refl _ _⟩
    case round =>
      obtain ⟨k, hk, rfl, rfl, hbw⟩ := hrel
      have hesl := escs_len (l.take k)
      rw [List.length_take] at hesl
      have hsz : (str (34 :: (l.take k).flatMap esc)).size ≤ 100000 := by rw [str_size, List.length_cons]; omega
      clear hesl
      by_cases hlt : k < l.length
      · obtain ⟨g, off, rfl, hg, hcb⟩ := HR.out (by omega)
        have ck := (hbw.cell (p := ⟨g, off + k, none⟩) hg).trans (hcb k hlt)
        have hy := HC.out _ (List.getElem_mem hlt)
        have HT : Hid (str (34 :: (l.take (k + 1)).flatMap esc) = str (34 :: (l.take k).flatMap esc) ++ str (esc l[k])) := by
          show _ = _
          rw [flat_take l k hlt, str_app]; rfl
        have hel : (str (esc l[k])).size ≤ 10 := by rw [str_size]; exact esc_len _
        clear hcb
        generalize l[k] = y at *
        generalize str (34 :: (l.take k).flatMap esc) = O at *
        have CE := Lib.hid (fun w1 => escapedR_any y w1 hy)
        generalize str (esc y) = E at *
        go_wp2_with fail
        refine (CE.out _).mono ?_
        rintro e w2 ⟨rfl, h2⟩
        clear CE
        go_wp2
        go_roundw
        case rel => exact ⟨k + 1, by omega, by go_num, by rw [HT.out], hbw.trans (h2.mono hbw.size)⟩
        case measure => simp [intOf]; omega
      · have hk2 : l.take k = l := List.take_of_length_le (by omega)
        have HT : Hid (str (34 :: (l.flatMap esc ++ [34])) = str (34 :: (l.take k).flatMap esc) ++ str [34]) := by
          show _ = _
          rw [hk2, str_app]; rfl
        clear hk2
        generalize str (34 :: (l.take k).flatMap esc) = O at *
        go_wp2
        go_ret
        rw [HT.out]
        exact ⟨rfl, hb.trans (hbw.mono hb.size)⟩
  · rw [if_neg hv]
    have hco : Sc.charsOf s.data.toList = none := by unfold Sc.charsOf; rw [if_neg hv]
    rw [hco] at CC
    clear hv hco
    go_enter Tryd.func14, Tryd.ntmps14
    go_wp2_with fail
    refine (CC.out _).mono ?_
    rintro e w1 ⟨v, rfl, ho, hb⟩
    clear CC ho
    go_wp2
    go_ret
    exact ⟨rfl, hb⟩
end Go.Proofs.YtlfmaeodkghbbaaDoor
