/-
  Walk of the law ScalarSingle.
-/
import Derived.Test.YtlfmaeodkghbbaaDoorWl
import Derived.Test.YtlfmaeodkghbbaaDoorRe
namespace Go.Proofs.YtlfmaeodkghbbaaDoor
open Go.RowKit

theorem charsOf_isSome (l : List UInt8) : (Sc.charsOf l).isSome = Lib.validD l := by
  unfold Sc.charsOf
  cases Lib.validD l <;> rfl
theorem count_any (s : ByteArray) (w : World) : Calls Tryd.prog 27 #[.string s, .string ⟨#[39]⟩] w fun e w' => e = .returned (.int .i64 (s.data.toList.count 39 : Nat)) ∧ w = w' := by
  refine (Tryd.strings_Count_one s 39 w).mono ?_
  rintro e w' ⟨rfl, rfl⟩
  exact ⟨rfl, rfl⟩

set_option maxHeartbeats 2000000 in
set_option maxRecDepth 100000 in
theorem single_walk (s : ByteArray) (w : World) (hs : s.size ≤ 9223372036854775807) (hE : Env w) :
    Calls Tryd.prog 8 #[.string s] w fun e w' => e = .returned (.bool true) ∧ Below w.heap.size w w' := by
  have cA := alive_any w hE
  have HE := Lib.hid hE
  clear hE
  by_cases hbig : 1000 < s.size
  · go_enter Tryd.func8, Tryd.ntmps8
    go_wp2_with (go_at_call 10; refine cA.mono ?_; rintro e w1 ⟨rfl, hb⟩)
    go_ret
    exact ⟨rfl, hb⟩
  · have CS := Lib.hid (fun w1 hE1 => single_any s w1 (by omega) hE1)
    have CC := Lib.hid (fun w1 => chars_any s w1 (by omega))
    obtain ⟨T, hT⟩ : ∃ T, T = str ((singleOf s.data.toList).getD []) := ⟨_, rfl⟩
    obtain ⟨E, hEr⟩ : ∃ E : Int, E = if (singleOf s.data.toList).isSome then 0 else 10 := ⟨_, rfl⟩
    have CS : Hid (∀ w1, Env w1 → Calls Tryd.prog 11 #[.string s] w1 fun e w' => e = .returned (.tuple #[.string T, .int .i64 E]) ∧ Below w1.heap.size w1 w') := by
      have := CS.out; unfold txtR at this; rw [← hT, ← hEr] at this; exact this
    have hfacts : (oneLineB s.data.toList = true ∧ E = 0 ∧ T.size = s.size + 2 + s.data.toList.count 39) ∨ (oneLineB s.data.toList = false ∧ E = 10 ∧ T = ⟨#[]⟩) := by
      unfold singleOf at hT hEr
      cases h : oneLineB s.data.toList with
      | true =>
        rw [h, if_pos rfl] at hT hEr
        left
        refine ⟨rfl, by rw [hEr]; rfl, ?_⟩
        rw [hT, Option.getD_some, str_size, Sc.sq_len, ← Lib.size_eq]
      | false =>
        rw [h, if_neg (by simp)] at hT hEr
        right
        exact ⟨rfl, by subst hEr; rfl, by subst hT; rfl⟩
    have HF := Lib.hid hfacts
    have hvs := charsOf_isSome s.data.toList
    obtain ⟨B0, hB0⟩ : ∃ B0, Lib.validD s.data.toList = B0 := ⟨_, rfl⟩
    rw [hB0] at hvs
    have HO : Hid (oneLineB s.data.toList = (B0 && lineB (Sc.rns (s.data.toList.drop 0)))) := by
      show oneLineB s.data.toList = _
      unfold oneLineB; rw [hB0]; rfl
    clear hT hEr hfacts hB0
    have b0 : decide ((1000 : Int) < (s.size : Int)) = false := decide_eq_false (by omega)
    go_enter Tryd.func8, Tryd.ntmps8
    go_wp2_with fail
    refine cA.mono ?_
    rintro e w1 ⟨rfl, hb⟩
    have H := Lib.hid (HE.out.below hb)
    clear cA
    go_wp2_with fail
    refine (CS.out _ H.out).mono ?_
    rintro e w2 ⟨rfl, hb2⟩
    replace hb := Below.then hb hb2
    clear hb2 CS
    go_wp2_with fail
    refine (CC.out _).mono ?_
    rintro e w3 ⟨v, rfl, ho, hb2⟩
    replace hb := Below.then hb hb2
    clear hb2 CC ho H HE
    rw [hvs]
    clear hvs
    go_wp2
    go_loopw [6] (fun x wr => ∃ (pos : Nat) (b : Bool), x = .bool b ∧ wr.heap[w3.heap.size]? = some (.stringIter s pos) ∧ Below w3.heap.size w3 wr ∧ Hid (oneLineB s.data.toList = (b && lineB (Sc.rns (s.data.toList.drop pos))))) (fun _ wr => s.size - wr.iterPos w3.heap.size)
    case atStart => exact ⟨0, B0, rfl, World.iter_heap w3 s 0, (Below.refl _ w3).alloc (Nat.le_refl _) _, HO⟩
    case round =>
      obtain ⟨pos, b, rfl, hit, hbw, HK⟩ := hrel
      clear HO
      by_cases hp : pos < s.size
      · have hnx : ∀ ty, (Instr.next (.pointer (some ⟨w3.heap.size, 0, none⟩)) true ty).run Tryd.prog wr = _ := fun ty => Lib.run_next_any_at wr w3.heap.size s pos ty hit hp
        have HS := Lib.hid (rns_drop s pos hp)
        have hwd := dec_pos s pos
        have HI := Lib.hid (Lib.iterAt_heap wr w3.heap.size s pos (pos + (Utf8.decode s pos).2) hit)
        have hbw2 := Lib.below_iterAt hbw (k := w3.heap.size) (Nat.le_refl _) s (pos + (Utf8.decode s pos).2)
        have HN : Hid (oneLineB s.data.toList = ((b && lineR (Utf8.decode s pos).1) && lineB (Sc.rns (s.data.toList.drop (pos + (Utf8.decode s pos).2))))) := by
          show oneLineB s.data.toList = _
          rw [HK.out, HS.out]; unfold lineB; rw [List.all_cons, Bool.and_assoc]
        have hlr : lineR (Utf8.decode s pos).1 = (Sc.mayB (Utf8.decode s pos).1 && (((Utf8.decode s pos).1 : Int) != 10) && (((Utf8.decode s pos).1 : Int) != 13)) := by
          unfold lineR
          have e1 : (((Utf8.decode s pos).1 : Int) != 10) = !decide ((Utf8.decode s pos).1 = 10) := by
            rw [Bool.eq_iff_iff, bne_iff_ne, Bool.not_eq_true', decide_eq_false_iff_not]; omega
          have e2 : (((Utf8.decode s pos).1 : Int) != 13) = !decide ((Utf8.decode s pos).1 = 13) := by
            rw [Bool.eq_iff_iff, bne_iff_ne, Bool.not_eq_true', decide_eq_false_iff_not]; omega
          rw [e1, e2]
        rw [hlr] at HN
        clear hlr HS HK
        cases b
        · go_wp2
          go_roundw
          case rel => exact ⟨_, false, rfl, HI.out, hbw2, HN⟩
          case measure => simp only [World.iterPos, HI.out, hit]; omega
        · rw [Bool.true_and] at HN
          have cM := Lib.hid (fun w1 => may_any (Utf8.decode s pos).1 w1)
          generalize Sc.mayB (Utf8.decode s pos).1 = b1 at *
          cases h10 : (((Utf8.decode s pos).1 : Int) != 10) <;> cases h13 : (((Utf8.decode s pos).1 : Int) != 13) <;> cases b1
          all_goals rw [h10, h13] at HN
          all_goals
            go_wp2_with (go_at_call 26; refine (cM.out _).mono ?_; rintro e w' ⟨rfl, rfl⟩)
            go_roundw
            case rel => exact ⟨_, _, rfl, HI.out, hbw2, HN⟩
            case measure => simp only [World.iterPos, HI.out, hit]; omega
      · have hnx : ∀ ty, (Instr.next (.pointer (some ⟨w3.heap.size, 0, none⟩)) true ty).run Tryd.prog wr = _ := fun ty => Lib.run_next_end_at wr w3.heap.size s pos ty hit hp
        have hfin : oneLineB s.data.toList = b := by
          rw [HK.out, Sc.drop_nil s pos (by omega)]; simp [Sc.rns_nil, lineB]
        have hbl : Below w.heap.size w wr := hb.trans (hbw.mono hb.size)
        clear HK
        rcases HF.out with ⟨h1, h2, h3⟩ | ⟨h1, h2, h3⟩
        · rw [h1] at hfin
          subst hfin
          subst h2
          have HZ := Lib.hid h3
          have hz : ((T.size : Int) == (s.size : Int) + 2 + (s.data.toList.count 39 : Nat)) = true := beq_iff_eq.2 (by omega)
          have hcl := List.count_le_length (a := (39 : UInt8)) (l := s.data.toList)
          rw [← Lib.size_eq] at hcl
          have CN := Lib.hid (fun w1 => count_any s w1)
          generalize s.data.toList.count 39 = N at *
          clear HF h1 h3 HZ
          go_wp2_with (go_at_call 27; refine (CN.out _).mono ?_; rintro e w' ⟨rfl, rfl⟩)
          go_ret
          exact ⟨rfl, hbl⟩
        · rw [h1] at hfin
          subst hfin
          subst h2
          subst h3
          clear HF h1
          go_wp2
          go_ret
          exact ⟨rfl, hbl⟩
end Go.Proofs.YtlfmaeodkghbbaaDoor
