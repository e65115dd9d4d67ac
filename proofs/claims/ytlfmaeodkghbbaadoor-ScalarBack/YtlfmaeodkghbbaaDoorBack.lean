/-
  Walk of the law ScalarBack.
-/
import Derived.Test.YtlfmaeodkghbbaaDoorWl
import Derived.Test.YtlfmaeodkghbbaaDoorMi
import Derived.Test.YtlfmaeodkghbbaaDoorRe
import Derived.Test.YtlfmaeodkghbbaaDoorOnce
namespace Go.Proofs.YtlfmaeodkghbbaaDoor
open Go.RowKit

theorem charsOf_some (l : List UInt8) : (Sc.charsOf l).isSome = Lib.validD l := by
  unfold Sc.charsOf
  cases Lib.validD l <;> rfl
theorem app_list (a b : ByteArray) : (a ++ b).data.toList = a.data.toList ++ b.data.toList := by simp

set_option maxHeartbeats 4000000 in
set_option maxRecDepth 100000 in
theorem back_walk (s r : ByteArray) (w : World) (hs : s.size ≤ 9223372036854775807) (hr : r.size ≤ 9223372036854775807) (hE : Env w) :
    Calls Tryd.prog 5 #[.string s, .string r] w fun e w' => e = .returned (.bool true) ∧ Below w.heap.size w w' := by
  have cA := alive_any w hE
  have HE := Lib.hid hE
  clear hE
  by_cases hbig : 1000 < s.size
  · go_enter Tryd.func5, Tryd.ntmps5
    go_wp2_with (go_at_call 10; refine cA.mono ?_; rintro e w1 ⟨rfl, hb⟩)
    go_ret
    exact ⟨rfl, hb⟩
  by_cases hbig2 : 1000 < r.size
  · go_enter Tryd.func5, Tryd.ntmps5
    go_wp2_with (go_at_call 10; refine cA.mono ?_; rintro e w1 ⟨rfl, hb⟩)
    go_ret
    exact ⟨rfl, hb⟩
  have CC := Lib.hid (fun w1 => chars_any s w1 (by omega))
  have CQ := Lib.hid (fun w1 hE1 => quote_any s w1 (by omega) hE1)
  have CS := Lib.hid (fun w1 hE1 => single_any s w1 (by omega) hE1)
  have hvs := charsOf_some s.data.toList
  obtain ⟨Q, hQ⟩ : ∃ Q, Q = str (quoteOf s.data.toList) := ⟨_, rfl⟩
  rw [← hQ] at CQ
  have hQd : Q.data.toList = quoteOf s.data.toList := by rw [hQ]; rfl
  have hQs : Q.size ≤ 20000 := by
    have := quote_len s.data.toList
    rw [Lib.size_eq, hQd]; rw [← Lib.size_eq] at this; omega
  have b0 : decide ((1000 : Int) < (s.size : Int)) = false := decide_eq_false (by omega)
  have b1 : decide ((1000 : Int) < (r.size : Int)) = false := decide_eq_false (by omega)
  have hbs := beq_self s
  cases hv : Lib.validD s.data.toList with
  | false =>
    have hQe : Q = ⟨#[]⟩ := by rw [hQ]; unfold quoteOf; rw [hv]; rfl
    subst hQe
    rw [hv] at hvs
    clear hQ hQd hQs hv CS
    go_enter Tryd.func5, Tryd.ntmps5
    go_wp2_with fail
    refine cA.mono ?_
    rintro e w1 ⟨rfl, hb⟩
    have H := Lib.hid (HE.out.below hb)
    clear cA
    go_wp2_with fail
    refine (CC.out _).mono ?_
    rintro e w2 ⟨v, rfl, ho, hb2⟩
    replace H := Lib.hid (H.out.below hb2)
    replace hb := Below.then hb hb2
    clear hb2 CC ho
    rw [hvs]
    clear hvs
    go_wp2_with fail
    refine (CQ.out _ H.out).mono ?_
    rintro e w3 ⟨rfl, hb2⟩
    replace hb := Below.then hb hb2
    clear hb2 CQ
    go_wp2
    go_ret
    exact ⟨rfl, hb⟩
  | true =>
    have CU := Lib.hid (fun w1 hE1 => unquote_any Q w1 (by omega) hE1)
    rw [hQd, unquote_quote _ hv] at CU
    unfold txtR at CU
    simp only [Option.getD_some, Option.isSome_some, if_true, str_eq] at CU
    have CE := Lib.hid (fun w1 => end_any (Q ++ r) w1 (by rw [ByteArray.size_append]; omega))
    rw [app_list, hQd, end_quote _ _ hv, ← hQd, ← Lib.size_eq] at CE
    unfold endR at CE
    simp only [Option.getD_some, Option.isSome_some, if_true] at CE
    have hqq : ((Q.size : Int) != (Q.size : Int)) = false := by simp
    rw [hv] at hvs
    cases ho : oneLineB s.data.toList with
    | false =>
      have hS : singleOf s.data.toList = none := by unfold singleOf; rw [ho]; rfl
      rw [hS, txtR_none] at CS
      clear hQ hQd hv ho hS
      go_enter Tryd.func5, Tryd.ntmps5
      go_wp2_with fail
      refine cA.mono ?_
      rintro e w1 ⟨rfl, hb⟩
      have H := Lib.hid (HE.out.below hb)
      clear cA
      go_wp2_with fail
      refine (CC.out _).mono ?_
      rintro e w2 ⟨v, rfl, ho, hb2⟩
      replace H := Lib.hid (H.out.below hb2)
      replace hb := Below.then hb hb2
      clear hb2 CC ho
      rw [hvs]
      clear hvs
      go_wp2_with fail
      refine (CQ.out _ H.out).mono ?_
      rintro e w3 ⟨rfl, hb2⟩
      replace H := Lib.hid (H.out.below hb2)
      replace hb := Below.then hb hb2
      clear hb2 CQ
      go_wp2_with fail
      refine (CU.out _ H.out).mono ?_
      rintro e w4 ⟨rfl, hb2⟩
      replace H := Lib.hid (H.out.below hb2)
      replace hb := Below.then hb hb2
      clear hb2 CU
      go_wp2_with fail
      refine (CE.out _).mono ?_
      rintro e w5 ⟨rfl, rfl⟩
      clear CE
      go_wp2_with fail
      refine (CS.out _ H.out).mono ?_
      rintro e w6 ⟨rfl, hb2⟩
      replace hb := Below.then hb hb2
      clear hb2 CS
      go_wp2
      go_ret
      exact ⟨rfl, hb⟩
    | true =>
      have hS : singleOf s.data.toList = some (Sc.sq s.data.toList) := by unfold singleOf; rw [if_pos ho]
      rw [hS] at CS
      unfold txtR at CS
      simp only [Option.getD_some, Option.isSome_some, if_true] at CS
      obtain ⟨T, hT⟩ : ∃ T, T = str (Sc.sq s.data.toList) := ⟨_, rfl⟩
      rw [← hT] at CS
      have hTd : T.data.toList = Sc.sq s.data.toList := by rw [hT]; rfl
      have hTs : T.size ≤ 20000 := by
        have := List.count_le_length (a := (39 : UInt8)) (l := s.data.toList)
        rw [← Lib.size_eq] at this
        rw [Lib.size_eq, hTd, Sc.sq_len, ← Lib.size_eq]; omega
      have CN := Lib.hid (fun w1 hE1 => unsingle_any T w1 (by omega) hE1)
      rw [hTd, unsingle_sq _ ho] at CN
      unfold txtR at CN
      simp only [Option.getD_some, Option.isSome_some, if_true, str_eq] at CN
      have CF := Lib.hid (fun w1 => end_any (T ++ ⟨#[32]⟩ ++ r) w1 (by rw [ByteArray.size_append, ByteArray.size_append]; simp only [show (⟨#[32]⟩ : ByteArray).size = 1 from rfl]; omega))
      rw [app_list, app_list, hTd, show (⟨#[32]⟩ : ByteArray).data.toList = [32] from rfl, List.append_assoc, List.singleton_append, end_sq, ← hTd, ← Lib.size_eq] at CF
      unfold endR at CF
      simp only [Option.getD_some, Option.isSome_some, if_true] at CF
      have htt : ((T.size : Int) == (T.size : Int)) = true := by simp
      clear hQ hQd hv ho hS hT hTd
      go_enter Tryd.func5, Tryd.ntmps5
      go_wp2_with fail
      refine cA.mono ?_
      rintro e w1 ⟨rfl, hb⟩
      have H := Lib.hid (HE.out.below hb)
      clear cA
      go_wp2_with fail
      refine (CC.out _).mono ?_
      rintro e w2 ⟨v, rfl, ho, hb2⟩
      replace H := Lib.hid (H.out.below hb2)
      replace hb := Below.then hb hb2
      clear hb2 CC ho
      rw [hvs]
      clear hvs
      go_wp2_with fail
      refine (CQ.out _ H.out).mono ?_
      rintro e w3 ⟨rfl, hb2⟩
      replace H := Lib.hid (H.out.below hb2)
      replace hb := Below.then hb hb2
      clear hb2 CQ
      go_wp2_with fail
      refine (CU.out _ H.out).mono ?_
      rintro e w4 ⟨rfl, hb2⟩
      replace H := Lib.hid (H.out.below hb2)
      replace hb := Below.then hb hb2
      clear hb2 CU
      go_wp2_with fail
      refine (CE.out _).mono ?_
      rintro e w5 ⟨rfl, rfl⟩
      clear CE
      go_wp2_with fail
      refine (CS.out _ H.out).mono ?_
      rintro e w6 ⟨rfl, hb2⟩
      replace H := Lib.hid (H.out.below hb2)
      replace hb := Below.then hb hb2
      clear hb2 CS
      go_wp2_with fail
      refine (CN.out _ H.out).mono ?_
      rintro e w7 ⟨rfl, hb2⟩
      replace hb := Below.then hb hb2
      clear hb2 CN
      go_wp2_with fail
      refine (CF.out _).mono ?_
      rintro e w8 ⟨rfl, rfl⟩
      clear CF
      go_wp2
      go_ret
      exact ⟨rfl, hb⟩
end Go.Proofs.YtlfmaeodkghbbaaDoor
