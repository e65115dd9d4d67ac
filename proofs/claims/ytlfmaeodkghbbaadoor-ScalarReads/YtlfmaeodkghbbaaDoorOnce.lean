/-
  Walk of the law ScalarOnce.
-/
import Derived.Test.YtlfmaeodkghbbaaDoorWl
import Derived.Test.YtlfmaeodkghbbaaDoorMh
namespace Go.Proofs.YtlfmaeodkghbbaaDoor
open Go.RowKit

theorem beq_self (s : ByteArray) : (s.toList == s.toList) = true := by simp

set_option maxHeartbeats 2000000 in
set_option maxRecDepth 100000 in
theorem once_walk (s : ByteArray) (w : World) (hs : s.size ≤ 9223372036854775807) (hE : Env w) :
    Calls Tryd.prog 6 #[.string s] w fun e w' => e = .returned (.bool true) ∧ Below w.heap.size w w' := by
  have cA := alive_any w hE
  have HE := Lib.hid hE
  clear hE
  by_cases hbig : 1000 < s.size
  · go_enter Tryd.func6, Tryd.ntmps6
    go_wp2_with (go_at_call 10; refine cA.mono ?_; rintro e w1 ⟨rfl, hb⟩)
    go_ret
    exact ⟨rfl, hb⟩
  · have CU := Lib.hid (fun w1 hE1 => unquote_any s w1 (by omega) hE1)
    cases hu : unquoteOf s.data.toList with
    | none =>
      rw [hu, txtR_none] at CU
      clear hu
      go_enter Tryd.func6, Tryd.ntmps6
      go_wp2_with (first | (go_at_call 10; refine cA.mono ?_; rintro e w1 ⟨rfl, hb⟩) | (go_at_call 17; refine (CU.out _ (HE.out.below hb)).mono ?_; rintro e w2 ⟨rfl, hb2⟩))
      go_ret
      exact ⟨rfl, Below.then hb hb2⟩
    | some t =>
      obtain ⟨hv, hlen⟩ := unquote_valid _ _ hu
      rw [← Lib.size_eq] at hlen
      rw [hu] at CU
      clear hu
      obtain ⟨T, rfl⟩ : ∃ T : ByteArray, t = T.data.toList := ⟨str t, rfl⟩
      rw [← Lib.size_eq] at hlen
      unfold txtR at CU
      simp only [Option.getD_some, Option.isSome_some, if_true, str_eq] at CU
      have CQ := Lib.hid (fun w1 hE1 => quote_any T w1 (by omega) hE1)
      obtain ⟨Q, hQ⟩ : ∃ Q, Q = str (quoteOf T.data.toList) := ⟨_, rfl⟩
      rw [← hQ] at CQ
      have hQd : Q.data.toList = quoteOf T.data.toList := by rw [hQ]; rfl
      have hQs : Q.size ≤ 50000 := by
        have := quote_len T.data.toList
        rw [Lib.size_eq, hQd]; rw [← Lib.size_eq] at this; omega
      have C2 := Lib.hid (fun w1 hE1 => unquote_any Q w1 hQs hE1)
      rw [hQd, unquote_quote _ hv] at C2
      unfold txtR at C2
      simp only [Option.getD_some, Option.isSome_some, if_true, str_eq] at C2
      have C3 := Lib.hid (fun w1 hE1 => con_any Q ⟨#[10]⟩ w1 (by omega) hE1)
      rw [hQd, show Lib.contains (quoteOf T.data.toList) (⟨#[10]⟩ : ByteArray).data.toList = false from contains_one 10 _ (quote_none _ 10 (by decide))] at C3
      have C4 := Lib.hid (fun w1 hE1 => con_any Q ⟨#[9]⟩ w1 (by omega) hE1)
      rw [hQd, show Lib.contains (quoteOf T.data.toList) (⟨#[9]⟩ : ByteArray).data.toList = false from contains_one 9 _ (quote_none _ 9 (by decide))] at C4
      have hbs := beq_self T
      clear hQ hQd hv hlen hQs
      go_enter Tryd.func6, Tryd.ntmps6
      go_wp2_with fail
      refine cA.mono ?_
      rintro e w1 ⟨rfl, hb⟩
      have H := Lib.hid (HE.out.below hb)
      clear cA
      go_wp2_with fail
      refine (CU.out _ H.out).mono ?_
      rintro e w2 ⟨rfl, hb2⟩
      replace H := Lib.hid (H.out.below hb2)
      replace hb := Below.then hb hb2
      clear hb2 CU
      go_wp2_with fail
      refine (CQ.out _ H.out).mono ?_
      rintro e w3 ⟨rfl, hb2⟩
      replace H := Lib.hid (H.out.below hb2)
      replace hb := Below.then hb hb2
      clear hb2 CQ
      go_wp2_with fail
      refine (C2.out _ H.out).mono ?_
      rintro e w4 ⟨rfl, hb2⟩
      replace H := Lib.hid (H.out.below hb2)
      replace hb := Below.then hb hb2
      clear hb2 C2
      go_wp2_with fail
      refine (C3.out _ H.out).mono ?_
      rintro e w5 ⟨rfl, rfl⟩
      clear C3
      go_wp2_with fail
      refine (C4.out _ H.out).mono ?_
      rintro e w5 ⟨rfl, rfl⟩
      clear C4
      go_wp2
      go_ret
      exact ⟨rfl, hb⟩
end Go.Proofs.YtlfmaeodkghbbaaDoor
