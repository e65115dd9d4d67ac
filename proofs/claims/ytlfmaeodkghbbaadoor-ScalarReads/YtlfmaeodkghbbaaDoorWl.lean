/-
  Walk of the law's alive: the answers that the document fixes.
-/
import Derived.Test.YtlfmaeodkghbbaaDoorWk
namespace Go.Proofs.YtlfmaeodkghbbaaDoor
open Go.RowKit

theorem al1 : unquoteOf [34, 97, 92, 110, 92, 120, 52, 49, 34] = some [97, 10, 65] := by decide +kernel
theorem al2 : singleOf [105, 116, 39, 115] = some [39, 105, 116, 39, 39, 115, 39] := by decide +kernel
theorem al3 : unsingleOf [39, 105, 116, 39, 39, 115, 39] = some [105, 116, 39, 115] := by decide +kernel
theorem al4 : Sc.endOf [39, 97, 39, 39, 98, 39, 32, 99] = some 6 := by decide +kernel
theorem al5 : unquoteOf [34, 92, 113, 34] = none := by decide +kernel
theorem al6 : quoteOf [97, 10] = [34, 97, 92, 110, 34] := by decide +kernel
theorem al7 : plainB [97, 32, 98] = true := by decide +kernel
theorem al8 : plainB [97, 58, 32, 98] = false := by decide +kernel

theorem ac1 (w : World) (hE : Env w) : Calls Tryd.prog 17 #[.string ⟨#[34, 97, 92, 110, 92, 120, 52, 49, 34]⟩] w fun e w' => e = .returned (.tuple #[.string ⟨#[97, 10, 65]⟩, .int .i64 0]) ∧ Below w.heap.size w w' := by
  have := unquote_any ⟨#[34, 97, 92, 110, 92, 120, 52, 49, 34]⟩ w (by decide) hE
  rw [al1] at this
  exact this
theorem ac2 (w : World) (hE : Env w) : Calls Tryd.prog 11 #[.string ⟨#[105, 116, 39, 115]⟩] w fun e w' => e = .returned (.tuple #[.string ⟨#[39, 105, 116, 39, 39, 115, 39]⟩, .int .i64 0]) ∧ Below w.heap.size w w' := by
  have := single_any ⟨#[105, 116, 39, 115]⟩ w (by decide) hE
  rw [al2] at this
  exact this
theorem ac3 (w : World) (hE : Env w) : Calls Tryd.prog 19 #[.string ⟨#[39, 105, 116, 39, 39, 115, 39]⟩] w fun e w' => e = .returned (.tuple #[.string ⟨#[105, 116, 39, 115]⟩, .int .i64 0]) ∧ Below w.heap.size w w' := by
  have := unsingle_any ⟨#[39, 105, 116, 39, 39, 115, 39]⟩ w (by decide) hE
  rw [al3] at this
  exact this
theorem ac4 (w : World) : Calls Tryd.prog 21 #[.string ⟨#[39, 97, 39, 39, 98, 39, 32, 99]⟩] w fun e w' => e = .returned (.tuple #[.int .i64 6, .int .i64 0]) ∧ w = w' := by
  have := end_any ⟨#[39, 97, 39, 39, 98, 39, 32, 99]⟩ w (by decide)
  rw [al4] at this
  exact this
theorem ac5 (w : World) (hE : Env w) : Calls Tryd.prog 17 #[.string ⟨#[34, 92, 113, 34]⟩] w fun e w' => e = .returned (.tuple #[.string ⟨#[]⟩, .int .i64 10]) ∧ Below w.heap.size w w' := by
  have := unquote_any ⟨#[34, 92, 113, 34]⟩ w (by decide) hE
  rw [al5] at this
  exact this
theorem ac6 (w : World) (hE : Env w) : Calls Tryd.prog 13 #[.string ⟨#[97, 10]⟩] w fun e w' => e = .returned (.string ⟨#[34, 97, 92, 110, 34]⟩) ∧ Below w.heap.size w w' := by
  have := quote_any ⟨#[97, 10]⟩ w (by decide) hE
  rw [al6] at this
  exact this
theorem ac7 (w : World) (hE : Env w) : Calls Tryd.prog 15 #[.string ⟨#[97, 32, 98]⟩] w fun e w' => e = .returned (.bool true) ∧ Below w.heap.size w w' := by
  have := plain_any ⟨#[97, 32, 98]⟩ w (by decide) hE
  rw [al7] at this
  exact this
theorem ac8 (w : World) (hE : Env w) : Calls Tryd.prog 15 #[.string ⟨#[97, 58, 32, 98]⟩] w fun e w' => e = .returned (.bool false) ∧ Below w.heap.size w w' := by
  have := plain_any ⟨#[97, 58, 32, 98]⟩ w (by decide) hE
  rw [al8] at this
  exact this

theorem Below.then {a b c : World} (h : Below a.heap.size a b) (k : Below b.heap.size b c) : Below a.heap.size a c := h.trans (k.mono h.size)

set_option maxHeartbeats 1000000 in
set_option maxRecDepth 100000 in
theorem alive_any (w : World) (hE : Env w) : Calls Tryd.prog 10 #[] w fun e w' => e = .returned (.bool true) ∧ Below w.heap.size w w' := by
  have HE := Lib.hid hE
  clear hE
  go_enter Tryd.func10, Tryd.ntmps10
  go_wp2_with fail
  refine (ac1 w HE.out).mono ?_
  rintro e w1 ⟨rfl, hb⟩
  have H1 := Lib.hid (HE.out.below hb)
  go_wp2_with fail
  refine (ac2 w1 H1.out).mono ?_
  rintro e w2 ⟨rfl, hb2⟩
  have H2 := Lib.hid (H1.out.below hb2)
  replace hb := Below.then hb hb2
  clear hb2 H1
  go_wp2_with fail
  refine (ac3 w2 H2.out).mono ?_
  rintro e w3 ⟨rfl, hb3⟩
  have H3 := Lib.hid (H2.out.below hb3)
  replace hb := Below.then hb hb3
  clear hb3 H2
  go_wp2_with fail
  refine (ac4 w3).mono ?_
  rintro e w4 ⟨rfl, rfl⟩
  go_wp2_with fail
  refine (ac5 w3 H3.out).mono ?_
  rintro e w5 ⟨rfl, hb5⟩
  have H5 := Lib.hid (H3.out.below hb5)
  replace hb := Below.then hb hb5
  clear hb5 H3
  go_wp2_with fail
  refine (ac6 w5 H5.out).mono ?_
  rintro e w6 ⟨rfl, hb6⟩
  have H6 := Lib.hid (H5.out.below hb6)
  replace hb := Below.then hb hb6
  clear hb6 H5
  go_wp2_with fail
  refine (ac7 w6 H6.out).mono ?_
  rintro e w7 ⟨rfl, hb7⟩
  have H7 := Lib.hid (H6.out.below hb7)
  replace hb := Below.then hb hb7
  clear hb7 H6
  go_wp2_with fail
  refine (ac8 w7 H7.out).mono ?_
  rintro e w8 ⟨rfl, hb8⟩
  replace hb := Below.then hb hb8
  clear hb8 H7
  go_wp2
  go_ret
  exact ⟨rfl, hb⟩
end Go.Proofs.YtlfmaeodkghbbaaDoor
