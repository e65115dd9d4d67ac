/-
  Walk of strconv.FormatFloat at the shortest form, for every finite number.
-/
import Derived.Test.YtegkdlimkgfheaaDoorFt
import Derived.Test.YtegkdlimkgfheaaDoorFu
import Derived.Laws.MakeOwn
namespace Go.Proofs.YtegkdlimkgfheaaDoor
open Go.RowKit Go.Sort

/-- 'string(b)' of bytes that the call owns -/
theorem own_string {w : World} {B : Nat} {v : Value} {l : List UInt8} (h : Own w B v l) : (convert 31 9 v).run Tryd.prog w = .ok (.string (str l)) w := by
  by_cases h0 : l.length = 0
  · have hl : l = [] := List.eq_nil_of_length_eq_zero h0
    subst hl
    rcases h.2 with ⟨rfl, _⟩ | ⟨g, cap, cur, rfl, hr⟩
    · rw [run_convert_bytes_string w 31 9 5 none 0 0 Tryd.underlying31 Tryd.underlying5 Tryd.underlying9]
      rfl
    · exact run_convert_bytes_back w 31 9 5 ⟨g, 0, none⟩ cap [] Tryd.underlying31 Tryd.underlying5 Tryd.underlying9 (fun j hj => absurd hj (by simp))
  · rcases h.2 with ⟨_, h00⟩ | ⟨g, cap, cur, rfl, hr⟩
    · exact absurd h00 h0
    · refine run_convert_bytes_back w 31 9 5 ⟨g, 0, none⟩ cap l Tryd.underlying31 Tryd.underlying5 Tryd.underlying9 fun j hj => ?_
      refine World.ownsRow.cells h (g := g) rfl j _ ?_
      simp [Lib.byteCells, hj]

set_option maxHeartbeats 4000000 in
set_option maxRecDepth 100000 in
theorem ffloat_any (X : Nat) (C : Int) (w : World) (hC : C = 101 ∨ C = 102 ∨ C = 103 ∨ C = 69) (hX : X < 18446744073709551616) (hfin : X / 4503599627370496 % 2048 ≠ 2047) (hE : Env w) :
    Calls Tryd.prog 10 #[.float .f64 X, .int .u8 C, .int .i64 (-1), .int .i64 64] w fun e w' => (∃ o : List UInt8, e = .returned (.string (str o)) ∧ Num o ∧ o.length ≤ 2000) ∧ Below w.heap.size w w' := by
  have c : Calls Tryd.prog 22 #[.float .f64 X, .int .u8 C, .int .i64 (-1), .int .i64 64] w fun e w' => (∃ o : List UInt8, e = .returned (.string (str o)) ∧ Num o ∧ o.length ≤ 2000) ∧ Below w.heap.size w w' := by
    have hmx : max (3 : Int) 24 = 24 := by decide
    obtain ⟨i0, hi, hz0, hz1, hz2⟩ := info_parts info5
    obtain ⟨w1, hrun, hown, hg⟩ := run_make_own (P := Tryd.prog) w w.heap.size 31 5 i0 (.int .u8 0) 1 Tryd.underlying31 hi hz0 hz1 .i64 .i64 24 (by rw [hz2]; decide) (by decide) (Nat.le_refl _)
    have hb1 : Below w.heap.size w w1 := (Below.refl _ w).grown hg (Nat.le_refl _) (fun k hk => by cases hk)
    have hO : Own w1 w.heap.size (.slice (some ⟨w.heap.size, 0, none⟩) 0 24) [] := hown
    have hst : St w1 w.heap.size 0 w1 (.slice (some ⟨w.heap.size, 0, none⟩) 0 24) [] := ⟨hO, Kept.refl _ _, hb1.size, by simp⟩
    have hvb : ∀ g, (Value.slice (some ⟨w.heap.size, 0, none⟩) 0 24).ownBlock = some g → g < w1.heap.size := fun g hg' => by
      obtain ⟨c, fz, hh⟩ := own_kind hO g hg'
      exact (Array.getElem?_eq_some_iff.1 hh).1
    have hE1 := hE.below hb1 hE.size
    have CF := Lib.hid (ftoa_any w.heap.size _ X C w1 hst hC hX hfin hE1 hvb)
    have hrun' : (Instr.makeSlice 31 (.int .i64 0) (.int .i64 24)).run Tryd.prog w = .ok (.slice (some ⟨w.heap.size, 0, none⟩) 0 24) w1 := hrun
    clear hE hE1 hvb hst hO hown hg hrun hC hi hz0 hz1 hz2
    go_enter Tryd.func22, Tryd.ntmps22
    go_wp2_with fail
    refine CF.out.mono ?_
    rintro e w2 ⟨v', o, rfl, hown2, hnum, hlen, hk2⟩
    have hcv := own_string hown2
    clear hrun' hmx
    go_wp2
    go_ret
    exact ⟨⟨o, rfl, hnum, hlen⟩, hb1.trans hk2.1⟩
  clear hE
  go_enter Tryd.func10, Tryd.ntmps10
  go_wp2_with (go_at_call 22; refine c.mono ?_; rintro e w1 ⟨⟨o, rfl, ho⟩, hb⟩)
  go_ret
  exact ⟨⟨o, rfl, ho⟩, hb⟩
end Go.Proofs.YtegkdlimkgfheaaDoor
