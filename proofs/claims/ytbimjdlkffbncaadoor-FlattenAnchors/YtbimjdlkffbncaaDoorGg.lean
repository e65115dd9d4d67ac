/-
  Walks of Read, Fits, and of the law's alive.
-/
import Derived.Test.YtbimjdlkffbncaaDoorGf
namespace Go.Proofs.YtbimjdlkffbncaaDoor
namespace Tag
open Go.RowKit

theorem Below.then {a b c : World} (h : Below a.heap.size a b) (k : Below b.heap.size b c) : Below a.heap.size a c := h.trans (k.mono h.size)

/-- Read's answer as Go gives it -/
def readE (o : Option (List UInt8)) : Ending := .returned (.tuple #[.string (str (o.getD [])), .int .i64 (if o.isSome then 0 else 14)])
theorem trim_le (l p : List UInt8) : (Lib.trimPrefix l p).length ≤ l.length := by
  unfold Lib.trimPrefix; split
  · rw [List.length_drop]; omega
  · exact Nat.le_refl _

theorem beq_words (a b : List UInt8) (h : a ≠ b) : (a == b) = false := beq_eq_false_iff_ne.2 h

set_option maxHeartbeats 1000000 in
theorem fits_any (t s : ByteArray) (w : World) (ht : t.size ≤ 1000000) (hs : s.size ≤ 1000000) :
    Calls Tryd.prog 78 #[.string t, .string s] w fun e w' => e = .returned (.bool (Tg.fits t.data.toList s.data.toList)) ∧ Below w.heap.size w w' := by
  unfold Tg.fits
  have c1 := resolve_any s w hs
  generalize Tg.resolve s.data.toList = k at c1
  unfold Tg.fitsK
  by_cases h1 : t.data.toList = Tg.K.str.w
  · rw [if_pos h1]
    obtain rfl := to_str h1
    clear h1 ht
    have hz : ∀ l, (str l).toList = l := str_toList
    unfold Tg.K.w at *
    go_enter Tryd.func78, Tryd.ntmps78
    go_wp2
    go_ret
    exact ⟨rfl, Below.refl _ _⟩
  · rw [if_neg h1]
    have a1 : (t.toList == [115, 116, 114]) = false := by rw [Lib.toList_data]; exact beq_words _ _ h1
    by_cases h2 : t.data.toList = Tg.K.nul.w ∨ t.data.toList = Tg.K.boo.w ∨ t.data.toList = Tg.K.int.w
    · rw [if_pos h2]
      clear h1 a1
      rcases h2 with h2 | h2 | h2
      all_goals
        obtain rfl := to_str h2
        clear h2 ht
        have hz : ∀ l, (str l).toList = l := str_toList
        have b0 : ∀ l, ((kS k).toList == l) = (k.w == l) := fun l => by rw [Lib.toList_data, kS_w]
        cases k
        all_goals
          unfold kS at c1
          go_enter Tryd.func78, Tryd.ntmps78
          go_wp2_with fail
          refine c1.mono ?_
          rintro e w1 ⟨rfl, rfl⟩
          go_wp2
          go_ret
          exact ⟨rfl, Below.refl _ _⟩
    · rw [if_neg h2]
      have a2 : (t.toList == [110, 117, 108, 108]) = false := by rw [Lib.toList_data]; exact beq_words _ _ (fun e => h2 (Or.inl e))
      have a3 : (t.toList == [98, 111, 111, 108]) = false := by rw [Lib.toList_data]; exact beq_words _ _ (fun e => h2 (Or.inr (Or.inl e)))
      have a4 : (t.toList == [105, 110, 116]) = false := by rw [Lib.toList_data]; exact beq_words _ _ (fun e => h2 (Or.inr (Or.inr e)))
      by_cases h3 : t.data.toList = Tg.K.flt.w
      · rw [if_pos h3]
        obtain rfl := to_str h3
        clear h3 ht h1 h2 a1 a2 a3 a4
        have hz : ∀ l, (str l).toList = l := str_toList
        unfold Tg.K.w at *
        cases k
        all_goals
          unfold kS at c1
          go_enter Tryd.func78, Tryd.ntmps78
          go_wp2_with fail
          refine c1.mono ?_
          rintro e w1 ⟨rfl, rfl⟩
          go_wp2
          go_ret
          exact ⟨rfl, Below.refl _ _⟩
      · rw [if_neg h3]
        have a5 : (t.toList == [102, 108, 111, 97, 116]) = false := by rw [Lib.toList_data]; exact beq_words _ _ h3
        clear h1 h2 h3 c1
        have c2 := own_any t w ht
        go_enter Tryd.func78, Tryd.ntmps78
        go_wp2_with fail
        refine c2.mono ?_
        rintro e w1 ⟨rfl, hb⟩
        go_wp2
        go_ret
        exact ⟨rfl, hb⟩

theorem al1 : Tg.read [33, 33, 105, 110, 116] = some [105, 110, 116] := by decide +kernel
theorem al2 : Tg.read [105, 110, 116] = none := by decide +kernel
theorem al3 : Tg.resolve [48, 120, 49, 70] = .int := by decide +kernel
theorem al4 : Tg.resolve [49, 46] = .flt := by decide +kernel
theorem al5 : Tg.resolve [49, 46, 50, 46, 51] = .str := by decide +kernel
theorem al6 : Tg.word [33, 97] = [33, 97] := by decide +kernel
theorem al7 : Tg.core [115, 101, 113] = true := by decide +kernel
theorem al8 : Tg.right [33, 120, 45, 49] = true := by decide +kernel
theorem al9 : Tg.fits [102, 108, 111, 97, 116] [49] = true := by decide +kernel
theorem ac3 (w : World) : Calls Tryd.prog 77 #[.string ⟨#[48, 120, 49, 70]⟩] w fun e w' => e = .returned (.string ⟨#[105, 110, 116]⟩) ∧ w = w' := by
  have := resolve_any ⟨#[48, 120, 49, 70]⟩ w (by decide); rw [al3] at this; exact this
theorem ac4 (w : World) : Calls Tryd.prog 77 #[.string ⟨#[49, 46]⟩] w fun e w' => e = .returned (.string ⟨#[102, 108, 111, 97, 116]⟩) ∧ w = w' := by
  have := resolve_any ⟨#[49, 46]⟩ w (by decide); rw [al4] at this; exact this
theorem ac5 (w : World) : Calls Tryd.prog 77 #[.string ⟨#[49, 46, 50, 46, 51]⟩] w fun e w' => e = .returned (.string ⟨#[115, 116, 114]⟩) ∧ w = w' := by
  have := resolve_any ⟨#[49, 46, 50, 46, 51]⟩ w (by decide); rw [al5] at this; exact this
theorem ac7 (w : World) : Calls Tryd.prog 80 #[.string ⟨#[115, 101, 113]⟩] w fun e w' => e = .returned (.bool true) ∧ w = w' := by
  have := core_any ⟨#[115, 101, 113]⟩ w; rw [al7] at this; exact this
theorem ac8 (w : World) : Calls Tryd.prog 79 #[.string ⟨#[33, 120, 45, 49]⟩] w fun e w' => e = .returned (.bool true) ∧ Below w.heap.size w w' := by
  have := right_any ⟨#[33, 120, 45, 49]⟩ w (by decide); rw [al8] at this; exact this
theorem ac9 (w : World) : Calls Tryd.prog 78 #[.string ⟨#[102, 108, 111, 97, 116]⟩, .string ⟨#[49]⟩] w fun e w' => e = .returned (.bool true) ∧ Below w.heap.size w w' := by
  have := fits_any ⟨#[102, 108, 111, 97, 116]⟩ ⟨#[49]⟩ w (by decide) (by decide); rw [al9] at this; exact this

end Tag
end Go.Proofs.YtbimjdlkffbncaaDoor
