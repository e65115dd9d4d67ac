/-
  Walk of lex.sizeOf.
-/
import Derived.Test.YtmhakkahclbbjaaGreatDoorLc
import Derived.Test.YtmhakkahclbbjaaGreatDoorWb
namespace Go.Proofs.YtmhakkahclbbjaaGreatDoor
namespace Lx
/-- how many bytes a word takes, or its error -/
def sizeOf (l : List UInt8) (k : Nat) : Nat × Nat :=
  if k = 1 ∨ k = 2 then (match Sc.endOf l with
    | some n => (n, 0)
    | none => (0, 10))
  else if k = 3 ∨ k = 4 ∨ k = 5 then (upTo (endW l) l.length l.length 1, 0)
  else if k = 0 then ((Lib.trimRightB (l.take (upTo (endP l) l.length l.length 1)) 32).length, 0)
  else (1, 0)
end Lx
open Go.RowKit

def pairI (p : Nat × Nat) : Ending := .returned (.tuple #[.int .i64 p.1, .int .i64 p.2])

theorem enters1 : ∀ args w, (callFunc 108 args).run Tryz.prog w = .ok (.enter 108 args) w := enters_of Tryz.func108 (by kernel_rfl) rfl
theorem enters2 : ∀ args w, (callFunc 110 args).run Tryz.prog w = .ok (.enter 110 args) w := enters_of Tryz.func110 (by kernel_rfl) rfl

set_option maxHeartbeats 2000000 in
theorem size_quote (s : ByteArray) (k : Nat) (w : World) (hs : s.size ≤ 1000000) (hk : k = 1 ∨ k = 2) :
    Calls Tryz.prog 90 #[.string s, .int .i64 k] w fun e w' => e = pairI (Lx.sizeOf s.data.toList k) ∧ Below w.heap.size w w' := by
  unfold Lx.sizeOf
  rw [if_pos hk]
  have cE := fun w => end_any s w hs
  unfold endR at cE
  have hp : pairI (match Sc.endOf s.data.toList with | some n => (n, 0) | none => (0, 10)) = .returned (.tuple #[.int .i64 ((Sc.endOf s.data.toList).getD 0 : Nat), .int .i64 (if (Sc.endOf s.data.toList).isSome then 0 else 10)]) := by
    cases Sc.endOf s.data.toList <;> rfl
  rw [hp]
  clear hp
  generalize ((Sc.endOf s.data.toList).getD 0) = X at *
  generalize (if (Sc.endOf s.data.toList).isSome = true then (0 : Int) else 10) = Y at *
  have HE := Lib.hid cE
  clear cE
  rcases hk with rfl | rfl
  all_goals
    go_enter Tryz.func90, Tryz.ntmps90
    go_wp2_with (go_at_call 106; refine (HE.out _).mono ?_; rintro e w' ⟨rfl, rfl⟩)
    go_ret2
    exact ⟨rfl, (Below.refl _ _).alloc (Nat.le_refl _) _⟩

set_option maxHeartbeats 2000000 in
theorem size_tag (s : ByteArray) (k : Nat) (w : World) (hs : s.size ≤ 1000000) (h0 : 0 < s.size) (hk : k = 3 ∨ k = 4 ∨ k = 5) :
    Calls Tryz.prog 90 #[.string s, .int .i64 k] w fun e w' => e = pairI (Lx.sizeOf s.data.toList k) ∧ Below w.heap.size w w' := by
  unfold Lx.sizeOf
  rw [if_neg (by omega), if_pos hk]
  have hc : (w.alloc (.cells #[.string s] 9)).cell? ⟨w.heap.size, 0, none⟩ = some (.string s) := by rw [World.cell?_alloc_at _ _ _ _ rfl]; rfl
  have cU := upTo_any 108 #[.pointer (some ⟨w.heap.size, 0, none⟩)] (Lx.endW s.data.toList) s (w.alloc (.cells #[.string s] 9)) hs h0 enters1 (fun j hj => endW_any s w.heap.size j _ hs hj hc)
  rw [ba_len]
  generalize Lx.upTo (Lx.endW s.data.toList) s.size s.size 1 = X at *
  have HU := Lib.hid cU
  clear cU hc
  rcases hk with rfl | rfl | rfl
  all_goals
    go_enter Tryz.func90, Tryz.ntmps90
    go_wp2_with (go_at_call 107; refine HU.out.mono ?_; rintro e w' ⟨rfl, rfl⟩)
    go_ret2
    exact ⟨rfl, (Below.refl _ _).alloc (Nat.le_refl _) _⟩

set_option maxHeartbeats 2000000 in
theorem size_plain (s : ByteArray) (w : World) (hs : s.size ≤ 1000000) (h0 : 0 < s.size) :
    Calls Tryz.prog 90 #[.string s, .int .i64 0] w fun e w' => e = pairI (Lx.sizeOf s.data.toList 0) ∧ Below w.heap.size w w' := by
  unfold Lx.sizeOf
  rw [if_neg (by omega), if_neg (by omega), if_pos rfl]
  have hc : (w.alloc (.cells #[.string s] 9)).cell? ⟨w.heap.size, 0, none⟩ = some (.string s) := by rw [World.cell?_alloc_at _ _ _ _ rfl]; rfl
  have cU := upTo_any 110 #[.pointer (some ⟨w.heap.size, 0, none⟩)] (Lx.endP s.data.toList) s (w.alloc (.cells #[.string s] 9)) hs h0 enters2 (fun j hj => endP_any s w.heap.size j _ hs hj hc)
  rw [ba_len]
  have hle := Lx.upTo_le (Lx.endP s.data.toList) s.size s.size 1
  generalize Lx.upTo (Lx.endP s.data.toList) s.size s.size 1 = X at *
  have cT := fun w => Tryz.strings_TrimRight_one (s.extract 0 X) 32 (by decide) w (by have := Lib.size_eq (s.extract 0 X); rw [Tag.ext_take, List.length_take, ba_len] at this; omega)
  simp only [Tag.ext_take] at cT
  generalize Lib.trimRightB (s.data.toList.take X) 32 = Y at *
  have HU := Lib.hid cU
  have HT := Lib.hid cT
  have hY : (⟨Y.toArray⟩ : ByteArray).size = Y.length := by show Y.toArray.size = _; simp
  clear cU hc cT
  go_enter Tryz.func90, Tryz.ntmps90
  go_wp2_with (first
    | (go_at_call 107; refine HU.out.mono ?_; rintro e w' ⟨rfl, rfl⟩)
    | (go_at_call 111; refine (HT.out _).mono ?_; rintro e w' ⟨rfl, rfl⟩))
  go_ret2
  exact ⟨rfl, (Below.refl _ _).alloc (Nat.le_refl _) _⟩

set_option maxHeartbeats 2000000 in
theorem size_one (s : ByteArray) (k : Nat) (w : World) (hk : 6 ≤ k) (hk2 : k ≤ 13) :
    Calls Tryz.prog 90 #[.string s, .int .i64 k] w fun e w' => e = pairI (Lx.sizeOf s.data.toList k) ∧ Below w.heap.size w w' := by
  unfold Lx.sizeOf
  rw [if_neg (by omega), if_neg (by omega), if_neg (by omega)]
  have b0 : ((k : Int) == 0) = false := beq_eq_false_iff_ne.2 (by omega)
  have b1 : ((k : Int) == 1) = false := beq_eq_false_iff_ne.2 (by omega)
  have b2 : ((k : Int) == 2) = false := beq_eq_false_iff_ne.2 (by omega)
  have b3 : ((k : Int) == 3) = false := beq_eq_false_iff_ne.2 (by omega)
  have b4 : ((k : Int) == 4) = false := beq_eq_false_iff_ne.2 (by omega)
  have b5 : ((k : Int) == 5) = false := beq_eq_false_iff_ne.2 (by omega)
  go_enter Tryz.func90, Tryz.ntmps90
  go_wp2
  go_ret2
  exact ⟨rfl, (Below.refl _ _).alloc (Nat.le_refl _) _⟩

theorem size_any (s : ByteArray) (k : Nat) (w : World) (hs : s.size ≤ 1000000) (h0 : 0 < s.size) (hk : k ≤ 13) :
    Calls Tryz.prog 90 #[.string s, .int .i64 k] w fun e w' => e = pairI (Lx.sizeOf s.data.toList k) ∧ Below w.heap.size w w' := by
  by_cases h1 : k = 1 ∨ k = 2
  · exact size_quote s k w hs h1
  · by_cases h2 : k = 3 ∨ k = 4 ∨ k = 5
    · exact size_tag s k w hs h0 h2
    · by_cases h3 : k = 0
      · subst h3; exact size_plain s w hs h0
      · exact size_one s k w (by omega) hk
end Go.Proofs.YtmhakkahclbbjaaGreatDoor
