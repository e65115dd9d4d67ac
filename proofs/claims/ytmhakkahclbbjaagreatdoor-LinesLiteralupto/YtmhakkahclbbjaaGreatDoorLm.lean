/-
  Walks of lines: isRight, textOf.
-/
import Derived.Test.YtmhakkahclbbjaaGreatDoorLg
import Derived.Test.YtmhakkahclbbjaaGreatDoorLk
import Derived.Test.YtmhakkahclbbjaaGreatDoorSd
namespace Go.Proofs.YtmhakkahclbbjaaGreatDoor
open Go.RowKit

theorem idx_any (p : Nat → Bool) (s : ByteArray) : ∀ (f pos : Nat), s.size ≤ pos + f → decide (0 ≤ Lib.idxFuncFrom p true s f pos) = (Sc.rns (s.data.toList.drop pos)).any p
  | 0, pos, h => by
    rw [Sc.drop_nil s pos (by omega), Sc.rns_nil]; simp [Lib.idxFuncFrom]
  | f + 1, pos, h => by
    by_cases hp : pos < s.size
    · have hd := dec_pos s pos
      unfold Lib.idxFuncFrom
      rw [if_pos hp, rns_drop s pos hp, List.any_cons]
      cases hpd : p (Utf8.decode s pos).1
      · rw [if_neg (by decide), Bool.false_or]
        exact idx_any p s f _ (by omega)
      · rw [if_pos rfl]; simp
    · rw [Lib.idxFuncFrom_end _ _ _ _ _ hp, Sc.drop_nil s pos (by omega), Sc.rns_nil]; rfl

set_option maxHeartbeats 1000000 in
theorem mayNot_any (r : Int) (w : World) :
    Calls Tryz.prog 71 #[.int .i32 r] w fun e w' => e = .returned (.bool (!Sc.mayB r)) ∧ w = w' := by
  have cM := Lib.hid (fun w => may_any r w)
  generalize Sc.mayB r = M at *
  go_enter Tryz.func71, Tryz.ntmps71
  go_wp2_with (go_at_call 72; refine (cM.out _).mono ?_; rintro e w' ⟨rfl, rfl⟩)
  go_ret
  exact ⟨rfl, rfl⟩
theorem entersR : ∀ args w, (callFunc 71 args).run Tryz.prog w = .ok (.enter 71 args) w := enters_of Tryz.func71 (by kernel_rfl) rfl

theorem any_not (l : List Nat) : l.any (fun r => !Sc.mayB r) = !(l.all fun r => Sc.mayB r) := by
  induction l with
  | nil => rfl
  | cons a t ih => rw [List.any_cons, List.all_cons, ih]; cases Sc.mayB a <;> simp

theorem cont_any (s : ByteArray) (w : World) :
    Calls Tryz.prog 70 #[.string s, .func (.func 71) #[] #[]] w fun e w' => e = .returned (.bool (!((Sc.rns s.data.toList).all fun r => Sc.mayB r))) ∧ Below w.heap.size w w' := by
  refine (Tryz.strings_ContainsFunc_grows 71 #[] entersR (fun r => !Sc.mayB r) s w (fun W x _ _ => ?_)).mono ?_
  · refine (mayNot_any x W).mono ?_
    rintro e w' ⟨rfl, rfl⟩
    exact ⟨rfl, Below.refl _ _⟩
  · rintro e w' ⟨rfl, hb⟩
    refine ⟨ret_bool ?_, hb⟩
    rw [← any_not]
    exact idx_any _ s s.size 0 (by omega)

set_option maxHeartbeats 1000000 in
theorem right_any (s : ByteArray) (w : World) (hs : s.size ≤ 1000000) (hE : Env w) :
    Calls Tryz.prog 47 #[.string s] w fun e w' => e = .returned (.bool (Lx.right s.data.toList)) ∧ Below w.heap.size w w' := by
  have cV := Lib.hid (valid_any s w hs hE)
  have cC := Lib.hid (fun w => cont_any s w)
  unfold Lx.right
  generalize Lib.validD s.data.toList = A at *
  generalize ((Sc.rns s.data.toList).all fun r => Sc.mayB r) = B at *
  cases A
  · go_enter Tryz.func47, Tryz.ntmps47
    go_wp2_with (go_at_call 69; refine cV.out.mono ?_; rintro e w1 ⟨rfl, hb⟩)
    go_ret
    exact ⟨rfl, hb⟩
  · go_enter Tryz.func47, Tryz.ntmps47
    go_wp2_with (first
      | (go_at_call 69; refine cV.out.mono ?_; rintro e w1 ⟨rfl, hb⟩)
      | (go_at_call 70; refine (cC.out _).mono ?_; rintro e w2 ⟨rfl, hb2⟩))
    go_ret
    exact ⟨ret_bool (by simp), bthen hb hb2⟩

theorem bld_below {T e : TypeId} {B b : Nat} {bs : List Value} {w w' : World} (h : Lib.IsBuilder T e B b bs w) (hb : Below w.heap.size w w') : Lib.IsBuilder T e B b bs w' := by
  rcases h with ⟨h1, v, hh, ho, hne⟩ | ⟨h1, v, hh, ho, hne⟩
  · exact .inl ⟨h1, v, (hb.block b (Array.getElem?_eq_some_iff.1 hh).1).trans hh, row_below ho hb, hne⟩
  · exact .inr ⟨h1, v, (hb.block b (Array.getElem?_eq_some_iff.1 hh).1).trans hh, row_below ho hb, hne⟩

namespace Lx
def joinT (a : List UInt8) : Except Nat (List UInt8) → Except Nat (List UInt8)
  | .ok x => .ok (a ++ x)
  | .error e => .error e
theorem joinT_blank (a : List UInt8) (r : Except Nat (List UInt8)) : joinT a (match r with
      | .ok x => .ok (10 :: x)
      | .error e => .error e) = joinT (a ++ [10]) r := by
  cases r <;> simp [joinT]
theorem joinT_text (a p : List UInt8) (r : Except Nat (List UInt8)) : joinT a (match r with
      | .ok x => .ok (p ++ 10 :: x)
      | .error e => .error e) = joinT ((a ++ p) ++ [10]) r := by
  cases r <;> simp [joinT]
end Lx
/-- a text, or an error -/
def txtE : Except Nat (List UInt8) → Ending
  | .ok x => .returned (.tuple #[.string (str x), .int .i64 0])
  | .error e => .returned (.tuple #[.string ⟨#[]⟩, .int .i64 e])
end Go.Proofs.YtmhakkahclbbjaaGreatDoor
