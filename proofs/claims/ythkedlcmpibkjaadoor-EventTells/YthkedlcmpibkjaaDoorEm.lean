/-
  The walk of eventOf.
-/
import Derived.Test.YthkedlcmpibkjaaDoorEl
namespace Go.Proofs.YthkedlcmpibkjaaDoor
namespace Ev
def eventFrom (l : List UInt8) : Nat → Option E
  | 0 => none
  | n + 1 => if Lib.hasPrefix l (sign (7 - n)) then some (fill ((7 - n : Nat) : Int) (Lib.trimPrefix l (sign (7 - n)))) else eventFrom l n
/-- the event of a line -/
def eventOf (l : List UInt8) : Option E := eventFrom l 8
theorem eventFrom_step (l : List UInt8) (j : Nat) (h : j < 8) : eventFrom l (8 - j) = if Lib.hasPrefix l (sign j) then some (fill (j : Int) (Lib.trimPrefix l (sign j))) else eventFrom l (8 - (j + 1)) := by
  obtain ⟨n, hn⟩ : ∃ n, 8 - j = n + 1 := ⟨7 - j, by omega⟩
  rw [hn]
  have e : 7 - n = j := by omega
  have e' : 8 - (j + 1) = n := by omega
  rw [e']
  conv => lhs; unfold eventFrom
  rw [e]
def zero : E := ⟨0, [], [], [], false⟩
end Ev
open Go.RowKit
def evE (o : Option Ev.E) : Ending := .returned (.tuple #[evV (o.getD Ev.zero), .bool o.isSome])
theorem sign_ix : ∀ (k : Fin 8) (w : World), (Instr.index 61 (.agg signCells) (.int .i64 (k.val : Int))).run Tryd.prog w = .ok (.string (str (Ev.sign k.val))) w := by
  intro k w
  match k with
  | ⟨0, _⟩ => exact (show (Instr.index 61 (.agg signCells) (.int .i64 0)).run Tryd.prog w = .ok (.string (str (Ev.sign 0))) w from by kernel_rfl)
  | ⟨1, _⟩ => exact (show (Instr.index 61 (.agg signCells) (.int .i64 1)).run Tryd.prog w = .ok (.string (str (Ev.sign 1))) w from by kernel_rfl)
  | ⟨2, _⟩ => exact (show (Instr.index 61 (.agg signCells) (.int .i64 2)).run Tryd.prog w = .ok (.string (str (Ev.sign 2))) w from by kernel_rfl)
  | ⟨3, _⟩ => exact (show (Instr.index 61 (.agg signCells) (.int .i64 3)).run Tryd.prog w = .ok (.string (str (Ev.sign 3))) w from by kernel_rfl)
  | ⟨4, _⟩ => exact (show (Instr.index 61 (.agg signCells) (.int .i64 4)).run Tryd.prog w = .ok (.string (str (Ev.sign 4))) w from by kernel_rfl)
  | ⟨5, _⟩ => exact (show (Instr.index 61 (.agg signCells) (.int .i64 5)).run Tryd.prog w = .ok (.string (str (Ev.sign 5))) w from by kernel_rfl)
  | ⟨6, _⟩ => exact (show (Instr.index 61 (.agg signCells) (.int .i64 6)).run Tryd.prog w = .ok (.string (str (Ev.sign 6))) w from by kernel_rfl)
  | ⟨7, _⟩ => exact (show (Instr.index 61 (.agg signCells) (.int .i64 7)).run Tryd.prog w = .ok (.string (str (Ev.sign 7))) w from by kernel_rfl)
theorem sign_size : (Tryd.prog.info? 61).map (·.size) = some signCells.size := by kernel_rfl

set_option maxHeartbeats 2000000 in
set_option maxRecDepth 100000 in
theorem eventOf_any (l : List UInt8) (w : World) (hl : l.length ≤ 50000) (hE : Env w) :
    Calls Tryd.prog 31 #[.string (str l)] w fun e w' => e = evE (Ev.eventOf l) ∧ Below w.heap.size w w' := by
  obtain ⟨ANS, hANS⟩ : ∃ ANS, Ev.eventOf l = ANS := ⟨_, rfl⟩
  rw [hANS]
  have HA : Hid (Ev.eventFrom l (8 - 0) = ANS) := hANS
  clear hANS
  have hE1 := hE.below (bnew w (.cells #[.int .i64 0, .string ⟨#[]⟩, .string ⟨#[]⟩, .string ⟨#[]⟩, .bool false] 39))
  obtain ⟨t2, fr2, h2⟩ := hE1.signs
  have HE := Lib.hid hE1
  clear hE hE1
  go_enter Tryd.func31, Tryd.ntmps31
  go_wp2_with (refine wpList_load_row rfl 61 _ rfl 0 rfl t2 _ fr2 _ h2 Tryd.underlying61 rfl sign_size ?_)
  go_loopw [9] (fun i wr => ∃ j : Nat, j ≤ 8 ∧ i = .int .i64 j ∧ Hid (Ev.eventFrom l (8 - j) = ANS) ∧ wr = w.alloc (.cells #[.int .i64 0, .string ⟨#[]⟩, .string ⟨#[]⟩, .string ⟨#[]⟩, .bool false] 39)) (fun i _ => 8 - (intOf i).toNat)
  case atStart => exact ⟨0, by omega, rfl, HA, rfl⟩
  case round =>
    obtain ⟨j, hj, rfl, HK, rfl⟩ := hrel
    clear h2 HA
    by_cases hlt : j < 8
    · have hix := sign_ix ⟨j, hlt⟩
      simp only at hix
      have hK := HK.out
      rw [Ev.eventFrom_step l j hlt] at hK
      have cP := fun w => cutpS l (str (Ev.sign j)) w
      rw [str_dat] at cP
      have htl := Lib.trimPrefix_le l (Ev.sign j)
      clear HK
      cases hp : Lib.hasPrefix l (Ev.sign j)
      · rw [hp, if_neg (by decide)] at hK
        rw [hp] at cP
        have HN : Hid (Ev.eventFrom l (8 - (j + 1)) = ANS) := hK
        have CP := Lib.hid cP
        clear hK cP hp
        generalize str (Ev.sign j) = S at *
        go_wp2_with (go_at_call 45; refine (CP.out _).mono ?_; rintro e w' ⟨rfl, rfl⟩)
        go_roundw
        case rel => exact ⟨j + 1, by omega, by go_num, HN, trivial⟩
        case measure => simp [intOf]; omega
      · rw [hp, if_pos rfl] at hK
        rw [hp] at cP
        have HX : Hid (some (Ev.fill (j : Int) (Lib.trimPrefix l (Ev.sign j))) = ANS) := hK
        clear hK
        have CP := Lib.hid cP
        clear cP hp
        generalize Lib.trimPrefix l (Ev.sign j) = R at *
        have cF := Lib.hid (fun w hE => filled_any (j : Int) R w (by omega) hE)
        generalize Ev.fill (j : Int) R = x at *
        generalize str (Ev.sign j) = S at *
        unfold evV at cF
        go_wp2_with (first
          | (go_at_call 45; refine (CP.out _).mono ?_; rintro e w' ⟨rfl, rfl⟩)
          | (go_at_call 46; refine (cF.out _ HE.out).mono ?_; rintro e w2 ⟨rfl, hb2⟩; have hR := blk_below (alloc_blk w _) hb2; obtain ⟨⟨r0, r1, r2, r3, r4⟩, q0, q1, q2, q3, q4⟩ := five hR))
        refine bodyPost_ret (v := .tuple #[.agg #[.int .i64 x.kind, .string (str x.anchor), .string (str x.tag), .string (str x.text), .bool x.plain], .bool true]) (by simp [results, go_sem, r0, r1, r2, r3, r4]) rfl ?_
        refine ⟨(by rw [← HX.out]; rfl), ?_⟩
        repeat (refine Below.setCell ?_ (by first | exact Nat.le_refl _ | exact Nat.le_succ _) _)
        exact bthen (bnew w _) hb2
    · obtain rfl : j = 8 := by omega
      have hK := HK.out
      have hN : ANS = none := by rw [← hK]; rfl
      subst hN
      clear hK HK
      go_wp2
      refine bodyPost_ret (v := .tuple #[.agg #[.int .i64 0, .string ⟨#[]⟩, .string ⟨#[]⟩, .string ⟨#[]⟩, .bool false], .bool false]) (by simp [results, go_sem]) rfl ?_
      exact ⟨rfl, bnew w _⟩
end Go.Proofs.YthkedlcmpibkjaaDoor
