/-
  The laws' 'alive': answers that the document fixes.
-/
import Derived.Test.YtjcfmghijfnehaaGreatDoorJy
import Derived.Deep.DeepFit
namespace Go.Proofs.YtjcfmghijfnehaaGreatDoor
def plA : List UInt8 := [97, 58, 32, 91, 98, 44, 32, 99, 93]
def plB : List UInt8 := [97, 58, 32, 98, 10, 32, 32, 99, 58, 32, 100]
def plC : List UInt8 := [97, 58, 32, 98, 58, 32, 99]
def plE : List Ev.E := [⟨0, [], [], [], false⟩, ⟨4, [], [], [], false⟩, ⟨6, [], [], [97], true⟩, ⟨2, [], [], [], false⟩, ⟨6, [], [], [98], true⟩, ⟨6, [], [], [99], true⟩, ⟨3, [], [], [], false⟩, ⟨5, [], [], [], false⟩, ⟨1, [], [], [], false⟩]
theorem pl_a : Px.text plA = .ok plE := by kernel_rfl
theorem pl_b : Px.text plB = .error 9 := by kernel_rfl
theorem pl_c : Px.text plC = .error 5 := by kernel_rfl
theorem pl_f : Px.flowOf [⟨0, [120], 0⟩] 0 = .ok [⟨6, [], [], [120], true⟩] := by kernel_rfl
open Go.RowKit
/-- what is told of the first text -/
def PlA (e : Ending) (w' : World) : Prop := ∃ g c, e = .returned (.tuple #[.slice (some ⟨g, 0, none⟩) 9 c, .int .i64 0]) ∧ 9 ≤ c ∧ g < w'.heap.size ∧ w'.cell? ⟨g, 5, none⟩ = some (.int .i64 4) ∧ w'.cell? ⟨g, 28, none⟩ = some (.string ⟨#[99]⟩)
theorem pl_A (w : World) (hE : Env w) : Calls Tryz.prog 11 #[.string ⟨#[97, 58, 32, 91, 98, 44, 32, 99, 93]⟩] w fun e w' => PlA e w' ∧ Below w.heap.size w w' := by
  have c1 := textP_any (str plA) w (by decide) hE
  have e1 : (str plA).data.toList = plA := rfl
  rw [e1, pl_a] at c1
  refine c1.mono ?_
  rintro e w1 ⟨⟨v, rfl, hv⟩, hb1⟩
  refine ⟨?_, hb1⟩
  obtain ⟨g, c, rfl, hc, hg, _, hn⟩ := ownE_form hv (by decide)
  have h5 := hn 5 (.int .i64 4) rfl
  have h28 := hn 28 (.string (str [99])) rfl
  rw [Addr.add_lit] at h5 h28
  exact ⟨g, c, rfl, hc, hg, h5, h28⟩
theorem pl_B (w : World) (hE : Env w) : Calls Tryz.prog 11 #[.string ⟨#[97, 58, 32, 98, 10, 32, 32, 99, 58, 32, 100]⟩] w fun e w' => e = .returned (.tuple #[.slice none 0 0, .int .i64 9]) ∧ Below w.heap.size w w' := by
  have c1 := textP_any (str plB) w (by decide) hE
  have e1 : (str plB).data.toList = plB := rfl
  rw [e1, pl_b] at c1
  exact c1
theorem pl_C (w : World) (hE : Env w) : Calls Tryz.prog 11 #[.string ⟨#[97, 58, 32, 98, 58, 32, 99]⟩] w fun e w' => e = .returned (.tuple #[.slice none 0 0, .int .i64 5]) ∧ Below w.heap.size w w' := by
  have c1 := textP_any (str plC) w (by decide) hE
  have e1 : (str plC).data.toList = plC := rfl
  rw [e1, pl_c] at c1
  exact c1
theorem pl_F (w : World) : Calls Tryz.prog 24 #[.slice (some ⟨w.heap.size, 0, none⟩) 1 1] (w.alloc (.cells #[.int .i64 0, .string ⟨#[120]⟩, .int .i64 0] 56)) fun e w' => (∃ a c, e = .returned (.tuple #[.slice a 1 c, .int .i64 0])) ∧ Below w.heap.size w w' := by
  have hW : RdW (w.alloc (.cells #[.int .i64 0, .string ⟨#[120]⟩, .int .i64 0] 56)) (w.alloc (.cells #[.int .i64 0, .string ⟨#[120]⟩, .int .i64 0] 56)).heap.size (.slice (some ⟨w.heap.size, 0, none⟩) 1 1) [⟨0, [120], 0⟩] := by
    refine ⟨_, 1, rfl, Nat.le_refl _, fun _ => ⟨w.heap.size, 0, rfl, by rw [World.size_alloc]; omega, fun j hj => ?_⟩⟩
    have hj' : j < 1 := hj
    obtain rfl : j = 0 := by omega
    exact ⟨cell_blk (alloc_blk w _) 0 _ rfl, cell_blk (alloc_blk w _) 1 _ rfl, cell_blk (alloc_blk w _) 2 _ rfl⟩
  have c1 := flowP_any _ _ _ hW (by decide)
  rw [pl_f] at c1
  refine c1.mono ?_
  rintro e w1 ⟨⟨v, rfl, hv⟩, hb1⟩
  obtain ⟨a, c, rfl⟩ := own_slice hv
  exact ⟨⟨a, c, rfl⟩, (bnew w _).trans (hb1.mono (by rw [World.size_alloc]; omega))⟩

set_option maxHeartbeats 2000000 in
set_option maxRecDepth 100000 in
theorem palive_any (w : World) (hE : Env w) :
    Calls Tryz.prog 10 #[] w fun e w' => e = .returned (.bool true) ∧ Below w.heap.size w w' := by
  have c1 := Lib.hid (pl_A w hE)
  have c2 := Lib.hid (fun w hE => pl_B w hE)
  have c3 := Lib.hid (fun w hE => pl_C w hE)
  have c4 := Lib.hid (fun w => pl_F w)
  have HE := Lib.hid hE
  clear hE
  go_enter Tryz.func10, Tryz.ntmps10
  go_wp2_with (first
    | (go_at_call 11; go_fit c1.out; rintro e w1 ⟨⟨g, c, rfl, hc, hg, d1, d2⟩, hb1⟩; have c2' := Lib.hid (c2.out _ (HE.out.below hb1)))
    | (go_at_call 11; go_fit c2'.out; rintro e w2 ⟨rfl, hb2⟩; have f1 := (hb2.cell (p := ⟨g, 5, none⟩) hg).trans d1; have f2 := (hb2.cell (p := ⟨g, 28, none⟩) hg).trans d2; have hg2 := Nat.lt_of_lt_of_le hg hb2.size; clear d1 d2; have hb2' := bthen hb1 hb2; have c3' := Lib.hid (c3.out _ (HE.out.below hb2')))
    | (go_at_call 11; go_fit c3'.out; rintro e w3 ⟨rfl, hb3⟩; have d1 := (hb3.cell (p := ⟨g, 5, none⟩) hg2).trans f1; have d2 := (hb3.cell (p := ⟨g, 28, none⟩) hg2).trans f2; have hg3 := Nat.lt_of_lt_of_le hg2 hb3.size; clear f1 f2; have c4' := Lib.hid (c4.out w3))
    | (go_at_call 24; go_fit c4'.out; rintro e w4 ⟨⟨a, k, rfl⟩, hb4⟩; have f1 := (hb4.cell (p := ⟨g, 5, none⟩) hg3).trans d1; have f2 := (hb4.cell (p := ⟨g, 28, none⟩) hg3).trans d2; clear d1 d2))
  go_ret
  exact ⟨rfl, bthen (bthen hb2' hb3) hb4⟩
end Go.Proofs.YtjcfmghijfnehaaGreatDoor
