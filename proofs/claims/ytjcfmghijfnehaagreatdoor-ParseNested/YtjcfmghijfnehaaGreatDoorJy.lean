/-
  The walks of Events, Flow, Text.
-/
import Derived.Test.YtjcfmghijfnehaaGreatDoorJx
import Derived.Test.YtjcfmghijfnehaaGreatDoorKh
namespace Go.Proofs.YtjcfmghijfnehaaGreatDoor
open Go.RowKit
set_option maxHeartbeats 1000000 in
theorem events_any (v : Value) (ls : List Lx.Ln) (w : World) (hL : RdL w w.heap.size v ls) (hl : lnsW ls ≤ 2199023255000) :
    Calls Tryz.prog 16 #[v] w fun e w' => TextR w.heap.size (Px.events ls) e w' ∧ Below w.heap.size w w' := by
  have hmf : ∀ (fn : Fn) (first cap : Array Value) (w : World), (Instr.makeFunc fn first cap).run Tryz.prog w = .ok (.func fn first cap) w := fun _ _ _ _ => rfl
  have CT := Lib.hid (told_events w.heap.size v ls (w.alloc (.cells #[v] 36)) (by rw [World.size_alloc]; omega) (cell_blk (alloc_blk w _) 0 v rfl) ((hL.below (bnew w _)).mono (by rw [World.size_alloc]; omega)) hl)
  obtain ⟨va, vc, rfl, _, _⟩ := hL
  cases hx : Px.events ls with
  | error n =>
    rw [hx] at CT
    unfold TextR at CT
    go_enter Tryz.func16, Tryz.ntmps16
    go_wp2_with (go_at_call 33; refine (CT.out).mono ?_; rintro e w1 ⟨rfl, hb1⟩)
    go_ret2
    exact ⟨rfl, (bnew w _).trans (hb1.mono (by rw [World.size_alloc]; omega))⟩
  | ok es =>
    rw [hx] at CT
    unfold TextR at CT
    go_enter Tryz.func16, Tryz.ntmps16
    go_wp2_with (go_at_call 33; refine (CT.out).mono ?_; rintro e w1 ⟨⟨u, rfl, ho⟩, hb1⟩)
    go_ret2
    exact ⟨⟨u, rfl, row_base ho (by rw [World.size_alloc]; omega)⟩, (bnew w _).trans (hb1.mono (by rw [World.size_alloc]; omega))⟩
set_option maxHeartbeats 1000000 in
theorem flowP_any (v : Value) (ws : List Lx.Wd) (w : World) (hL : RdW w w.heap.size v ws) (hl : 2 * ws.length ≤ 2199023255480) :
    Calls Tryz.prog 24 #[v] w fun e w' => TextR w.heap.size (Px.flowOf ws 0) e w' ∧ Below w.heap.size w w' := by
  have hmf : ∀ (fn : Fn) (first cap : Array Value) (w : World), (Instr.makeFunc fn first cap).run Tryz.prog w = .ok (.func fn first cap) w := fun _ _ _ _ => rfl
  have CT := Lib.hid (told_flow w.heap.size v ws (w.alloc (.cells #[v] 49)) (by rw [World.size_alloc]; omega) (cell_blk (alloc_blk w _) 0 v rfl) ((hL.below (bnew w _)).mono (by rw [World.size_alloc]; omega)) hl)
  obtain ⟨va, vc, rfl, _, _⟩ := hL
  cases hx : Px.flowOf ws 0 with
  | error n =>
    rw [hx] at CT
    unfold TextR at CT
    go_enter Tryz.func24, Tryz.ntmps24
    go_wp2_with (go_at_call 33; refine (CT.out).mono ?_; rintro e w1 ⟨rfl, hb1⟩)
    go_ret2
    exact ⟨rfl, (bnew w _).trans (hb1.mono (by rw [World.size_alloc]; omega))⟩
  | ok es =>
    rw [hx] at CT
    unfold TextR at CT
    go_enter Tryz.func24, Tryz.ntmps24
    go_wp2_with (go_at_call 33; refine (CT.out).mono ?_; rintro e w1 ⟨⟨u, rfl, ho⟩, hb1⟩)
    go_ret2
    exact ⟨⟨u, rfl, row_base ho (by rw [World.size_alloc]; omega)⟩, (bnew w _).trans (hb1.mono (by rw [World.size_alloc]; omega))⟩
set_option maxHeartbeats 1000000 in
theorem textP_any (s : ByteArray) (w : World) (hs : s.size ≤ 50000) (hE : Env w) :
    Calls Tryz.prog 11 #[.string s] w fun e w' => TextR w.heap.size (Px.text s.data.toList) e w' ∧ Below w.heap.size w w' := by
  have cR := Lib.hid (readLoop s w hs hE)
  cases hr : Lx.read s.data.toList with
  | error n =>
    rw [hr] at cR
    have hT : Px.text s.data.toList = .error n := by unfold Px.text; rw [hr]
    rw [hT]
    clear hT
    have hn := Lx.read_err _ _ hr
    have bn : ((n : Int) != 0) = true := bne_iff_ne.2 (by omega)
    go_enter Tryz.func11, Tryz.ntmps11
    go_wp2_with (go_at_call 26; refine (cR.out).mono ?_; rintro e w1 ⟨hq, hb1⟩; obtain rfl := hq)
    go_ret2
    exact ⟨rfl, hb1⟩
  | ok ls =>
    rw [hr] at cR
    have hT : Px.text s.data.toList = Px.events ls := by unfold Px.text; rw [hr]
    rw [hT]
    clear hT
    have hw := (Px.read_gy _ _ hr).2
    rw [ba_len] at hw
    have CE := Lib.hid (fun v w1 (h : RdL w1 w1.heap.size v ls) => events_any v ls w1 h (by omega))
    cases hx : Px.events ls with
    | error n =>
      rw [hx] at CE
      unfold TextR at CE
      go_enter Tryz.func11, Tryz.ntmps11
      go_wp2_with (first
        | (go_at_call 26; refine (cR.out).mono ?_; rintro e w1 ⟨⟨v, rfl, hv⟩, hb1⟩)
        | (go_at_call 16; refine (CE.out _ _ (rowL_rd hv)).mono ?_; rintro e w2 ⟨rfl, hb2⟩))
      go_ret2
      exact ⟨rfl, bthen hb1 hb2⟩
    | ok es =>
      rw [hx] at CE
      unfold TextR at CE
      go_enter Tryz.func11, Tryz.ntmps11
      go_wp2_with (first
        | (go_at_call 26; refine (cR.out).mono ?_; rintro e w1 ⟨⟨v, rfl, hv⟩, hb1⟩)
        | (go_at_call 16; refine (CE.out _ _ (rowL_rd hv)).mono ?_; rintro e w2 ⟨⟨u, rfl, ho⟩, hb2⟩))
      go_ret2
      exact ⟨⟨u, rfl, row_base ho hb1.size⟩, bthen hb1 hb2⟩
end Go.Proofs.YtjcfmghijfnehaaGreatDoor
