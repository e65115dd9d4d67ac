/-
  The walks of Events, Flow, told.
-/
import Derived.Test.YtjcfmghijfnehaaGreatDoorJw
import Derived.Test.YtjcfmghijfnehaaGreatDoorJh
import Derived.Deep.RegionHeld
namespace Go.Proofs.YtjcfmghijfnehaaGreatDoor
open Go.RowKit
/-- what Events, Flow and Text answer -/
def TextR (B : Nat) : Except Nat (List Ev.E) → Ending → World → Prop
  | .ok es, e, w' => ∃ v, e = .returned (.tuple #[v, .int .i64 0]) ∧ OwnE w' B v es
  | .error n, e, _ => e = .returned (.tuple #[.slice none 0 0, .int .i64 n])
theorem LnAt.mono {w : World} {B C g o : Nat} {x : Lx.Ln} (h : LnAt w B g o x) (hb : B ≤ C) : LnAt w C g o x := by
  obtain ⟨h0, h1, ⟨a, c, h2, h3⟩, h4⟩ := h
  exact ⟨h0, h1, ⟨a, c, h2, h3.mono hb⟩, h4⟩
theorem RdL.mono {w : World} {B C : Nat} {v : Value} {ls : List Lx.Ln} (h : RdL w B v ls) (hb : B ≤ C) : RdL w C v ls := by
  obtain ⟨a, c, hv, hc, h1⟩ := h
  refine ⟨a, c, hv, hc, fun h0 => ?_⟩
  obtain ⟨g, ha, hg, hcl⟩ := h1 h0
  exact ⟨g, ha, Nat.lt_of_lt_of_le hg hb, fun j hj => (hcl j hj).mono hb⟩
theorem events1_any (b : Nat) (v : Value) (ls : List Lx.Ln) (w : World) (hc : w.cell? ⟨b, 0, none⟩ = some v) (hL : RdL w w.heap.size v ls) (hl : lnsW ls ≤ 2199023255000) :
    Calls Tryz.prog 34 #[.pointer (some ⟨b, 0, none⟩)] w fun e w' => DocR w.heap.size (Px.events ls) e w' ∧ Below w.heap.size w w' := by
  have cD := documents_any v ls w hL hl
  cases hx : Px.events ls with
  | error n =>
    rw [hx] at cD
    unfold DocR fault at cD
    go_enter Tryz.func34, Tryz.ntmps34
    go_wp2_with (go_at_call 35; refine cD.mono ?_; rintro e w1 ⟨rfl, hb⟩)
    exact ⟨rfl, rfl, hb⟩
  | ok es =>
    rw [hx] at cD
    unfold DocR at cD
    go_enter Tryz.func34, Tryz.ntmps34
    go_wp2_with (go_at_call 35; refine cD.mono ?_; rintro e w1 ⟨⟨u, rfl, ho⟩, hb⟩)
    go_ret
    exact ⟨⟨u, rfl, ho⟩, hb⟩
theorem flow1_any (b : Nat) (v : Value) (ws : List Lx.Wd) (w : World) (hc : w.cell? ⟨b, 0, none⟩ = some v) (hW : RdW w w.heap.size v ws) (hl : 2 * ws.length ≤ 2199023255480) :
    Calls Tryz.prog 50 #[.pointer (some ⟨b, 0, none⟩)] w fun e w' => FlowR w.heap.size (Px.flowOf ws 0) e w' ∧ Below w.heap.size w w' := by
  have cD := flowOf_any v ws 0 w hW (by decide) hl
  cases hx : Px.flowOf ws 0 with
  | error n =>
    rw [hx] at cD
    unfold FlowR fault at cD
    go_enter Tryz.func50, Tryz.ntmps50
    go_wp2_with (go_at_call 51; refine cD.mono ?_; rintro e w1 ⟨rfl, hb⟩)
    exact ⟨rfl, rfl, hb⟩
  | ok es =>
    rw [hx] at cD
    unfold FlowR at cD
    go_enter Tryz.func50, Tryz.ntmps50
    go_wp2_with (go_at_call 51; refine cD.mono ?_; rintro e w1 ⟨⟨u, rfl, ho⟩, hb⟩)
    go_ret
    exact ⟨⟨u, rfl, ho⟩, hb⟩
theorem bnew2 (w : World) (o p : Obj) : Below w.heap.size w ((w.alloc o).alloc p) := bthen (bnew w o) (bnew _ p)
theorem two_new (w : World) (o p : Obj) : ((w.alloc o).alloc p).heap[w.heap.size]? = some o ∧ ((w.alloc o).alloc p).heap[w.heap.size + 1]? = some p :=
  ⟨new_blk _ o p _ (alloc_blk w o), new_at _ p _ (by rw [World.size_alloc])⟩
/-- the two results' variables, behind a call -/
theorem two_vars {w w1 : World} {c d : Array Value} {t u : TypeId} (h : Below ((w.alloc (.cells c t)).alloc (.cells d u)).heap.size ((w.alloc (.cells c t)).alloc (.cells d u)) w1) :
    w1.heap[w.heap.size]? = some (.cells c t) ∧ w1.heap[w.heap.size + 1]? = some (.cells d u) :=
  ⟨blk_below (two_new w _ _).1 h, blk_below (two_new w _ _).2 h⟩
theorem two_size (w : World) (o p : Obj) : ((w.alloc o).alloc p).heap.size = w.heap.size + 2 := by rw [World.size_alloc, World.size_alloc]
theorem told_below {w w1 : World} {o p : Obj} (h : Below ((w.alloc o).alloc p).heap.size ((w.alloc o).alloc p) w1) (a b : Value) : Below w.heap.size w ((w1.setCell ⟨w.heap.size, 0, none⟩ a).setCell ⟨w.heap.size + 1, 0, none⟩ b) :=
  Below.setCell (p := ⟨w.heap.size + 1, 0, none⟩) (Below.setCell (p := ⟨w.heap.size, 0, none⟩) ((bnew2 w o p).trans (h.mono (by rw [two_size]; omega))) (Nat.le_refl _) a) (Nat.le_succ _) b
theorem told_row {w w1 : World} {o p : Obj} {v : Value} {es : List Ev.E} (h : OwnE w1 ((w.alloc o).alloc p).heap.size v es) (a b : Value) : OwnE ((w1.setCell ⟨w.heap.size, 0, none⟩ a).setCell ⟨w.heap.size + 1, 0, none⟩ b) w.heap.size v es := by
  rw [two_size] at h
  have h1 := row_setCell h ⟨w.heap.size, 0, none⟩ a (fun e => by have := (World.ownsRow.lt h _ e).1; simp only at this; omega)
  have h2 := row_setCell h1 ⟨w.heap.size + 1, 0, none⟩ b (fun e => by have := (World.ownsRow.lt h1 _ e).1; simp only at this; omega)
  exact row_base h2 (by omega)
set_option maxHeartbeats 3000000 in
theorem told_events (b : Nat) (v : Value) (ls : List Lx.Ln) (w : World) (hb : b < w.heap.size) (hc : w.cell? ⟨b, 0, none⟩ = some v) (hL : RdL w w.heap.size v ls) (hl : lnsW ls ≤ 2199023255000) :
    Calls Tryz.prog 33 #[.func (.func 34) #[] #[.pointer (some ⟨b, 0, none⟩)]] w fun e w' => TextR w.heap.size (Px.events ls) e w' ∧ Below w.heap.size w w' := by
  have hmf : ∀ (fn : Fn) (first cap : Array Value) (w : World), (Instr.makeFunc fn first cap).run Tryz.prog w = .ok (.func fn first cap) w := fun _ _ _ _ => rfl
  have CE := Lib.hid (fun w1 (hk : Below w.heap.size w w1) => events1_any b v ls w1 ((hk.cell (p := ⟨b, 0, none⟩) hb).trans hc) ((hL.below hk).mono hk.size) hl)
  clear hc hL hl
  cases hx : Px.events ls with
  | error n =>
    rw [hx] at CE
    unfold DocR fault at CE
    go_enter_defers Tryz.func33, Tryz.ntmps33
    go_wp2_with (go_at_call 34; refine (CE.out _ (bnew2 w _ _)).mono ?_; rintro e w1 ⟨rfl, hb1⟩; obtain ⟨k0, k1⟩ := two_vars hb1)
    have c0 := cell_blk k0 0 (.slice none 0 0) rfl
    have c1 := cell_blk k1 0 (.int .i64 0) rfl
    have f0 := frozen_blk k0 0
    have f1 := frozen_blk k1 0
    refine leaves_cons (f := 66) (args := #[.pointer (some ⟨w.heap.size, 0, none⟩), .pointer (some ⟨w.heap.size + 1, 0, none⟩)]) (by simp) (by simp [go_sem]) ?_
    refine (told_panicking ⟨w.heap.size, 0, none⟩ ⟨w.heap.size + 1, 0, none⟩ n _ _ [] w1 c0 f0 c1 f1 (by simp)).mono ?_
    rintro e u' w'' ⟨rfl, rfl, rfl⟩
    have c0' : (w1.setCell ⟨w.heap.size, 0, none⟩ (.slice none 0 0)).cell? ⟨w.heap.size, 0, none⟩ = some (.slice none 0 0) := World.cell?_setCell_same _ _ _ c0
    have c1' : ((w1.setCell ⟨w.heap.size, 0, none⟩ (.slice none 0 0)).setCell ⟨w.heap.size + 1, 0, none⟩ (.int .i64 n)).cell? ⟨w.heap.size + 1, 0, none⟩ = some (.int .i64 n) := World.cell?_setCell_same _ _ _ (u := .int .i64 0) ((World.cell?_setCell_far _ _ _ _ (by simp)).trans c1)
    simp [Leaves, settle, results, Tryz.results33, go_sem, c0', c1']
    exact ⟨rfl, told_below hb1 _ _⟩
  | ok es =>
    rw [hx] at CE
    unfold DocR at CE
    go_enter_defers Tryz.func33, Tryz.ntmps33
    go_wp2_with (go_at_call 34; refine (CE.out _ (bnew2 w _ _)).mono ?_; rintro e w1 ⟨⟨u, rfl, ho⟩, hb1⟩; obtain ⟨k0, k1⟩ := two_vars hb1; obtain ⟨ua, uc, rfl⟩ := own_slice ho; have HO := Lib.hid ho; clear ho; have c0 := cell_blk k0 0 (.slice none 0 0) rfl; have c1 := cell_blk k1 0 (.int .i64 0) rfl; have f0 := frozen_blk k0 0; have f1 := frozen_blk k1 0)
    refine leaves_cons (f := 66) (args := #[.pointer (some ⟨w.heap.size, 0, none⟩), .pointer (some ⟨w.heap.size + 1, 0, none⟩)]) (by simp) (by simp [go_sem]) ?_
    refine (told_idle ⟨w.heap.size, 0, none⟩ ⟨w.heap.size + 1, 0, none⟩ _).mono ?_
    rintro e u' w'' ⟨rfl, rfl, rfl⟩
    have c0' : (w1.setCell ⟨w.heap.size, 0, none⟩ (.slice ua es.length uc)).cell? ⟨w.heap.size, 0, none⟩ = some (.slice ua es.length uc) := World.cell?_setCell_same _ _ _ c0
    have c1' : ((w1.setCell ⟨w.heap.size, 0, none⟩ (.slice ua es.length uc)).setCell ⟨w.heap.size + 1, 0, none⟩ (.int .i64 0)).cell? ⟨w.heap.size + 1, 0, none⟩ = some (.int .i64 0) := World.cell?_setCell_same _ _ _ (u := .int .i64 0) ((World.cell?_setCell_far _ _ _ _ (by simp)).trans c1)
    simp [Leaves, settle, results, Tryz.results33, go_sem, c0', c1']
    exact ⟨⟨_, rfl, told_row HO.out _ _⟩, told_below hb1 _ _⟩
set_option maxHeartbeats 3000000 in
theorem told_flow (b : Nat) (v : Value) (ws : List Lx.Wd) (w : World) (hb : b < w.heap.size) (hc : w.cell? ⟨b, 0, none⟩ = some v) (hL : RdW w w.heap.size v ws) (hl : 2 * ws.length ≤ 2199023255480) :
    Calls Tryz.prog 33 #[.func (.func 50) #[] #[.pointer (some ⟨b, 0, none⟩)]] w fun e w' => TextR w.heap.size (Px.flowOf ws 0) e w' ∧ Below w.heap.size w w' := by
  have hmf : ∀ (fn : Fn) (first cap : Array Value) (w : World), (Instr.makeFunc fn first cap).run Tryz.prog w = .ok (.func fn first cap) w := fun _ _ _ _ => rfl
  have CE := Lib.hid (fun w1 (hk : Below w.heap.size w w1) => flow1_any b v ws w1 ((hk.cell (p := ⟨b, 0, none⟩) hb).trans hc) ((hL.below hk).mono hk.size) hl)
  clear hc hL hl
  cases hx : Px.flowOf ws 0 with
  | error n =>
    rw [hx] at CE
    unfold FlowR fault at CE
    go_enter_defers Tryz.func33, Tryz.ntmps33
    go_wp2_with (go_at_call 50; refine (CE.out _ (bnew2 w _ _)).mono ?_; rintro e w1 ⟨rfl, hb1⟩; obtain ⟨k0, k1⟩ := two_vars hb1)
    have c0 := cell_blk k0 0 (.slice none 0 0) rfl
    have c1 := cell_blk k1 0 (.int .i64 0) rfl
    have f0 := frozen_blk k0 0
    have f1 := frozen_blk k1 0
    refine leaves_cons (f := 66) (args := #[.pointer (some ⟨w.heap.size, 0, none⟩), .pointer (some ⟨w.heap.size + 1, 0, none⟩)]) (by simp) (by simp [go_sem]) ?_
    refine (told_panicking ⟨w.heap.size, 0, none⟩ ⟨w.heap.size + 1, 0, none⟩ n _ _ [] w1 c0 f0 c1 f1 (by simp)).mono ?_
    rintro e u' w'' ⟨rfl, rfl, rfl⟩
    have c0' : (w1.setCell ⟨w.heap.size, 0, none⟩ (.slice none 0 0)).cell? ⟨w.heap.size, 0, none⟩ = some (.slice none 0 0) := World.cell?_setCell_same _ _ _ c0
    have c1' : ((w1.setCell ⟨w.heap.size, 0, none⟩ (.slice none 0 0)).setCell ⟨w.heap.size + 1, 0, none⟩ (.int .i64 n)).cell? ⟨w.heap.size + 1, 0, none⟩ = some (.int .i64 n) := World.cell?_setCell_same _ _ _ (u := .int .i64 0) ((World.cell?_setCell_far _ _ _ _ (by simp)).trans c1)
    simp [Leaves, settle, results, Tryz.results33, go_sem, c0', c1']
    exact ⟨rfl, told_below hb1 _ _⟩
  | ok es =>
    rw [hx] at CE
    unfold FlowR at CE
    go_enter_defers Tryz.func33, Tryz.ntmps33
    go_wp2_with (go_at_call 50; refine (CE.out _ (bnew2 w _ _)).mono ?_; rintro e w1 ⟨⟨u, rfl, ho⟩, hb1⟩; obtain ⟨k0, k1⟩ := two_vars hb1; obtain ⟨ua, uc, rfl⟩ := own_slice ho; have HO := Lib.hid ho; clear ho; have c0 := cell_blk k0 0 (.slice none 0 0) rfl; have c1 := cell_blk k1 0 (.int .i64 0) rfl; have f0 := frozen_blk k0 0; have f1 := frozen_blk k1 0)
    refine leaves_cons (f := 66) (args := #[.pointer (some ⟨w.heap.size, 0, none⟩), .pointer (some ⟨w.heap.size + 1, 0, none⟩)]) (by simp) (by simp [go_sem]) ?_
    refine (told_idle ⟨w.heap.size, 0, none⟩ ⟨w.heap.size + 1, 0, none⟩ _).mono ?_
    rintro e u' w'' ⟨rfl, rfl, rfl⟩
    have c0' : (w1.setCell ⟨w.heap.size, 0, none⟩ (.slice ua es.length uc)).cell? ⟨w.heap.size, 0, none⟩ = some (.slice ua es.length uc) := World.cell?_setCell_same _ _ _ c0
    have c1' : ((w1.setCell ⟨w.heap.size, 0, none⟩ (.slice ua es.length uc)).setCell ⟨w.heap.size + 1, 0, none⟩ (.int .i64 0)).cell? ⟨w.heap.size + 1, 0, none⟩ = some (.int .i64 0) := World.cell?_setCell_same _ _ _ (u := .int .i64 0) ((World.cell?_setCell_far _ _ _ _ (by simp)).trans c1)
    simp [Leaves, settle, results, Tryz.results33, go_sem, c0', c1']
    exact ⟨⟨_, rfl, told_row HO.out _ _⟩, told_below hb1 _ _⟩
end Go.Proofs.YtjcfmghijfnehaaGreatDoor
