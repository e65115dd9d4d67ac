/-
  PROVED: the statement FlattenAnchors of this seat's table, as a tied card: whatever comes in, the law's call returns true, and what came in reads as before. Conditions: none beyond the card's own (the listed tables hold what the program's text lays; the form's own reach).
-/
import Derived.Test.YtbimjdlkffbncaaDoorFy
import Derived.Test.YtbimjdlkffbncaaDoorEs
import Derived.Test.YtbimjdlkffbncaaDoorFr
import Derived.SizedLaws
namespace Go.Proofs.YtbimjdlkffbncaaDoor.flattenAnchors
open Go.ChangeShapes Go.WideShapes Go.ChangeAt Go.RowKit Go.WideMaps Go.WideElems
open Go.ChangeMaps (setBlock shut_map_nil open_string shut_string keptBut_setBlock frozen?_setBlock heap_setBlock_same)

theorem u8_wf (n : Int) (h : (Lit.int .u8 n).wf = true) : ∃ m : Nat, n = (m : Int) ∧ m < 256 := by
  simp only [Lit.wf, Bool.and_eq_true, decide_eq_true_eq] at h
  have e1 : IntKind.u8.min = 0 := by decide
  have e2 : IntKind.u8.max = 255 := by decide
  rw [e1, e2] at h
  exact ⟨n.toNat, by omega, by omega⟩
theorem laidOut : laidOutB Tryd.prog = true := by kernel_rfl
theorem cellsE : Tryd.prog.cellsOf 66 = 4 := by kernel_rfl
theorem bytesE : Tryd.prog.bytesOf 66 = 64 := by kernel_rfl
theorem cells9 : Tryd.prog.cellsOf 9 = 1 := by kernel_rfl
theorem cells3 : Tryd.prog.cellsOf 3 = 1 := by kernel_rfl
theorem cells5 : Tryd.prog.cellsOf 5 = 1 := by kernel_rfl
theorem cellsS : Tryd.prog.cellsOf 48 = 1 := by kernel_rfl
theorem bytes3 : Tryd.prog.bytesOf 3 = 8 := by kernel_rfl
theorem cellsI : Tryd.prog.cellsOf 62 = 1 := by kernel_rfl
theorem four {H : Type} {enc : TypeId × Value → H} {w : World} {base : Nat} {spare : Nat → Bool} {held : Bool} (n : Nat) (cs : List Value) (y : DataW H × List MemPlace) (h : DataW.trod enc Tryd.prog w base spare held n 66 cs = some y) :
    ∃ (x : Ar.Nd) (a : Option Addr) (c : Nat), cs = [.int .i64 x.kind, .string (str x.tag), .string (str x.text), .slice a x.kids.length c] ∧ RdI w w.heap.size (.slice a x.kids.length c) x.kids ∧
      x.tag.length ≤ maxLen ∧ x.text.length ≤ maxLen ∧ x.kids.length ≤ maxLen ∧ (x.kids = [] ∨ ∃ d0 d1 d2 el sp, y.1 = .agg [d0, d1, d2, .slice el sp] ∧ el.length = x.kids.length) :=
  open_node Tryd.underlying66 cellsE rfl rfl rfl rfl Tryd.underlying3 Tryd.underlying9 Tryd.underlying9 Tryd.underlying62 Tryd.underlying3 cells3 cells9 cells9 cellsI cells3 h

set_option maxRecDepth 100000 in
theorem contract (H : Type) (enc : TypeId × Value → H) (W : World) (base : Nat) (args : Array Value) (ds gs : List (DataW H)) (before : List MemPlace)
    (hval : ∀ (j : Nat) t v, Tryd.f9.params[j]? = some t → args[j]? = some v → Value.okWide Tryd.prog W .any base t v)
    (hW : DataW.Whole enc Tryd.prog Tryd.f9.params.toList Rows.flattenAnchorsSpec.vars false W args.toList ds gs before) (hR : (DataW.weightsEach Tryd.prog (Tryd.f9.params.toList ++ (OpenSpec.ofChange Rows.flattenAnchorsSpec).bare.plain.varTypes Tryd.prog) (ds ++ gs)).all (· ≤ reachBytes) = true) (hL : laidMetH Tryd.prog Rows.flattenAnchorsRow.laid W) (hsh : W.ShapedOpen Tryd.prog) :
    Calls Tryd.prog 9 args W fun e W' => ∃ v, e = .returned v ∧ Rows.flattenAnchorsSpec.post enc Tryd.prog Tryd.f9 false true false false W args v W' := by
  have hE : Env W := env_of_laid hL hsh
  have hW' := hW
  obtain ⟨p, q, hA0, hV, rfl, hfz, hnd⟩ := hW
  have hA : DataW.TrodAll enc Tryd.prog W 0 (fun _ => true) true Tryd.f9.params.toList args.toList ds p := hA0
  rw [Tryd.params9] at hA hval
  obtain ⟨v0, vs0, d0, ds0, p0, q0, hargs, rfl, rfl, h0, r0⟩ := trodAll_cons hA
  obtain ⟨rfl, rfl, rfl⟩ := trodAll_nil r0
  obtain rfl : args = #[v0] := by cases args; simp_all
  obtain ⟨rfl, rfl⟩ := trodVars_none hV
  clear hA0
  have hlt0 : ∀ x ∈ p0, x.block < W.heap.size := fun x hx => hW'.lt x (by simp [hx])
  obtain ⟨a0, len0, cap0, rfl⟩ := okWide_slice Tryd.underlying48 (hval 0 48 v0 rfl rfl)
  have h0k := h0
  obtain ⟨fuel0, hf0⟩ := h0k
  obtain ⟨u0, ns0, hcs0, R0, _, _, hd0⟩ := open_nodes Tryd.underlying48 cellsE four hf0
  obtain rfl : u0 = .slice a0 len0 cap0 := by simp [Value.cells] at hcs0; exact hcs0.symm
  have C0 : ns0.length ≤ 2199023255488 := by
    rcases hd0 with rfl | ⟨el, sp, hds, hle, _⟩
    · simp
    · simp only at hds
      have h := sized_slice hR (j := 0) (t := 48) (e := 66) (elems := el) (spare := sp) (by rw [Tryd.params9]; rfl) (by rw [← hds]; rfl) Tryd.underlying48
      rw [bytesE] at h
      have er : reachBytes = 140737488351232 := rfl
      omega
  have K0 : ∀ x ∈ ns0, x.kids.length ≤ 17592186044160 := by
    rcases hd0 with rfl | ⟨el, sp, hds, hle, hkk⟩
    · simp
    · intro x hx
      simp only at hds
      rcases hkk x hx with h0 | ⟨d0, d1, d2, kl, ksp, hm, hkl⟩
      · rw [h0]; simp
      · have h := sized_kids hR (j := 0) (t := 48) (e := 66) (u := 62) (k := 3) (el := el) (sp := sp) (by rw [Tryd.params9]; rfl) (by rw [← hds]; rfl) Tryd.underlying48 Tryd.underlying66 rfl Tryd.underlying62 hm
        rw [bytes3] at h
        have er : reachBytes = 140737488351232 := rfl
        omega
  refine (anchors_walk (.slice a0 len0 cap0) ns0 W R0 C0 K0 hE).mono fun e W' ⟨he, bel⟩ => ?_
  subst he
  exact ⟨_, rfl, _, _, _, [], _, [], hW', trodAll_mk1 (shut_bool Tryd.underlying4 _), (trodAll_cons_mk (Below.trod laidOut (by kernel_rfl) (of_decide_eq_true (by kernel_rfl)) h0 bel hlt0) trodAll_mk0), rfl, bel.frame _, fun h => by cases h⟩

theorem laid_met' (os : Os) : laidMet Tryd.prog laidL ((laidWorld os).forCall (fun _ _ => 0) ⟨#[], #[.slice none 0 0], []⟩).memory := (laid_met os).of_heap rfl

set_option maxRecDepth 100000 in
theorem lifted (os : Os) (started : os.Started) (H : Type) (enc : TypeId × Value → H) (F : Stop.Interp) :
    ReturnsInHanded {} Tryd.checked os 9 .any ((OpenSpec.ofChange Rows.flattenAnchorsSpec).preRow enc Tryd.prog Tryd.f9 Rows.flattenAnchorsRow.domain false Rows.flattenAnchorsRow.laid) (((OpenSpec.ofChange Rows.flattenAnchorsSpec).at F).post enc Tryd.prog Tryd.f9 false true false false) := by
  refine returnsInHanded_of_row (C := Tryd.checked) (s := OpenSpec.ofChange Rows.flattenAnchorsSpec) own started (by kernel_rfl) Tryd.func9
    (witness_row_at (enc := enc) (C := Tryd.checked) false (laidWorld os) #[.slice none 0 0] rfl (by kernel_rfl) (by kernel_rfl) (by kernel_rfl)
      (OpenSpec.preRow_of_cond 8 (x := ([.nil], [], [])) (by kernel_rfl) (by kernel_rfl) (fun k hk => by cases hk) (by kernel_rfl) (laid_met' os))) ?_
  intro W base args ds gs before hval hW _ _ hR hL hsh _
  exact contract H enc W base args ds gs before hval hW hR hL hsh

theorem said : Rows.FlattenAnchorsSaid :=
  OpenClaim.holds_of_cond 9 Tryd.f9 rfl rfl rfl rfl rfl rfl rfl ⟨rfl, rfl, rfl, rfl, rfl⟩ rfl rfl rfl rfl rfl (by kernel_rfl) Tryd.func9 (by kernel_rfl)
    (of_decide_eq_true (by kernel_rfl)) (by unfold Func.isWrapper; first | (rw [if_pos (by decide +kernel)]; kernel_rfl) | (rw [if_neg (by decide +kernel)]; exact ⟨rfl, rfl⟩))
    (fun os started H enc _ F => by rw [OpenClaim.pre_eq_preRow]; exact lifted os started H enc F)

theorem plain (f : FuncId) (fn : Func) (hf : Tryd.pinned.checked.prog.funcNamed "grille/grillelaw10.FlattenAnchors" = some f) (hfn : Tryd.pinned.checked.prog.funcs[f]? = some fn) :
    false = Tryd.pinned.checked.prog.looks [] ∧ ∀ (j : Nat) t, fn.params[j]? = some t → Tryd.pinned.checked.prog.wantsStandIn t = false := by
  obtain rfl : f = 9 := Option.some.inj ((show Tryd.prog.funcNamed "grille/grillelaw10.FlattenAnchors" = some 9 by kernel_rfl).symm.trans hf) |>.symm
  obtain rfl : fn = Tryd.f9 := (Option.some.inj (Tryd.func9.symm.trans hfn)).symm
  refine ⟨by kernel_rfl, fun j t ht => ?_⟩
  rw [Tryd.params9] at ht
  have hm := Array.mem_of_getElem? ht
  simp at hm
  subst hm
  exact (show Tryd.prog.wantsStandIn 48 = false by kernel_rfl)

/-- THE CARD -/
theorem card : Rows.FlattenAnchorsCardSaid :=
  Claim7.holds_tied_plain_at .later [] _ _ _ _ said (fun _ h => by cases h) (by kernel_rfl) (fun _ h => by cases h) flattenAnchors_row_tie rfl ⟨rfl, rfl⟩ (by kernel_rfl) rfl plain (by kernel_rfl)
end Go.Proofs.YtbimjdlkffbncaaDoor.flattenAnchors
namespace Go.Proofs.YtbimjdlkffbncaaDoor
theorem flattenAnchors_holds : Rows.FlattenAnchorsCardSaid := flattenAnchors.card
end Go.Proofs.YtbimjdlkffbncaaDoor
