/-
  The walk of arena.Ins.
-/
import Derived.Test.YtbimjdlkffbncaaDoorAf
import Derived.Deep.LoopGhost
import Derived.Deep.OwnRows
import Derived.Laws.OwnMore
namespace Go.Proofs.YtbimjdlkffbncaaDoor
namespace Ar
def addAt (cs : List Int) (k : Int) : List Int := cs.set k.toNat (cs.getD k.toNat 0 + 1)
def addAll (cs : List Int) (ks : List Int) : List Int := ks.foldl addAt cs
def insGo (g : List Nd) (cs : List Int) : List Int := g.foldl (fun cs x => addAll cs x.kids) cs
def ins (g : List Nd) : List Int := if right g = true then insGo g (List.replicate g.length 0) else []
theorem addAt_len (cs : List Int) (k : Int) : (addAt cs k).length = cs.length := by unfold addAt; rw [List.length_set]
/-- each count lies in its bounds -/
def Bd (cs : List Int) (t : Nat) : Prop := ∀ c ∈ cs, 0 ≤ c ∧ c ≤ (t : Int)
theorem Bd.add {cs : List Int} {t : Nat} (h : Bd cs t) (k : Int) : Bd (addAt cs k) (t + 1) := by
  intro c hc
  unfold addAt at hc
  rcases List.mem_or_eq_of_mem_set hc with h1 | h1
  · have := h c h1; omega
  · rw [List.getD_eq_getElem?_getD] at h1
    cases hx : cs[k.toNat]? with
    | none => rw [hx] at h1; simp only [Option.getD_none] at h1; omega
    | some y => rw [hx] at h1; simp only [Option.getD_some] at h1; have := h y (List.mem_of_getElem? hx); omega
theorem Bd.mono {cs : List Int} {t u : Nat} (h : Bd cs t) (hu : t ≤ u) : Bd cs u := fun c hc => by have := h c hc; omega
end Ar
open Go.RowKit Go.Maps
def cellsI (cs : List Int) : Array Value := (cs.map (Value.int .i64)).toArray
theorem cellsI_at (cs : List Int) (j : Nat) (h : j < cs.length) : (cellsI cs)[j]? = some (.int .i64 cs[j]) := by
  unfold cellsI; rw [List.getElem?_toArray, List.getElem?_map, List.getElem?_eq_getElem h]; rfl
theorem cellsI_zero (n : Nat) : madeCells #[.int .i64 0] n = cellsI (List.replicate n 0) := by
  apply Array.ext'
  rw [toList_madeCells_one]; unfold cellsI; simp
theorem cellsI_set (cs : List Int) (j : Nat) (c : Int) : (cellsI cs).setIfInBounds j (.int .i64 c) = cellsI (cs.set j c) := by
  apply Array.ext'
  unfold cellsI; simp [List.map_set]
theorem blk_set {w : World} {b : Nat} {c : Array Value} {t : TypeId} {fr : Nat × Nat} (h : w.heap[b]? = some (.cells c t fr)) (i : Nat) (v : Value) : (w.setCell ⟨b, i, none⟩ v).heap[b]? = some (.cells (c.setIfInBounds i v) t fr) := by
  unfold World.setCell
  simp only
  rw [Array.getElem?_modify, if_pos rfl, h]
  simp
theorem cell_blk {w : World} {b : Nat} {c : Array Value} {t : TypeId} {fr : Nat × Nat} (h : w.heap[b]? = some (.cells c t fr)) (i : Nat) (v : Value) (hi : c[i]? = some v) : w.cell? ⟨b, i, none⟩ = some v := by
  simp [World.cell?, h, hi]
theorem frozen_blk {w : World} {b : Nat} {c : Array Value} {t : TypeId} (h : w.heap[b]? = some (.cells c t (0, 0))) (i : Nat) : w.frozen? ⟨b, i, none⟩ = false := by
  simp [World.frozen?, h]
theorem info3 : (Tryd.prog.info? 3).map (fun i => (i.zero, i.size, i.bytes)) = some (some (.int .i64 0), 1, 8) := by kernel_rfl
theorem made3 (n : Nat) (h : n ≤ 1000000) (w : World) : (Instr.makeSlice 62 (.int .i64 (n : Int)) (.int .i64 (n : Int))).run Tryd.prog w = .ok (.slice (some ⟨w.heap.size, 0, none⟩) n n) (w.alloc (.cells (cellsI (List.replicate n 0)) 3)) := by
  rw [← cellsI_zero]
  exact run_make_row' 62 3 (.int .i64 0) 8 Tryd.underlying62 info3 rfl .i64 .i64 n (by omega) (by omega) w

theorem right_len {g : List Ar.Nd} (h : Ar.right g = true) : 0 < g.length ∧ g.length ≤ 2000 := by
  unfold Ar.right at h
  split at h
  · cases h
  · omega
theorem right_kids {g : List Ar.Nd} (h : Ar.right g = true) : ∀ x ∈ g, ∀ k ∈ x.kids, Ar.isNode g.length k = true := by
  unfold Ar.right at h
  split at h
  · cases h
  · split at h
    · rename_i h2
      intro x hx k hk
      have := List.all_eq_true.1 h2 x hx
      unfold Ar.mayBe at this
      rw [Bool.and_eq_true] at this
      exact List.all_eq_true.1 this.1 k hk
    · cases h

set_option maxHeartbeats 4000000 in
set_option maxRecDepth 100000 in
theorem ins_any (v : Value) (g : List Ar.Nd) (w : World) (hg : RdG w w.heap.size v g) (hgl : g.length ≤ 1000000) (hfi : ∀ x ∈ g, Fine x) (hE : Env w) :
    Calls Tryd.prog 116 #[v] w fun e w' => (∃ u, e = .returned u ∧ RdI w' w'.heap.size u (Ar.ins g)) ∧ Below w.heap.size w w' := by
  have cR := right_any v g w hg hgl hfi hE
  have HG := Lib.hid hg
  have HF := Lib.hid hfi
  clear hfi
  obtain ⟨ga, gc, rfl, hgc, _⟩ := hg
  unfold Ar.ins
  cases hr : Ar.right g
  · rw [hr] at cR
    have cR := Lib.hid cR
    rw [if_neg (by decide)]
    go_enter Tryd.func116, Tryd.ntmps116
    go_wp2_with (go_at_call 21; refine cR.out.mono ?_; rintro e w1 ⟨rfl, hb1⟩)
    go_ret
    exact ⟨⟨_, rfl, none, 0, rfl, Nat.le_refl _, fun h => absurd h (by simp)⟩, hb1⟩
  · rw [hr] at cR
    have cR := Lib.hid cR
    rw [if_pos rfl]
    obtain ⟨hl0, hl2⟩ := right_len hr
    have HN := Lib.hid (right_kids hr)
    clear hr
    obtain ⟨ANS, hANS⟩ : ∃ ANS, Ar.insGo g (List.replicate g.length 0) = ANS := ⟨_, rfl⟩
    rw [hANS]
    have HA := Lib.hid hANS
    clear hANS
    have hm3 := made3 g.length (by omega)
    obtain ⟨W, hW⟩ : ∃ W : Nat, w.heap.size = W := ⟨_, rfl⟩
    go_enter Tryd.func116, Tryd.ntmps116
    go_wp2_with (go_at_call 21; refine cR.out.mono ?_; rintro e w1 ⟨rfl, hb1⟩)
    have hs1 := hb1.size
    go_loopg [16] g.length (fun q i wr => ∃ (j : Nat) (cs : List Int), j ≤ g.length ∧ q = g.length - j ∧ i = .int .i64 j ∧ cs.length = g.length ∧ Hid (Ar.Bd cs (j * 1000000)) ∧ Hid (Ar.insGo (g.drop j) cs = ANS) ∧ Hid (wr.heap[w1.heap.size]? = some (.cells (cellsI cs) 3)) ∧ Hid (Below w1.heap.size w1 wr))
    case atStart => exact ⟨0, _, by omega, by omega, rfl, List.length_replicate, Lib.hid (fun c hc => by rw [List.eq_of_mem_replicate hc]; omega), HA, Lib.hid (alloc_blk _ _), Lib.hid (bnew _ _)⟩
    case round =>
      obtain ⟨j, cs, hj, rfl, rfl, hcs, HBd, HI, HC, HB⟩ := hrel
      clear HA
      by_cases hlt : j < g.length
      · have hI := HI.out
        rw [List.drop_eq_getElem_cons hlt] at hI
        clear HI
        have hBw : Below w.heap.size w wr := hb1.trans (HB.out.mono hs1)
        obtain ⟨_, _, hv, _, hcl⟩ := HG.out.below hb1
        cases hv
        obtain ⟨gg, rfl, hgg, hcl⟩ := hcl (by omega)
        have hf := HF.out _ (List.getElem_mem hlt)
        have hkn := HN.out _ (List.getElem_mem hlt)
        obtain ⟨n0, n1, n2, ⟨a, c, n3, n4⟩⟩ := hcl j hlt
        have n0 := ((HB.out.mono hs1).cell (p := ⟨gg, j * 4, none⟩) hgg).trans n0
        have n1 := ((HB.out.mono hs1).cell (p := ⟨gg, j * 4 + 1, none⟩) hgg).trans n1
        have n2 := ((HB.out.mono hs1).cell (p := ⟨gg, j * 4 + 2, none⟩) hgg).trans n2
        have n3 := ((HB.out.mono hs1).cell (p := ⟨gg, j * 4 + 3, none⟩) hgg).trans n3
        clear hcl
        generalize g[j] = x at *
        obtain ⟨k, t, s, ks⟩ := x
        have hfk := hf.kids
        simp only at n0 n1 n2 n3 n4 hfk hkn
        have hI : Ar.insGo (g.drop (j + 1)) (Ar.addAll cs ks) = ANS := hI
        have HI := Lib.hid hI
        have HKN := Lib.hid hkn
        have N4 := Lib.hid n4
        clear hI hkn hf n4
        have hB2 := HB.out.alloc HB.out.size (.cells #[.int .i64 k, .string (str t), .string (str s), .slice a ks.length c] 64)
        have hC2 := blk_below HC.out (bnew wr (.cells #[.int .i64 k, .string (str t), .string (str s), .slice a ks.length c] 64))
        have hwr := HB.out.size
        go_wp2
        go_loopg [23] ks.length (fun q i wi => ∃ (m : Nat) (ds : List Int), m ≤ ks.length ∧ q = ks.length - m ∧ i = .int .i64 m ∧ ds.length = g.length ∧ Hid (Ar.Bd ds (j * 1000000 + m)) ∧ Hid (Ar.addAll ds (ks.drop m) = Ar.addAll cs ks) ∧ Hid (wi.heap[w1.heap.size]? = some (.cells (cellsI ds) 3)) ∧ Hid (Below w1.heap.size w1 wi))
        case atStart => exact ⟨0, cs, by omega, by omega, rfl, hcs, Lib.hid (HBd.out.mono (Nat.le_add_right _ _)), Lib.hid rfl, Lib.hid hC2, Lib.hid hB2⟩
        case round =>
          obtain ⟨m, ds, hm, rfl, rfl, hds, HBd2, HI2, HC2, HB2⟩ := hrel
          by_cases hmt : m < ks.length
          · have hI2 := HI2.out
            rw [List.drop_eq_getElem_cons hmt] at hI2
            clear HI2
            have hBw2 : Below w.heap.size w wr := hb1.trans (HB2.out.mono hs1)
            obtain ⟨_, _, hv, _, hcl⟩ := (N4.out.below (HB2.out.mono hs1))
            cases hv
            obtain ⟨kg, ko, rfl, _, hcl⟩ := hcl (by omega)
            have hkm := hcl m hmt
            have hk0 := HKN.out _ (List.getElem_mem hmt)
            clear hcl
            unfold Ar.isNode at hk0
            simp only [Bool.and_eq_true, decide_eq_true_eq] at hk0
            obtain ⟨hk0, hk1⟩ := hk0
            generalize ks[m] = kk at *
            obtain ⟨y, rfl⟩ : ∃ y : Nat, kk = (y : Int) := ⟨kk.toNat, by omega⟩
            have hy : y < ds.length := by omega
            have hy' : y < g.length := by omega
            have hdy := HBd2.out _ (List.getElem_mem hy)
            have hcy := cell_blk HC2.out y _ (cellsI_at ds y hy)
            have hfy := frozen_blk HC2.out y
            have hC3 := blk_set HC2.out y (.int .i64 (ds[y] + 1))
            have hadd : Ar.addAt ds (y : Int) = ds.set y (ds[y] + 1) := by
              unfold Ar.addAt
              rw [List.getD_eq_getElem?_getD, Int.toNat_natCast, List.getElem?_eq_getElem hy]; rfl
            rw [cellsI_set, ← hadd] at hC3
            have hB3 := Below.setCell (p := ⟨w1.heap.size, y, none⟩) HB2.out (Nat.le_refl _) (.int .i64 (ds[y] + 1))
            have hlen3 : (Ar.addAt ds (y : Int)).length = g.length := by rw [Ar.addAt_len]; exact hds
            have hBd3 := HBd2.out.add (y : Int)
            have hI3 : Ar.addAll (Ar.addAt ds (y : Int)) (ks.drop (m + 1)) = Ar.addAll cs ks := hI2
            clear hI2 hadd
            generalize Ar.addAt ds (y : Int) = ds' at *
            generalize ds[y] = z at *
            have HI3 := Lib.hid hI3
            have HC3 := Lib.hid hC3
            have HBd3 := Lib.hid hBd3
            have HB3 := Lib.hid hB3
            clear hI3 hC3 hBd3 hB3
            go_wp2
            go_roundg (ks.length - (m + 1))
            case measure => omega
            case rel => exact ⟨m + 1, _, by omega, rfl, by go_num, hlen3, Lib.hid (HBd3.out.mono (by omega)), HI3, HC3, HB3⟩
          · have hme : m = ks.length := by omega
            have hI2 := HI2.out
            rw [List.drop_eq_nil_of_le (by omega)] at hI2
            have hI2 : ds = Ar.addAll cs ks := hI2
            subst hI2
            clear HI2
            have HBd3 := Lib.hid (HBd2.out.mono (show j * 1000000 + m ≤ (j + 1) * 1000000 by omega))
            go_wp2
            go_roundg (g.length - (j + 1))
            case measure => omega
            case rel => exact ⟨j + 1, _, by omega, rfl, by go_num, hds, HBd3, HI, HC2, HB2⟩
      · have hje : j = g.length := by omega
        have hI := HI.out
        rw [List.drop_eq_nil_of_le (by omega)] at hI
        have hI : cs = ANS := hI
        subst hI
        clear HI
        have hwr := HB.out.size
        have hlt2 : w1.heap.size < wr.heap.size := (Array.getElem?_eq_some_iff.1 HC.out).1
        go_wp2
        go_ret
        exact ⟨⟨.slice (some ⟨w1.heap.size, 0, none⟩) g.length g.length, rfl, some ⟨w1.heap.size, 0, none⟩, g.length, by rw [hcs], by omega, fun h0 => ⟨_, 0, rfl, hlt2, fun q hq => by rw [Nat.zero_add]; exact cell_blk HC.out _ _ (cellsI_at cs q hq)⟩⟩, hb1.trans (HB.out.mono hs1)⟩
end Go.Proofs.YtbimjdlkffbncaaDoor
