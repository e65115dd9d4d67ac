/-
  Walks of flatten: what Ins gives is the call's own; the anchors of a graph.
  The walk of layer 10's own name of an anchor.
  The state in which a graph's events are told: the teller, the events so far, the anchors, the closure.
-/
import Derived.Test.YtbimjdlkffbncaaDoorFc
import Derived.Test.YtbimjdlkffbncaaDoorBc
namespace Go.Proofs.YtbimjdlkffbncaaDoor
open Go.RowKit Go.Maps

def cellsS (l : List (List UInt8)) : Array Value := (l.map fun s => Value.string (str s)).toArray
theorem cellsS_at (l : List (List UInt8)) (j : Nat) (h : j < l.length) : (cellsS l)[j]? = some (.string (str l[j])) := by
  unfold cellsS; rw [List.getElem?_toArray, List.getElem?_map, List.getElem?_eq_getElem h]; rfl
theorem cellsS_zero (n : Nat) : madeCells #[.string ⟨#[]⟩] n = cellsS (List.replicate n []) := by
  apply Array.ext'
  rw [toList_madeCells_one]; unfold cellsS; simp; exact .inr rfl
theorem cellsS_set (l : List (List UInt8)) (j : Nat) (s : List UInt8) : (cellsS l).setIfInBounds j (.string (str s)) = cellsS (l.set j s) := by
  apply Array.ext'
  unfold cellsS; simp [List.map_set]
theorem info9 : (Tryd.prog.info? 9).map (fun i => (i.zero, i.size, i.bytes)) = some (some (.string ⟨#[]⟩), 1, 16) := by kernel_rfl
theorem made9 (n : Nat) (h : n ≤ 1000000) (w : World) : (Instr.makeSlice 73 (.int .i64 (n : Int)) (.int .i64 (n : Int))).run Tryd.prog w = .ok (.slice (some ⟨w.heap.size, 0, none⟩) n n) (w.alloc (.cells (cellsS (List.replicate n [])) 9)) := by
  rw [← cellsS_zero]
  exact run_make_row' 73 9 (.string ⟨#[]⟩) 16 Tryd.underlying73 info9 rfl .i64 .i64 n (by omega) (by omega) w
theorem itoa_len (k : Int) (h0 : -9223372036854775808 ≤ k) (h1 : k ≤ 9223372036854775807) : (Lib.itoa k).length ≤ 21 := by
  have := Lib.itoa_length_le k h0 h1
  omega
theorem itoa_any (n : Int) (w : World) (h0 : -9223372036854775808 ≤ n) (h1 : n ≤ 9223372036854775807) (hE : Env w) :
    Calls Tryd.prog 117 #[.int .i64 n] w fun e w' => e = .returned (.string (str (Lib.itoa n))) ∧ Below w.heap.size w w' := by
  refine (Tryd.strconv_Itoa n h0 h1 w hE.pow).mono ?_
  rintro e w' ⟨rfl, k, os, rfl⟩
  exact ⟨rfl, Lib.below_grow _ w (Nat.le_refl _) k os⟩
set_option maxHeartbeats 4000000 in
set_option maxRecDepth 100000 in
theorem ins_own (v : Value) (g : List Ar.Nd) (w : World) (hr0 : Ar.right g = true) (hg : RdG w w.heap.size v g) (hgl : g.length ≤ 1000000) (hfi : ∀ x ∈ g, Fine x) (hE : Env w) :
    Calls Tryd.prog 116 #[v] w fun e w' => (∃ b, e = .returned (.slice (some ⟨b, 0, none⟩) g.length g.length) ∧ w.heap.size ≤ b ∧ w'.heap[b]? = some (.cells (cellsI (Ar.ins g)) 3)) ∧ Below w.heap.size w w' := by
  have cR := right_any v g w hg hgl hfi hE
  have HG := Lib.hid hg
  have HF := Lib.hid hfi
  clear hfi
  obtain ⟨ga, gc, rfl, hgc, _⟩ := hg
  unfold Ar.ins
  cases hr : Ar.right g
  · rw [hr] at hr0
    cases hr0
  · rw [hr] at cR
    have cR := Lib.hid cR
    rw [if_pos rfl]
    obtain ⟨hl0, hl2⟩ := right_len hr
    have HN := Lib.hid (right_kids hr)
    clear hr
    obtain ⟨ANS, hANS⟩ : ∃ ANS, Ar.insGo g (List.replicate g.length 0) = ANS := ⟨_, rfl⟩
    rw [hANS]
    have HA := Lib.hid hANS
    clear hANS
    have hm3 := made3 g.length (by omega)
    obtain ⟨W, hW⟩ : ∃ W : Nat, w.heap.size = W := ⟨_, rfl⟩
    go_enter Tryd.func116, Tryd.ntmps116
    go_wp2_with (go_at_call 21; refine cR.out.mono ?_; rintro e w1 ⟨rfl, hb1⟩)
    have hs1 := hb1.size
    go_loopg [16] g.length (fun q i wr => ∃ (j : Nat) (cs : List Int), j ≤ g.length ∧ q = g.length - j ∧ i = .int .i64 j ∧ cs.length = g.length ∧ Hid (Ar.Bd cs (j * 1000000)) ∧ Hid (Ar.insGo (g.drop j) cs = ANS) ∧ Hid (wr.heap[w1.heap.size]? = some (.cells (cellsI cs) 3)) ∧ Hid (Below w1.heap.size w1 wr))
    case atStart => exact ⟨0, _, by omega, by omega, rfl, List.length_replicate, Lib.hid (fun c hc => by rw [List.eq_of_mem_replicate hc]; omega), HA, Lib.hid (alloc_blk _ _), Lib.hid (bnew _ _)⟩
    case round =>
      obtain ⟨j, cs, hj, rfl, rfl, hcs, HBd, HI, HC, HB⟩ := hrel
      clear HA
      by_cases hlt : j < g.length
      · have hI := HI.out
        rw [List.drop_eq_getElem_cons hlt] at hI
        clear HI
        have hBw : Below w.heap.size w wr := hb1.trans (HB.out.mono hs1)
        obtain ⟨_, _, hv, _, hcl⟩ := HG.out.below hb1
        cases hv
        obtain ⟨gg, rfl, hgg, hcl⟩ := hcl (by omega)
        have hf := HF.out _ (List.getElem_mem hlt)
        have hkn := HN.out _ (List.getElem_mem hlt)
        obtain ⟨n0, n1, n2, ⟨a, c, n3, n4⟩⟩ := hcl j hlt
        have n0 := ((HB.out.mono hs1).cell (p := ⟨gg, j * 4, none⟩) hgg).trans n0
        have n1 := ((HB.out.mono hs1).cell (p := ⟨gg, j * 4 + 1, none⟩) hgg).trans n1
        have n2 := ((HB.out.mono hs1).cell (p := ⟨gg, j * 4 + 2, none⟩) hgg).trans n2
        have n3 := ((HB.out.mono hs1).cell (p := ⟨gg, j * 4 + 3, none⟩) hgg).trans n3
        clear hcl
        generalize g[j] = x at *
        obtain ⟨k, t, s, ks⟩ := x
        have hfk := hf.kids
        simp only at n0 n1 n2 n3 n4 hfk hkn
        have hI : Ar.insGo (g.drop (j + 1)) (Ar.addAll cs ks) = ANS := hI
        have HI := Lib.hid hI
        have HKN := Lib.hid hkn
        have N4 := Lib.hid n4
        clear hI hkn hf n4
        have hB2 := HB.out.alloc HB.out.size (.cells #[.int .i64 k, .string (str t), .string (str s), .slice a ks.length c] 64)
        have hC2 := blk_below HC.out (bnew wr (.cells #[.int .i64 k, .string (str t), .string (str s), .slice a ks.length c] 64))
        have hwr := HB.out.size
        go_wp2
        go_loopg [23] ks.length (fun q i wi => ∃ (m : Nat) (ds : List Int), m ≤ ks.length ∧ q = ks.length - m ∧ i = .int .i64 m ∧ ds.length = g.length ∧ Hid (Ar.Bd ds (j * 1000000 + m)) ∧ Hid (Ar.addAll ds (ks.drop m) = Ar.addAll cs ks) ∧ Hid (wi.heap[w1.heap.size]? = some (.cells (cellsI ds) 3)) ∧ Hid (Below w1.heap.size w1 wi))
        case atStart => exact ⟨0, cs, by omega, by omega, rfl, hcs, Lib.hid (HBd.out.mono (Nat.le_add_right _ _)), Lib.hid rfl, Lib.hid hC2, Lib.hid hB2⟩
        case round =>
          obtain ⟨m, ds, hm, rfl, rfl, hds, HBd2, HI2, HC2, HB2⟩ := hrel
          by_cases hmt : m < ks.length
          · have hI2 := HI2.out
            rw [List.drop_eq_getElem_cons hmt] at hI2
            clear HI2
            have hBw2 : Below w.heap.size w wr := hb1.trans (HB2.out.mono hs1)
            obtain ⟨_, _, hv, _, hcl⟩ := (N4.out.below (HB2.out.mono hs1))
            cases hv
            obtain ⟨kg, ko, rfl, _, hcl⟩ := hcl (by omega)
            have hkm := hcl m hmt
            have hk0 := HKN.out _ (List.getElem_mem hmt)
            clear hcl
            unfold Ar.isNode at hk0
            simp only [Bool.and_eq_true, decide_eq_true_eq] at hk0
            obtain ⟨hk0, hk1⟩ := hk0
            generalize ks[m] = kk at *
            obtain ⟨y, rfl⟩ : ∃ y : Nat, kk = (y : Int) := ⟨kk.toNat, by omega⟩
            have hy : y < ds.length := by omega
            have hy' : y < g.length := by omega
            have hdy := HBd2.out _ (List.getElem_mem hy)
            have hcy := cell_blk HC2.out y _ (cellsI_at ds y hy)
            have hfy := frozen_blk HC2.out y
            have hC3 := blk_set HC2.out y (.int .i64 (ds[y] + 1))
            have hadd : Ar.addAt ds (y : Int) = ds.set y (ds[y] + 1) := by
              unfold Ar.addAt
              rw [List.getD_eq_getElem?_getD, Int.toNat_natCast, List.getElem?_eq_getElem hy]; rfl
            rw [cellsI_set, ← hadd] at hC3
            have hB3 := Below.setCell (p := ⟨w1.heap.size, y, none⟩) HB2.out (Nat.le_refl _) (.int .i64 (ds[y] + 1))
            have hlen3 : (Ar.addAt ds (y : Int)).length = g.length := by rw [Ar.addAt_len]; exact hds
            have hBd3 := HBd2.out.add (y : Int)
            have hI3 : Ar.addAll (Ar.addAt ds (y : Int)) (ks.drop (m + 1)) = Ar.addAll cs ks := hI2
            clear hI2 hadd
            generalize Ar.addAt ds (y : Int) = ds' at *
            generalize ds[y] = z at *
            have HI3 := Lib.hid hI3
            have HC3 := Lib.hid hC3
            have HBd3 := Lib.hid hBd3
            have HB3 := Lib.hid hB3
            clear hI3 hC3 hBd3 hB3
            go_wp2
            go_roundg (ks.length - (m + 1))
            case measure => omega
            case rel => exact ⟨m + 1, _, by omega, rfl, by go_num, hlen3, Lib.hid (HBd3.out.mono (by omega)), HI3, HC3, HB3⟩
          · have hme : m = ks.length := by omega
            have hI2 := HI2.out
            rw [List.drop_eq_nil_of_le (by omega)] at hI2
            have hI2 : ds = Ar.addAll cs ks := hI2
            subst hI2
            clear HI2
            have HBd3 := Lib.hid (HBd2.out.mono (show j * 1000000 + m ≤ (j + 1) * 1000000 by omega))
            go_wp2
            go_roundg (g.length - (j + 1))
            case measure => omega
            case rel => exact ⟨j + 1, _, by omega, rfl, by go_num, hds, HBd3, HI, HC2, HB2⟩
      · have hje : j = g.length := by omega
        have hI := HI.out
        rw [List.drop_eq_nil_of_le (by omega)] at hI
        have hI : cs = ANS := hI
        subst hI
        clear HI
        have hwr := HB.out.size
        have hlt2 : w1.heap.size < wr.heap.size := (Array.getElem?_eq_some_iff.1 HC.out).1
        go_wp2
        go_ret
        exact ⟨⟨w1.heap.size, rfl, hs1, HC.out⟩, hb1.trans (HB.out.mono hs1)⟩

theorem ins_small (n : List Ar.Nd) (hr : Ar.right n = true) (hfi : ∀ x ∈ n, Fine x) : ∀ c ∈ Ar.ins n, 0 ≤ c ∧ c ≤ 2000000000 := by
  intro c hc
  have h1 := Ar.ins_bd n hr c hc
  have h2 := Ar.total_le n 1000000 (fun x hx => (hfi x hx).kids)
  have h3 := (right_len hr).2
  have h4 : n.length * 1000000 ≤ 2000 * 1000000 := Nat.mul_le_mul_right _ h3
  omega
theorem names_step (pre : List (List UInt8)) (r j n : Nat) (cs : List Int) (ANS : List (List UInt8)) (hj : j < cs.length) (hI : pre ++ Fl.namesGo r (cs.drop j) = ANS) :
    (1 < cs[j] → (pre ++ [97 :: Lib.itoa ((r + 1 : Nat) : Int)]) ++ Fl.namesGo (r + 1) (cs.drop (j + 1)) = ANS) ∧ (¬ 1 < cs[j] → (pre ++ [[]]) ++ Fl.namesGo r (cs.drop (j + 1)) = ANS) := by
  rw [List.drop_eq_getElem_cons hj] at hI
  constructor
  · intro h
    unfold Fl.namesGo at hI
    rw [if_pos h] at hI
    rw [← hI]; simp
  · intro h
    unfold Fl.namesGo at hI
    rw [if_neg h] at hI
    rw [← hI]; simp
theorem fill_step {α : Type} (pre : List α) (e x : α) (j n : Nat) (hp : pre.length = j) (hj : j < n) : (pre ++ List.replicate (n - j) e).set j x = (pre ++ [x]) ++ List.replicate (n - (j + 1)) e := by
  obtain ⟨q, hq⟩ : ∃ q, n - j = q + 1 := ⟨n - j - 1, by omega⟩
  have hq2 : n - (j + 1) = q := by omega
  rw [hq, hq2, List.replicate_succ, List.set_append, if_neg (by omega), hp, Nat.sub_self]
  simp
theorem fill_keep {α : Type} (pre : List α) (e : α) (j n : Nat) (hp : pre.length = j) (hj : j < n) : pre ++ List.replicate (n - j) e = (pre ++ [e]) ++ List.replicate (n - (j + 1)) e := by
  obtain ⟨q, hq⟩ : ∃ q, n - j = q + 1 := ⟨n - j - 1, by omega⟩
  have hq2 : n - (j + 1) = q := by omega
  rw [hq, hq2, List.replicate_succ]
  simp

set_option maxHeartbeats 4000000 in
set_option maxRecDepth 100000 in
theorem anchors_any (tb : Nat) (ga : Option Addr) (gc : Nat) (mv : Value) (n : List Ar.Nd) (w : World) (hr : Ar.right n = true) (ht : w.heap[tb]? = some (.cells #[.slice ga n.length gc, mv] 96)) (hg : RdG w w.heap.size (.slice ga n.length gc) n) (hfi : ∀ x ∈ n, Fine x) (hE : Env w) :
    Calls Tryd.prog 95 #[.pointer (some ⟨tb, 0, none⟩)] w fun e w' => (∃ b, e = .returned (.slice (some ⟨b, 0, none⟩) n.length n.length) ∧ w.heap.size ≤ b ∧ w'.heap[b]? = some (.cells (cellsS (Fl.anchors n)) 9)) ∧ Below w.heap.size w w' := by
  obtain ⟨hl0, hl2⟩ := right_len hr
  have cI := Lib.hid (ins_own _ n w hr hg (by omega) hfi hE)
  have c1 := cell_blk ht 0 _ rfl
  have hil := Ar.ins_len n hr
  have his := ins_small n hr hfi
  unfold Fl.anchors
  obtain ⟨ANS, hANS⟩ : ∃ ANS, Fl.namesGo 0 (Fl.addRoot (Ar.ins n)) = ANS := ⟨_, rfl⟩
  rw [hANS]
  have HA : Hid ([] ++ Fl.namesGo 0 ((Fl.addRoot (Ar.ins n)).drop 0) = ANS) := hANS
  have hal : (Fl.addRoot (Ar.ins n)).length = n.length := by rw [Fl.addRoot_len, hil]
  obtain ⟨c0, ct, hc0⟩ : ∃ c t, Ar.ins n = c :: t := by
    cases hh : Ar.ins n with
    | nil => rw [hh] at hil; simp at hil; omega
    | cons c t => exact ⟨c, t, rfl⟩
  rw [hc0] at HA his cI hal hil
  have hadd : Fl.addRoot (c0 :: ct) = (c0 + 1) :: ct := rfl
  rw [hadd] at HA hal
  have hb0 := his c0 List.mem_cons_self
  have HE := Lib.hid hE
  have hm9 := made9 n.length (by omega)
  obtain ⟨W, hW⟩ : ∃ W : Nat, w.heap.size = W := ⟨_, rfl⟩
  clear hANS hE hc0
  go_enter Tryd.func95, Tryd.ntmps95
  go_wp2_with (go_at_call 116; refine cI.out.mono ?_; rintro e w1 ⟨⟨b, rfl, hbw, hb⟩, hb1⟩; have q0 := cell_blk hb 0 (.int .i64 c0) rfl; have z0 := frozen_blk hb 0; have hB := blk_set hb 0 (.int .i64 (c0 + 1)))
  rw [cellsI_set] at hB
  have hB : (w1.setCell ⟨b, 0, none⟩ (.int .i64 (c0 + 1))).heap[b]? = some (.cells (cellsI ((c0 + 1) :: ct)) 3) := hB
  have hcb : ∀ c ∈ (c0 + 1) :: ct, 0 ≤ c ∧ c ≤ 2000000001 := by
    intro c hc
    rcases List.mem_cons.1 hc with rfl | hc
    · omega
    · have := his c (List.mem_cons_of_mem _ hc); omega
  have hlb := (Array.getElem?_eq_some_iff.1 hb).1
  have hNm := alloc_blk (w1.setCell ⟨b, 0, none⟩ (.int .i64 (c0 + 1))) (.cells (cellsS (List.replicate n.length [])) 9)
  rw [World.size_setCell] at hNm
  have hB2 := blk_below hB (bnew _ (.cells (cellsS (List.replicate n.length [])) 9))
  have hBW : Below w.heap.size w ((w1.setCell ⟨b, 0, none⟩ (.int .i64 (c0 + 1))).alloc (.cells (cellsS (List.replicate n.length [])) 9)) := (hb1.setCell (p := ⟨b, 0, none⟩) hbw _).alloc (by rw [World.size_setCell]; exact hb1.size) _
  have HNM : Hid (((w1.setCell ⟨b, 0, none⟩ (.int .i64 (c0 + 1))).alloc (.cells (cellsS (List.replicate n.length [])) 9)).heap[w1.heap.size]? = some (.cells (cellsS ([] ++ List.replicate (n.length - 0) [])) 9)) := hNm
  have HB2 := Lib.hid hB2
  have HBW := Lib.hid hBW
  have hs1 := hb1.size
  generalize (c0 + 1) :: ct = cs at *
  clear hNm hB2 hBW hB hb q0 z0
  go_loopg [5, 23] n.length (fun q lv i wr => ∃ (j r : Nat) (pre : List (List UInt8)), j ≤ n.length ∧ q = n.length - j ∧ lv = .int .i64 r ∧ i = .int .i64 j ∧ r ≤ j ∧ pre.length = j ∧ Hid (pre ++ Fl.namesGo r (cs.drop j) = ANS) ∧ Hid (wr.heap[w1.heap.size]? = some (.cells (cellsS (pre ++ List.replicate (n.length - j) [])) 9)) ∧ Hid (wr.heap[b]? = some (.cells (cellsI cs) 3)) ∧ Hid (Below w.heap.size w wr))
  case atStart => exact ⟨0, 0, [], by omega, by omega, rfl, rfl, Nat.le_refl _, rfl, HA, HNM, HB2, HBW⟩
  case round =>
    obtain ⟨j, r, pre, hj, rfl, rfl, rfl, hrj, hpl, HI, HN, HC, HB⟩ := hrel
    clear HA HNM HB2 HBW
    by_cases hjt : j < n.length
    · have hjc : j < cs.length := by omega
      have hst := names_step pre r j n.length cs ANS hjc HI.out
      have hcy := cell_blk HC.out j _ (cellsI_at cs j hjc)
      have hcc := hcb _ (List.getElem_mem hjc)
      generalize cs[j] = c at *
      have hBs := HB.out.size
      by_cases hgt : 1 < c
      · have HI2 := Lib.hid (hst.1 hgt)
        have cS := Lib.hid (itoa_any ((r : Int) + 1) wr (by omega) (by omega) (HE.out.below HB.out))
        have hsz : (str (Lib.itoa ((r : Int) + 1))).size ≤ 21 := by rw [str_len]; exact itoa_len _ (by omega) (by omega)
        have hstr : (⟨#[97]⟩ : ByteArray) ++ str (Lib.itoa ((r : Int) + 1)) = str (97 :: Lib.itoa ((r + 1 : Nat) : Int)) := by
          rw [show (⟨#[97]⟩ : ByteArray) = str [97] from rfl, str_app]; rfl
        have HNN : Hid (∀ w2, Below wr.heap.size wr w2 → (w2.setCell ⟨w1.heap.size, j, none⟩ (.string (str (97 :: Lib.itoa ((r + 1 : Nat) : Int))))).heap[w1.heap.size]? = some (.cells (cellsS ((pre ++ [97 :: Lib.itoa ((r + 1 : Nat) : Int)]) ++ List.replicate (n.length - (j + 1)) [])) 9)
            ∧ (w2.setCell ⟨w1.heap.size, j, none⟩ (.string (str (97 :: Lib.itoa ((r + 1 : Nat) : Int))))).heap[b]? = some (.cells (cellsI cs) 3) ∧ Below w.heap.size w (w2.setCell ⟨w1.heap.size, j, none⟩ (.string (str (97 :: Lib.itoa ((r + 1 : Nat) : Int)))))) := by
          intro w2 hb2
          refine ⟨?_, ?_, ?_⟩
          · have h := blk_set (blk_below HN.out hb2) j (.string (str (97 :: Lib.itoa ((r + 1 : Nat) : Int))))
            rw [cellsS_set, fill_step pre [] _ j n.length hpl hjt] at h
            exact h
          · exact other_set (blk_below HC.out hb2) _ _ (by show b ≠ w1.heap.size; omega)
          · exact (HB.out.trans (hb2.mono hBs)).setCell (p := ⟨w1.heap.size, j, none⟩) hs1 _
        have hjs : j < (pre ++ List.replicate (n.length - j) ([] : List UInt8)).length := by rw [List.length_append, List.length_replicate]; omega
        go_wp2_with (go_at_call 117; refine cS.out.mono ?_; rintro e w2 ⟨rfl, hb2⟩; have N2 := blk_below HN.out hb2; have fz := frozen_blk N2 j; have cz := cell_blk N2 j _ (cellsS_at _ j hjs))
        obtain ⟨k1, k2, k3⟩ := HNN.out w2 hb2
        go_roundg (n.length - (j + 1))
        case measure => omega
        case rel => exact ⟨j + 1, r + 1, _, by omega, rfl, by go_num, by go_num, by omega, by rw [List.length_append]; simp [hpl], HI2, Lib.hid k1, Lib.hid k2, Lib.hid k3⟩
      · have HI2 := Lib.hid (hst.2 hgt)
        have hgd : decide ((1 : Int) < c) = false := decide_eq_false hgt
        have HN2 := HN.out
        rw [fill_keep pre [] j n.length hpl hjt] at HN2
        have HN2 := Lib.hid HN2
        go_wp2
        go_roundg (n.length - (j + 1))
        case measure => omega
        case rel => exact ⟨j + 1, r, _, by omega, rfl, rfl, by go_num, by omega, by rw [List.length_append]; simp [hpl], HI2, HN2, HC, HB⟩
    · have hje : j = n.length := by omega
      have hI := HI.out
      rw [List.drop_eq_nil_of_le (by omega)] at hI
      have hI : pre = ANS := by rw [← hI]; simp [Fl.namesGo]
      have hN := HN.out
      rw [hje, Nat.sub_self, List.replicate_zero, List.append_nil, hI] at hN
      have HN := Lib.hid hN
      go_wp2
      go_ret
      exact ⟨⟨w1.heap.size, rfl, hs1, HN.out⟩, HB.out⟩
end Go.Proofs.YtbimjdlkffbncaaDoor
namespace Go.Proofs.YtbimjdlkffbncaaDoor
open Go.RowKit Go.Maps
theorem digit_enc : ∀ d : Fin 10, Utf8.encode ((48 + d.val : Nat) : Int) = ⟨#[UInt8.ofNat (48 + d.val)]⟩ := by decide +kernel
theorem dec_small (m : Nat) (h : m < 10) : Lib.decDigits m = [UInt8.ofNat (48 + m)] := by rw [Lib.decDigits, dif_pos h]
theorem dec_more (m : Nat) (h : ¬ m < 10) : Lib.decDigits m = Lib.decDigits (m / 10) ++ [UInt8.ofNat (48 + m % 10)] := by rw [Lib.decDigits, dif_neg h]
theorem itoa_dec (k : Nat) : Lib.itoa (k : Int) = Lib.decDigits k := by
  unfold Lib.itoa
  rw [if_neg (by omega), Int.toNat_natCast]
/-- the digits that are still to be put ahead -/
def Rest (m : Nat) (s D : List UInt8) : Prop := (m = 0 → s = D) ∧ (0 < m → Lib.decDigits m ++ s = D)
theorem Rest.step {m : Nat} {s D : List UInt8} (h : Rest m s D) (hm : 0 < m) : Rest (m / 10) (UInt8.ofNat (48 + m % 10) :: s) D := by
  have h2 := h.2 hm
  by_cases hs : m < 10
  · rw [dec_small m hs] at h2
    have e1 : m / 10 = 0 := by omega
    have e2 : m % 10 = m := by omega
    rw [e1, e2]
    exact ⟨fun _ => h2, fun h0 => absurd h0 (by omega)⟩
  · rw [dec_more m hs] at h2
    refine ⟨fun h0 => absurd h0 (by omega), fun _ => ?_⟩
    rw [← h2]; simp
theorem Rest.le {m : Nat} {s D : List UInt8} (h : Rest m s D) : s.length ≤ D.length := by
  rcases Nat.eq_zero_or_pos m with h0 | h0
  · rw [h.1 h0]; exact Nat.le_refl _
  · rw [← h.2 h0, List.length_append]; omega

set_option maxHeartbeats 2000000 in
set_option maxRecDepth 100000 in
theorem name10_any (k : Nat) (w : World) (h0 : 0 < k) (hk : k ≤ 1000000) :
    Calls Tryd.prog 34 #[.int .i64 k] w fun e w' => e = .returned (.string (str (97 :: Lib.itoa (k : Int)))) ∧ w = w' := by
  have hD := itoa_len (k : Int) (by omega) (by omega)
  rw [itoa_dec] at hD ⊢
  have HR0 : Hid (Rest k [] (Lib.decDigits k)) := ⟨fun h => absurd h (by omega), fun _ => List.append_nil _⟩
  obtain ⟨D, hDD⟩ : ∃ D, Lib.decDigits k = D := ⟨_, rfl⟩
  rw [hDD] at HR0 hD ⊢
  clear hDD
  go_enter Tryd.func34, Tryd.ntmps34
  go_wp2
  go_loop [0, 3] (fun nv sv => ∃ (m : Nat) (s : List UInt8), nv = .int .i64 m ∧ sv = .string (str s) ∧ m ≤ 1000000 ∧ Hid (Rest m s D)) (fun nv _ => (intOf nv).toNat)
  case atStart => exact ⟨k, [], rfl, rfl, hk, HR0⟩
  case round =>
    obtain ⟨m, s, rfl, rfl, hm, HR⟩ := hrel
    have hsl := HR.out.le
    have hsz : (str s).size ≤ 21 := by rw [str_len]; omega
    by_cases hm0 : 0 < m
    · have hmi : (0 : Int) < (m : Int) := by omega
      have HR2 := Lib.hid (HR.out.step hm0)
      obtain ⟨q, d, hd, hmq⟩ : ∃ q d : Nat, d < 10 ∧ m = 10 * q + d := ⟨m / 10, m % 10, Nat.mod_lt _ (by decide), by omega⟩
      have hmd : m % 10 = d := by omega
      have hmq2 : m / 10 = q := by omega
      rw [hmd, hmq2] at HR2
      have hmod : Int.tmod (m : Int) 10 = ((m % 10 : Nat) : Int) := rfl
      have hdiv : Int.tdiv (m : Int) 10 = ((m / 10 : Nat) : Int) := rfl
      rw [hmd] at hmod
      rw [hmq2] at hdiv
      have hq : q ≤ 1000000 := by omega
      have HQ := Lib.hid (show q < m by omega)
      clear hmd hmq2 hmq HR
      have hd10 : d = 0 ∨ d = 1 ∨ d = 2 ∨ d = 3 ∨ d = 4 ∨ d = 5 ∨ d = 6 ∨ d = 7 ∨ d = 8 ∨ d = 9 := by omega
      clear hd
      rcases hd10 with rfl | rfl | rfl | rfl | rfl | rfl | rfl | rfl | rfl | rfl
      · have he : Utf8.encode 48 = ⟨#[48]⟩ := by decide +kernel
        have hcat : (⟨#[48]⟩ : ByteArray) ++ str s = str (UInt8.ofNat (48 + 0) :: s) := by
          rw [show (⟨#[48]⟩ : ByteArray) = str [UInt8.ofNat (48 + 0)] from rfl, str_app]; rfl
        go_wp2
        exact ⟨⟨q, _, rfl, rfl, hq, HR2⟩, by have := HQ.out; simp [intOf]; omega⟩
      · have he : Utf8.encode 49 = ⟨#[49]⟩ := by decide +kernel
        have hcat : (⟨#[49]⟩ : ByteArray) ++ str s = str (UInt8.ofNat (48 + 1) :: s) := by
          rw [show (⟨#[49]⟩ : ByteArray) = str [UInt8.ofNat (48 + 1)] from rfl, str_app]; rfl
        go_wp2
        exact ⟨⟨q, _, rfl, rfl, hq, HR2⟩, by have := HQ.out; simp [intOf]; omega⟩
      · have he : Utf8.encode 50 = ⟨#[50]⟩ := by decide +kernel
        have hcat : (⟨#[50]⟩ : ByteArray) ++ str s = str (UInt8.ofNat (48 + 2) :: s) := by
          rw [show (⟨#[50]⟩ : ByteArray) = str [UInt8.ofNat (48 + 2)] from rfl, str_app]; rfl
        go_wp2
        exact ⟨⟨q, _, rfl, rfl, hq, HR2⟩, by have := HQ.out; simp [intOf]; omega⟩
      · have he : Utf8.encode 51 = ⟨#[51]⟩ := by decide +kernel
        have hcat : (⟨#[51]⟩ : ByteArray) ++ str s = str (UInt8.ofNat (48 + 3) :: s) := by
          rw [show (⟨#[51]⟩ : ByteArray) = str [UInt8.ofNat (48 + 3)] from rfl, str_app]; rfl
        go_wp2
        exact ⟨⟨q, _, rfl, rfl, hq, HR2⟩, by have := HQ.out; simp [intOf]; omega⟩
      · have he : Utf8.encode 52 = ⟨#[52]⟩ := by decide +kernel
        have hcat : (⟨#[52]⟩ : ByteArray) ++ str s = str (UInt8.ofNat (48 + 4) :: s) := by
          rw [show (⟨#[52]⟩ : ByteArray) = str [UInt8.ofNat (48 + 4)] from rfl, str_app]; rfl
        go_wp2
        exact ⟨⟨q, _, rfl, rfl, hq, HR2⟩, by have := HQ.out; simp [intOf]; omega⟩
      · have he : Utf8.encode 53 = ⟨#[53]⟩ := by decide +kernel
        have hcat : (⟨#[53]⟩ : ByteArray) ++ str s = str (UInt8.ofNat (48 + 5) :: s) := by
          rw [show (⟨#[53]⟩ : ByteArray) = str [UInt8.ofNat (48 + 5)] from rfl, str_app]; rfl
        go_wp2
        exact ⟨⟨q, _, rfl, rfl, hq, HR2⟩, by have := HQ.out; simp [intOf]; omega⟩
      · have he : Utf8.encode 54 = ⟨#[54]⟩ := by decide +kernel
        have hcat : (⟨#[54]⟩ : ByteArray) ++ str s = str (UInt8.ofNat (48 + 6) :: s) := by
          rw [show (⟨#[54]⟩ : ByteArray) = str [UInt8.ofNat (48 + 6)] from rfl, str_app]; rfl
        go_wp2
        exact ⟨⟨q, _, rfl, rfl, hq, HR2⟩, by have := HQ.out; simp [intOf]; omega⟩
      · have he : Utf8.encode 55 = ⟨#[55]⟩ := by decide +kernel
        have hcat : (⟨#[55]⟩ : ByteArray) ++ str s = str (UInt8.ofNat (48 + 7) :: s) := by
          rw [show (⟨#[55]⟩ : ByteArray) = str [UInt8.ofNat (48 + 7)] from rfl, str_app]; rfl
        go_wp2
        exact ⟨⟨q, _, rfl, rfl, hq, HR2⟩, by have := HQ.out; simp [intOf]; omega⟩
      · have he : Utf8.encode 56 = ⟨#[56]⟩ := by decide +kernel
        have hcat : (⟨#[56]⟩ : ByteArray) ++ str s = str (UInt8.ofNat (48 + 8) :: s) := by
          rw [show (⟨#[56]⟩ : ByteArray) = str [UInt8.ofNat (48 + 8)] from rfl, str_app]; rfl
        go_wp2
        exact ⟨⟨q, _, rfl, rfl, hq, HR2⟩, by have := HQ.out; simp [intOf]; omega⟩
      · have he : Utf8.encode 57 = ⟨#[57]⟩ := by decide +kernel
        have hcat : (⟨#[57]⟩ : ByteArray) ++ str s = str (UInt8.ofNat (48 + 9) :: s) := by
          rw [show (⟨#[57]⟩ : ByteArray) = str [UInt8.ofNat (48 + 9)] from rfl, str_app]; rfl
        go_wp2
        exact ⟨⟨q, _, rfl, rfl, hq, HR2⟩, by have := HQ.out; simp [intOf]; omega⟩
    · have hm00 : m = 0 := by omega
      subst hm00
      have hs := HR.out.1 rfl
      subst hs
      have hcat : (⟨#[97]⟩ : ByteArray) ++ str s = str (97 :: s) := by
        rw [show (⟨#[97]⟩ : ByteArray) = str [97] from rfl, str_app]; rfl
      go_wp2
      go_ret
      exact ⟨rfl, rfl⟩
end Go.Proofs.YtbimjdlkffbncaaDoor
namespace Go.Proofs.YtbimjdlkffbncaaDoor
open Go.RowKit Go.Maps
theorem Env.keep {B : Nat} {w w' : World} (h : Env w) (hB : 4 ≤ B) (hk : Below B w w') : Env w' where
  tabs := by
    obtain ⟨h1, h2⟩ := h.tabs
    exact ⟨fun c hc => (hk.cell (p := ⟨0, c, none⟩) (by show 0 < B; omega)).trans (h1 c hc), fun i hi => ⟨(hk.cell (p := ⟨1, 2 * i, none⟩) (by show 1 < B; omega)).trans (h2 i hi).1, (hk.cell (p := ⟨1, 2 * i + 1, none⟩) (by show 1 < B; omega)).trans (h2 i hi).2⟩⟩
  maxl := by
    obtain ⟨m, hm⟩ := h.maxl
    exact ⟨m, (hk.cell (p := ⟨2, 0, none⟩) (by show 2 < B; omega)).trans hm⟩
  pow := by
    have h2 := h.pow
    unfold Lib.TabIs World.var? at *
    rw [powG, Option.bind_some] at *
    rw [hk.block 3 (by omega)]; exact h2
theorem blk_ne {w : World} {b b' : Nat} {c c' : Array Value} {t t' : TypeId} {fr fr' : Nat × Nat} (h : w.heap[b]? = some (.cells c t fr)) (h' : w.heap[b']? = some (.cells c' t' fr')) (ht : t ≠ t') : b ≠ b' := by
  intro e
  subst e
  rw [h] at h'
  cases h'
  exact ht rfl
theorem row_ne {w : World} {B e z n k : Nat} {v : Value} {xs : List Value} {c : Array Value} {t : TypeId} {fr : Nat × Nat} (h : w.ownsRow B e z v n xs) (hk : w.heap[k]? = some (.cells c t fr)) (ht : e ≠ t) : v.ownBlock ≠ some k := by
  intro hv
  rcases h.2 with ⟨rfl, _⟩ | ⟨g, cap, cur, rfl, _, hh, _⟩
  · cases hv
  · have e1 : g = k := by simpa [Value.ownBlock] using hv
    subst e1
    rw [hh] at hk
    cases hk
    exact ht rfl
theorem OwnE.kept {w : World} {B b i : Nat} {v u : Value} {es : List Ev.E} {c : Array Value} {t : TypeId} {fr : Nat × Nat} (h : OwnE w B v es) (hk : w.heap[b]? = some (.cells c t fr)) (ht : 40 ≠ t) : OwnE (w.setCell ⟨b, i, none⟩ u) B v es :=
  own_same h fun k hv => Below.heap_setCell w ⟨b, i, none⟩ u k (fun e => row_ne h hk ht (by rw [hv, e]))
theorem OwnG.keep {ts : List TypeId} {B B' : Nat} {w w' : World} {v : Value} {ns : List Ar.Nd} (h : OwnG w B' v ns) (hk : Keep ts B w w') (h1 : 64 ∉ ts) (h2 : 3 ∉ ts) : OwnG w' B' v ns := by
  obtain ⟨ps, p1, p2, p3⟩ := h
  exact ⟨ps, p1, hk.row p2 h1, fun p hp => hk.row (p3 p hp) h2⟩
/-- the types of the blocks that change while a graph is told -/
def tellT : List TypeId := [40, 96, 29]
structure TellAt (w : World) (ga : Option Addr) (gc n ab tb tB oB aB fB B m : Nat) (an : List (List UInt8)) (out : List Ev.E) : Prop where
  tBox : w.heap[tB]? = some (.cells #[.pointer (some ⟨tb, 0, none⟩)] 92)
  tel : w.heap[tb]? = some (.cells #[.slice ga n gc, .int .i64 m] 96)
  oBox : ∃ v, w.heap[oB]? = some (.cells #[v] 29) ∧ OwnE w B v out
  aBox : w.heap[aB]? = some (.cells #[.slice (some ⟨ab, 0, none⟩) n n] 73)
  anc : w.heap[ab]? = some (.cells (cellsS an) 9)
  fBox : w.heap[fB]? = some (.cells #[.func (.func 96) #[] #[.pointer (some ⟨tB, 0, none⟩), .pointer (some ⟨oB, 0, none⟩), .pointer (some ⟨aB, 0, none⟩), .pointer (some ⟨fB, 0, none⟩)]] 109)
section
variable {w w1 w' : World} {ga : Option Addr} {gc n ab tb tB oB aB fB B m : Nat} {an : List (List UInt8)} {out : List Ev.E}
theorem TellAt.call (h : TellAt w ga gc n ab tb tB oB aB fB B m an out) (hb : Below w.heap.size w w') : TellAt w' ga gc n ab tb tB oB aB fB B m an out := by
  obtain ⟨v, h1, h2⟩ := h.oBox
  exact ⟨blk_below h.tBox hb, blk_below h.tel hb, ⟨v, blk_below h1 hb, h2.below hb⟩, blk_below h.aBox hb, blk_below h.anc hb, blk_below h.fBox hb⟩
theorem TellAt.meet (h : TellAt w ga gc n ab tb tB oB aB fB B m an out) : TellAt (w.setCell ⟨tb, 1, none⟩ (.int .i64 ((m + 1 : Nat) : Int))) ga gc n ab tb tB oB aB fB B (m + 1) an out := by
  obtain ⟨v, h1, h2⟩ := h.oBox
  exact ⟨other_set h.tBox _ _ (blk_ne h.tBox h.tel (by decide)), blk_set h.tel 1 _, ⟨v, other_set h1 _ _ (blk_ne h1 h.tel (by decide)), h2.kept h.tel (by decide)⟩, other_set h.aBox _ _ (blk_ne h.aBox h.tel (by decide)), other_set h.anc _ _ (blk_ne h.anc h.tel (by decide)), other_set h.fBox _ _ (blk_ne h.fBox h.tel (by decide))⟩
/-- behind events that were told, and stored -/
theorem TellAt.pushed (h : TellAt w ga gc n ab tb tB oB aB fB B m an out) (hb : Below w.heap.size w w1) {o : Value} (v' : Value) (out' : List Ev.E) (ho : OwnE w' B v' out') (hk : Keep [40] B w1 w') (hv : w.heap[oB]? = some (.cells #[o] 29)) (hB : B ≤ oB) (hBw : B ≤ w.heap.size) :
    TellAt (w'.setCell ⟨oB, 0, none⟩ v') ga gc n ab tb tB oB aB fB B m an out' ∧ Keep tellT B w (w'.setCell ⟨oB, 0, none⟩ v') := by
  have k1 := hk.blk (blk_below h.tBox hb) (by decide)
  have k2 := hk.blk (blk_below h.tel hb) (by decide)
  have k3 := hk.blk (blk_below hv hb) (by decide)
  have k4 := hk.blk (blk_below h.aBox hb) (by decide)
  have k5 := hk.blk (blk_below h.anc hb) (by decide)
  have k6 := hk.blk (blk_below h.fBox hb) (by decide)
  refine ⟨⟨other_set k1 _ _ (blk_ne k1 k3 (by decide)), other_set k2 _ _ (blk_ne k2 k3 (by decide)), ⟨v', blk_set k3 0 _, ho.kept k3 (by decide)⟩, other_set k4 _ _ (blk_ne k4 k3 (by decide)), other_set k5 _ _ (blk_ne k5 k3 (by decide)), other_set k6 _ _ (blk_ne k6 k3 (by decide))⟩, ?_⟩
  exact ((keep_of hb hBw).trans (hk.wide (by decide))).set k3 (by decide) hB
theorem TellAt.keepMeet (h : TellAt w ga gc n ab tb tB oB aB fB B m an out) (hB : B ≤ tb) : Keep tellT B w (w.setCell ⟨tb, 1, none⟩ (.int .i64 ((m + 1 : Nat) : Int))) := keep_set h.tel (by decide) hB
end
end Go.Proofs.YtbimjdlkffbncaaDoor
