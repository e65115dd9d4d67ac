/-
  Rows of the document's own lines: what a call owns, 'append' onto them; the walks of grillelaw05.Ours and of grilleref05.Same (at rows that are the same).
-/
import Derived.Test.YtmhakkahclbbjaaGreatDoorOa
import Derived.Deep.RegionHeld3
import Derived.Deep.AppendLies
namespace Go.Proofs.YtmhakkahclbbjaaGreatDoor
open Go.RowKit

/-- lines of the document's that the call owns -/
def OwnLR (w : World) (B : Nat) (v : Value) (ls : List Lx.Ln) : Prop :=
  ∃ ps : List (Lx.Ln × Value), ps.map (·.1) = ls ∧ w.ownsRow B 53 4 v ls.length (lineCells ps) ∧ ∀ p ∈ ps, OwnWR w B p.2 p.1.words
theorem OwnLR.below {w w' : World} {B : Nat} {v : Value} {ls : List Lx.Ln} (h : OwnLR w B v ls) (hb : Below w.heap.size w w') : OwnLR w' B v ls := by
  obtain ⟨ps, h1, h2, h3⟩ := h
  exact ⟨ps, h1, row_below h2 hb, fun p hp => row_below (h3 p hp) hb⟩
theorem ownLR_nil (w : World) (B : Nat) : OwnLR w B (.slice none 0 0) [] := ⟨[], rfl, World.ownsRow_nil _ _ _ _, fun p hp => by cases hp⟩
theorem infoLR : (Tryz.prog.info? 53).map (fun i => (i.zero, i.size, i.bytes)) = some (some (.agg #[.int .i64 0, .int .i64 0, .slice none 0 0, .string ⟨#[]⟩]), 4, 56) := by kernel_rfl
theorem OwnLR.form {w : World} {B : Nat} {v : Value} {ls : List Lx.Ln} (h : OwnLR w B v ls) : ∃ a c, v = .slice a ls.length c := by
  obtain ⟨ps, h1, h2, h3⟩ := h
  exact own_slice h2
theorem OwnLR.len {w : World} {B : Nat} {v : Value} {ls : List Lx.Ln} (h : OwnLR w B v ls) : ls.length ≤ 9223372036854775807 := by
  obtain ⟨ps, h1, h2, h3⟩ := h
  exact own_len h2

/-- the cells of lines of the document's -/
theorem OwnLR.cells {w : World} {B : Nat} {v : Value} {ls : List Lx.Ln} (h : OwnLR w B v ls) (hn : 0 < ls.length) : ∃ g c, v = .slice (some ⟨g, 0, none⟩) ls.length c ∧ ls.length ≤ c ∧ g < w.heap.size ∧ ∀ (j : Nat) (hj : j < ls.length), w.cell? ⟨g, j * 4, none⟩ = some (.int .i64 (ls[j]).mark) ∧ w.cell? ⟨g, j * 4 + 1, none⟩ = some (.int .i64 (ls[j]).indent) ∧ (∃ a c, w.cell? ⟨g, j * 4 + 2, none⟩ = some (.slice a (ls[j]).words.length c) ∧ OwnWR w B (.slice a (ls[j]).words.length c) (ls[j]).words) ∧ w.cell? ⟨g, j * 4 + 3, none⟩ = some (.string (str (ls[j]).text)) := by
  obtain ⟨ps, h1, h2, h3⟩ := h
  subst h1
  rw [List.length_map] at hn h2
  have h2' := h2
  rcases h2.2 with ⟨e, h0⟩ | ⟨g, cap, cur, e, hB, hh, hnc, hr⟩
  · omega
  · subst e
    refine ⟨g, cap, by rw [List.length_map], by rw [List.length_map]; exact hnc, (Array.getElem?_eq_some_iff.1 hh).1, fun j hj => ?_⟩
    rw [List.length_map] at hj
    have hc := World.ownsRow.cells h2' (g := g) rfl
    have hadd : ∀ k, (⟨g, 0, none⟩ : Addr).add k = ⟨g, k, none⟩ := fun k => by unfold Addr.add; split <;> simp_all
    obtain ⟨e0, e1, e2, e3⟩ := lineCells_at ps j hj
    have a0 := hc _ _ e0
    have a1 := hc _ _ e1
    have a2 := hc _ _ e2
    have a3 := hc _ _ e3
    rw [hadd] at a0 a1 a2 a3
    rw [List.getElem_map]
    have hw := h3 ps[j] (List.getElem_mem hj)
    obtain ⟨a, c, hv⟩ := own_slice hw
    refine ⟨a0, a1, ⟨a, c, by rw [← hv]; exact a2, by rw [← hv]; exact hw⟩, a3⟩

/-- lines, and one more, out of what an append gives -/
theorem OwnLR.snoc {w0 w1 w' : World} {B : Nat} {v v' : Value} {ls : List Lx.Ln} (y : Lx.Ln) (u : Value) (ps : List (Lx.Ln × Value)) (h1 : ps.map (·.1) = ls) (h2 : w1.ownsRow B 53 4 v ls.length (lineCells ps)) (h3 : ∀ p ∈ ps, OwnWR w1 B p.2 p.1.words) (hu : OwnWR w1 B u y.words)
    (hown : w'.ownsRow B 53 4 v' (ls.length + 1) (lineCells ps ++ [.int .i64 y.mark, .int .i64 y.indent, u, .string (str y.text)])) (hb : Below w1.heap.size w1 w0) (hg : w0.grownBy w' v.ownBlock) : OwnLR w' B v' (ls ++ [y]) := by
  have hkw : ∀ q ws, OwnWR w1 B q ws → OwnWR w' B q ws := fun q ws hq => row_kept hq fun k hk => by
    have hlt := (World.ownsRow.lt hq k hk).2
    rw [hg.block k (Nat.lt_of_lt_of_le hlt hb.size) (fun e => own_ne h2 hq (by decide) hk e.symm)]
    exact hb.block k hlt
  refine ⟨ps ++ [(y, u)], by rw [List.map_append, h1]; rfl, ?_, ?_⟩
  · rw [List.length_append, lineCells_snoc]; exact hown
  · intro p hp
    rcases List.mem_append.1 hp with hp | hp
    · exact hkw _ _ (h3 p hp)
    · simp only [List.mem_cons, List.not_mem_nil, or_false] at hp
      subst hp
      exact hkw _ _ hu

/-- what Ours of lines answers -/
def OwnsLR (B : Nat) (ls : List Lx.Ln) (e : Ending) (w' : World) : Prop := ∃ u, e = .returned u ∧ OwnLR w' B u ls

set_option maxHeartbeats 4000000 in
set_option maxRecDepth 100000 in
theorem oursL_any (v : Value) (B : Nat) (ls : List Lx.Ln) (w : World) (hown : OwnL w B v ls) (hl : ls.length ≤ 1000000) (hw : ∀ x ∈ ls, x.words.length ≤ 1000000) :
    Calls Tryz.prog 12 #[v] w fun e w' => OwnsLR w.heap.size ls e w' ∧ Below w.heap.size w w' := by
  have HO := Lib.hid hown
  have HW := Lib.hid hw
  obtain ⟨a, c, rfl⟩ : ∃ a c, v = .slice a ls.length c := by obtain ⟨ps, h1, h2, h3⟩ := hown; exact own_slice h2
  clear hown hw
  go_enter Tryz.func12, Tryz.ntmps12
  go_wp2
  go_loopw [3, 8] (fun o i wr => ∃ j : Nat, j ≤ ls.length ∧ i = .int .i64 j ∧ OwnLR wr w.heap.size o (ls.take j) ∧ Below w.heap.size w wr) (fun _ i _ => ls.length - (intOf i).toNat)
  case atStart => exact ⟨0, by omega, rfl, ownLR_nil _ _, Below.refl _ _⟩
  case round =>
    obtain ⟨j, hj, rfl, hout, hbw⟩ := hrel
    have hBr := hbw.size
    by_cases hlt : j < ls.length
    · obtain ⟨g, cc, e, hnc, hg, hcl⟩ := HO.out.cells (by omega)
      cases e
      obtain ⟨d0, d1, ⟨wa, wc, d2, ow⟩, d3⟩ := hcl j hlt
      have hwl := HW.out ls[j] (List.getElem_mem hlt)
      have HT := Lib.hid (List.take_succ_eq_append_getElem hlt)
      clear hcl
      generalize ls[j] = x at *
      obtain ⟨xm, xi, xw, xt⟩ := x
      simp only at d0 d1 d2 d3 ow hwl
      have c0 := (hbw.cell (p := ⟨g, j * 4, none⟩) hg).trans d0
      have c1 := (hbw.cell (p := ⟨g, j * 4 + 1, none⟩) hg).trans d1
      have c2 := (hbw.cell (p := ⟨g, j * 4 + 2, none⟩) hg).trans d2
      have c3 := (hbw.cell (p := ⟨g, j * 4 + 3, none⟩) hg).trans d3
      have OW := Lib.hid (ow : OwnW w B (.slice wa xw.length wc) xw)
      clear d0 d1 d2 d3 ow
      obtain ⟨ps, hp1, hp2, hp3⟩ := hout
      have htl : (ls.take j).length ≤ 1000000 := by rw [List.length_take]; omega
      obtain ⟨i0, hi, hz0, hz1, hz2⟩ := info_parts infoLR
      have HP1 := Lib.hid hp1
      have HP2 := Lib.hid hp2
      have HP3 := Lib.hid hp3
      have I0 := Lib.hid hi
      have I1 := Lib.hid hz0
      have I2 := Lib.hid hz1
      have I3 := Lib.hid hz2
      clear hp1 hp2 hp3 hi hz0 hz1 hz2
      go_wp2
      have hb0 := bnew wr (.cells #[.int .i64 xm, .int .i64 xi, .slice wa xw.length wc, .string (str xt)] 30)
      have hk0 : (wr.alloc (.cells #[.int .i64 xm, .int .i64 xi, .slice wa xw.length wc, .string (str xt)] 30)).heap[wr.heap.size]? = some (.cells #[.int .i64 xm, .int .i64 xi, .slice wa xw.length wc, .string (str xt)] 30 (0, 0)) := by show (wr.heap.push _)[wr.heap.size]? = _; simp
      have hsz : (wr.alloc (.cells #[.int .i64 xm, .int .i64 xi, .slice wa xw.length wc, .string (str xt)] 30)).heap.size = wr.heap.size + 1 := by rw [World.size_alloc]
      generalize wr.alloc (.cells #[.int .i64 xm, .int .i64 xi, .slice wa xw.length wc, .string (str xt)] 30) = W0 at *
      have HB0 := Lib.hid (hbw.trans (hb0.mono hBr))
      have ag : u3.ownBlock ≠ some wr.heap.size := fun e => Nat.lt_irrefl _ (World.ownsRow.lt HP2.out _ e).2
      have HP2' := Lib.hid (row_below HP2.out hb0)
      have HP3' := Lib.hid (fun p hp => row_below (HP3.out p hp) hb0)
      have OW0 : Hid (OwnW W0 B (.slice wa xw.length wc) xw) := row_below OW.out (HB0.out)
      have k0 := cell_blk hk0 0 (.int .i64 xm) rfl
      have k1 := cell_blk hk0 1 (.int .i64 xi) rfl
      have k2 := cell_blk hk0 2 (.slice wa xw.length wc) rfl
      have k3 := cell_blk hk0 3 (.string (str xt)) rfl
      have hDlt : wr.heap.size < W0.heap.size := by omega
      have HSZ := Lib.hid hsz
      generalize wr.heap.size = D at *
      clear c0 c1 c2 c3 hk0 hsz HP2 HP3
      go_region_held3 (fun w' => w'.cell? ⟨D, 0, none⟩ = some (.int .i64 xm) ∧ w'.cell? ⟨D, 1, none⟩ = some (.int .i64 xi) ∧ w'.cell? ⟨D, 2, none⟩ = some (.slice wa xw.length wc) ∧ w'.cell? ⟨D, 3, none⟩ = some (.string (str xt)))
        (first
          | go_keep
          | (go_split_ands
             refine ⟨?_, ?_, ?_, ?_⟩ <;> (rw [hgrow.cell_far _ (by simp; omega) (Ne.symm ag)]; assumption))
          | (go_split_ands
             refine ⟨?_, ?_, ?_, ?_⟩ <;> (rw [hb2.cell (by exact hDlt)]; assumption)))
        (first
          | (go_at_call 27; refine (oursW_any _ B xw _ (by exact OW0.out) hwl).mono ?_; rintro e w2 ⟨⟨u, rfl, hu⟩, hb2⟩; obtain ⟨ua, uc, rfl⟩ := own_slice hu; have hb2' : Below W0.heap.size W0 w2 := ⟨hb2.os, hb2.tape, hb2.output, hb2.size, hb2.block⟩; have hs2 := hb2'.size)
          | (refine step_append_lies _ (by rfl) _ _ _ (by rfl) w.heap.size 53 i0 _ 4 56 Tryz.underlying34 I0.out I1.out I2.out I3.out rfl (by omega) u3 (ls.take j).length (lineCells ps) (by rfl) (by first | exact (World.ownsRow.alloc (row_below HP2'.out hb2') _) | exact (World.ownsRow.alloc (row_below HP2'.out hb2') _).drew) ⟨w2.heap.size, 0, none⟩ 1 1 [.int .i64 xm, .int .i64 xi, .slice ua xw.length uc, .string (str xt)] (by rfl) (by rfl) (World.news_of_block (cs := #[.int .i64 xm, .int .i64 xi, .slice ua xw.length uc, .string (str xt)]) (t := 53) (fr := (0, 0)) (heap_alloc_new w2 _)) (by simp [Value.oneCell']) (by omega) (by simp only [maxLen]; omega) (by omega) (by simp; omega) (w2.heap.size + 1) (by simp) ?_; intro gg cap w3 hown3 hgrow hat hlt3))
      go_wp2
      go_roundw
      case rel =>
        have hjl : (ls.take j).length = j := by rw [List.length_take]; omega
        have hsn := OwnLR.snoc ⟨xm, xi, xw, xt⟩ (.slice ua xw.length uc) ps HP1.out (row_below HP2'.out hb2') (fun p hp => row_below (HP3'.out p hp) hb2') (row_base hu HB0.out.size) hown3 (bnew w2 _) hgrow
        rw [hjl] at hsn
        have hb3 : Below w.heap.size w2 w3 := ((Below.refl w.heap.size w2).alloc (Nat.le_trans HB0.out.size hs2) _).grown hgrow (by rw [World.size_alloc]; have := HB0.out.size; omega) (fun k hk => (World.ownsRow.lt HP2'.out k hk).1)
        exact ⟨j + 1, by omega, by go_num, by rw [HT.out]; exact hsn, (HB0.out.trans (hb2'.mono HB0.out.size)).trans hb3⟩
      case measure => simp [intOf]; omega
    · have hje : j = ls.length := by omega
      subst hje
      have HT := Lib.hid (List.take_of_length_le (Nat.le_refl ls.length))
      have HOUT := Lib.hid hout
      clear hout
      go_wp2
      go_ret
      exact ⟨⟨_, rfl, by have := HOUT.out; rw [HT.out] at this; exact this⟩, hbw⟩

theorem quiet_drew {P : Program} {f : FuncId} {args : Array Value} {w : World} {n : Nat} {v : Value}
    (h : Calls P f args (w.drewN n) fun e w' => e = .returned v ∧ ∃ m, w' = (w.drewN n).drewN m) :
    Calls P f args (w.drewN n) fun e w'' => e = .returned v ∧ ∃ m, w'' = w.drewN m :=
  h.mono fun _ _ ⟨he, m, hm⟩ => ⟨he, n + m, by rw [hm, World.drewN_drewN]⟩
theorem quiet_drew_add {P : Program} {f : FuncId} {args : Array Value} {w : World} {a n : Nat} {v : Value}
    (h : Calls P f args (w.drewN (a + n)) fun e w' => e = .returned v ∧ ∃ m, w' = (w.drewN (a + n)).drewN m) :
    Calls P f args (w.drewN (a + n)) fun e w'' => e = .returned v ∧ ∃ m, w'' = w.drewN (a + m) :=
  h.mono fun _ _ ⟨he, m, hm⟩ => ⟨he, n + m, by rw [hm, World.drewN_drewN, Nat.add_assoc]⟩

set_option maxHeartbeats 4000000 in
set_option maxRecDepth 100000 in
theorem sameL_any (v u : Value) (B C : Nat) (ls : List Lx.Ln) (w : World) (h1 : OwnLR w B v ls) (h2 : OwnLR w C u ls) :
    Calls Tryz.prog 11 #[v, u] w fun e w' => e = .returned (.bool true) ∧ ∃ n, w' = w.drewN n := by
  obtain ⟨a, c, rfl⟩ := h1.form
  obtain ⟨b, d, rfl⟩ := h2.form
  have hln := h1.len
  have H1 := Lib.hid h1
  have H2 := Lib.hid h2
  clear h1 h2
  go_enter Tryz.func11, Tryz.ntmps11
  go_wp2
  go_loopw [5] (fun i wr => ∃ j n : Nat, j ≤ ls.length ∧ i = .int .i64 j ∧ wr = w.drewN n) (fun i _ => ls.length - (intOf i).toNat)
  case atStart => exact ⟨0, 0, by omega, rfl, rfl⟩
  case round =>
    obtain ⟨j, n, hj, rfl, rfl⟩ := hrel
    by_cases hlt : j < ls.length
    · obtain ⟨g, cc, e, hnc, hg, hcl⟩ := H1.out.cells (by omega)
      cases e
      obtain ⟨q, dd, e, hnd, hq, hql⟩ := H2.out.cells (by omega)
      cases e
      obtain ⟨c0, c1, ⟨wa, wc, c2, ow⟩, c3⟩ := hcl j hlt
      obtain ⟨d0, d1, ⟨va, vc, d2, ov⟩, d3⟩ := hql j hlt
      clear hcl hql
      have hi0 : (0 : Int) ≤ (j : Int) := Int.natCast_nonneg _
      have hi1 : (j : Int) < (ls.length : Int) := by omega
      generalize ls[j] = x at *
      obtain ⟨xm, xi, xw, xt⟩ := x
      simp only at c0 c1 c2 c3 d0 d1 d2 d3 ow ov
      have CS : Hid (∀ m, Calls Tryz.prog 26 #[.slice wa xw.length wc, .slice va xw.length vc] (w.drewN m) fun e w' => e = .returned (.bool true) ∧ ∃ k, w' = (w.drewN m).drewN k) := fun m => sameW_any _ _ B C xw (w.drewN m) ow ov
      clear ow ov
      go_wp2
      go_quiet (first | (go_at_call 26; exact quiet_drew_add (CS.out _)) | (go_at_call 26; exact quiet_drew (CS.out _)))
      go_wp2
      go_roundw
      case rel => exact ⟨j + 1, _, by omega, by go_num, rfl⟩
      case measure => simp [intOf]; omega
    · have hje : j = ls.length := by omega
      subst hje
      go_wp2
      go_ret
      exact ⟨rfl, _, rfl⟩
end Go.Proofs.YtmhakkahclbbjaaGreatDoor
