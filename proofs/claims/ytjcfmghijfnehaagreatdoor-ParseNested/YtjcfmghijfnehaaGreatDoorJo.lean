/-
  Walks of reader: beginDocument, endDocument, enter.
-/
import Derived.Test.YtjcfmghijfnehaaGreatDoorJm
import Derived.Test.YtjcfmghijfnehaaGreatDoorJn
import Derived.Test.YtjcfmghijfnehaaGreatDoorKc
namespace Go.Proofs.YtjcfmghijfnehaaGreatDoor
open Go.RowKit

theorem RdAt.len {w : World} {B R : Nat} {bv ov : Value} {st : Px.St} (h : RdAt w B R bv ov st) : ∃ a c, bv = .slice a st.blocks.length c := own_slice h.blocks
theorem RdrAt.two {w : World} {B R : Nat} {st : Px.St} (h : RdrAt w B R st) : ∃ ba bc oa oc, RdAt w B R (.slice ba st.blocks.length bc) (.slice oa st.out.length oc) st := by
  obtain ⟨bv, ov, h⟩ := h
  obtain ⟨ba, bc, rfl⟩ := own_slice h.blocks
  obtain ⟨oa, oc, rfl⟩ := own_slice h.out
  exact ⟨ba, bc, oa, oc, h⟩

set_option maxHeartbeats 4000000 in
set_option maxRecDepth 100000 in
theorem begin_any (B R : Nat) (st : Px.St) (w : World) (h : RdrAt w B R st) (hB : B ≤ R) (hb : st.blocks.length ≤ 1000) (hl : st.out.length ≤ 2199023255470) :
    Calls Tryz.prog 113 #[.pointer (some ⟨R, 0, none⟩)] w fun e w' => RdrR B R (.ok (Px.beginDoc st)) e w' ∧ Keep rdT B w w' := by
  obtain ⟨ba, bc, oa, oc, h⟩ := h.two
  have hR := h.lt
  have hBw : B ≤ w.heap.size := by omega
  have HR := Lib.hid h
  obtain ⟨⟨c0, c1, c2, c3⟩, f0, f1, f2, f3⟩ := four h.cell
  clear h
  go_enter Tryz.func113, Tryz.ntmps113
  go_wp2_with (first
    | (at_builtin; refine wpList_pushE (by rfl) (.tmp 6) (.tmp 8) (by rfl) B (.slice oa st.out.length oc) st.out (Px.ev 0) _ _ (0, 0) (by rfl) (by rfl) ?_ ?_ ?_ ?_ ?_; (exact new_at _ _ _ (by simp)); (exact row_below HR.out.out (bnew _ _)); omega; (exact Nat.le_trans hBw (bnew w (.cells #[.int .i64 0, .string ⟨#[]⟩, .string ⟨#[]⟩, .string ⟨#[]⟩, .bool false] 47)).size); intro v1 w1 ho1 hk1 hb1; have HC1 := Lib.hid (hk1.blk (new_blk _ _ (.cells #[.int .i64 0, .string ⟨#[]⟩, .string ⟨#[]⟩, .string ⟨#[]⟩, .bool false] 47) _ HR.out.cell) (by decide)); have HB1 := Lib.hid (hk1.row (row_below HR.out.blocks (bnew _ (.cells #[.int .i64 0, .string ⟨#[]⟩, .string ⟨#[]⟩, .string ⟨#[]⟩, .bool false] 47))) (by decide)); have HK1 := Lib.hid ((keep_of (ts := rdT) (bnew w (.cells #[.int .i64 0, .string ⟨#[]⟩, .string ⟨#[]⟩, .string ⟨#[]⟩, .bool false] 47)) hBw).trans (hk1.wide (by decide))); obtain ⟨va, vc, rfl⟩ := own_slice ho1; have HO1 := Lib.hid (show OwnE w1 B (.slice va (st.out.length + 1) vc) (st.out ++ [Px.ev 0]) from (by have h := ho1; rw [List.length_append] at h; exact h)); clear ho1 hk1 hb1 c0 c1 c2 c3 f0 f1 f2 f3; obtain ⟨⟨c0, c1, c2, c3⟩, f0, f1, f2, f3⟩ := four HC1.out; have HR2 := Lib.hid (show RdAt (w1.setCell ⟨R, 3, none⟩ (.slice va (st.out.length + 1) vc)) B R _ _ ⟨st.blocks, st.held, st.out ++ [Px.ev 0]⟩ from ⟨blk_set HC1.out 3 _, row_set HB1.out HC1.out (by decide), row_set HO1.out HC1.out (by decide)⟩); have HK2 := Lib.hid (HK1.out.set (i := 3) (v := .slice va (st.out.length + 1) vc) HC1.out (by decide) hB); obtain ⟨⟨d0, d1, d2, d3⟩, g0, g1, g2, g3⟩ := four HR2.out.cell)
    | (at_builtin; refine wpList_pushB (by rfl) (.tmp 16) (.tmp 18) (by rfl) B (.slice ba st.blocks.length bc) st.blocks Px.doc _ _ (0, 0) (by rfl) (by rfl) ?_ ?_ ?_ ?_ ?_; (exact new_at _ _ _ (by simp [World.setCell])); (exact row_below HR2.out.blocks (bnew _ _)); omega; (exact Nat.le_trans hBw (HK2.out.call (bnew _ (.cells #[.int .i64 0, .int .i64 1, .int .i64 (-1), .bool true] 193)) hBw).size); intro v3 w3 ho3 hk3; have HC3 := Lib.hid (hk3.blk (new_blk _ _ (.cells #[.int .i64 0, .int .i64 1, .int .i64 (-1), .bool true] 193) _ HR2.out.cell) (by decide)); have HO3 := Lib.hid (hk3.row (row_below HR2.out.out (bnew _ (.cells #[.int .i64 0, .int .i64 1, .int .i64 (-1), .bool true] 193))) (by decide)); have HK3 := Lib.hid ((HK2.out.call (bnew _ (.cells #[.int .i64 0, .int .i64 1, .int .i64 (-1), .bool true] 193)) hBw).trans (hk3.wide (by decide))); obtain ⟨vb, vd, rfl⟩ := own_slice ho3; have HB3 := Lib.hid ho3; clear ho3 hk3; obtain ⟨⟨e0, e1, e2, e3⟩, i0, i1, i2, i3⟩ := four HC3.out))
  go_end0
  exact ⟨⟨rfl, _, _, ⟨blk_set HC3.out 0 _, row_set HB3.out HC3.out (by decide), row_set HO3.out HC3.out (by decide)⟩⟩, HK3.out.set (i := 0) HC3.out (by decide) hB⟩
end Go.Proofs.YtjcfmghijfnehaaGreatDoor
