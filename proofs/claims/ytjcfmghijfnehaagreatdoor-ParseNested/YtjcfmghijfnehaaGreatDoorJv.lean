/-
  The walk of documentsOf.
-/
import Derived.Test.YtjcfmghijfnehaaGreatDoorJu
import Derived.Test.YtjcfmghijfnehaaGreatDoorLu
namespace Go.Proofs.YtjcfmghijfnehaaGreatDoor
open Go.RowKit
/-- a row of words that a call owns reads as words -/
theorem rowW_rd {w : World} {B : Nat} {v : Value} {ws : List Lx.Wd} (h : OwnW w B v ws) : RdW w w.heap.size v ws := by
  obtain ⟨a, c, rfl⟩ := own_slice h
  by_cases h0 : 0 < ws.length
  · obtain ⟨_, hc, g, rfl, hg, hcl⟩ := OwnW.cells h h0
    refine ⟨_, c, rfl, hc, fun _ => ⟨g, 0, rfl, hg, fun j hj => ?_⟩⟩
    obtain ⟨c0, c1, c2⟩ := hcl j hj
    rw [Nat.zero_add]
    exact ⟨c0, c1, c2⟩
  · have h1 : ws = [] := List.eq_nil_of_length_eq_zero (by omega)
    subst h1
    exact ⟨a, c, rfl, Nat.zero_le _, fun h => absurd h (by simp)⟩
/-- a line lies at a place -/
structure LnAt (w : World) (B g o : Nat) (x : Lx.Ln) : Prop where
  mark : w.cell? ⟨g, o, none⟩ = some (.int .i64 x.mark)
  indent : w.cell? ⟨g, o + 1, none⟩ = some (.int .i64 x.indent)
  words : ∃ a c, w.cell? ⟨g, o + 2, none⟩ = some (.slice a x.words.length c) ∧ RdW w B (.slice a x.words.length c) x.words
  text : w.cell? ⟨g, o + 3, none⟩ = some (.string (str x.text))
theorem LnAt.below {w w' : World} {B g o : Nat} {x : Lx.Ln} (h : LnAt w B g o x) (hb : Below B w w') (hg : g < B) : LnAt w' B g o x := by
  obtain ⟨h0, h1, ⟨a, c, h2, h3⟩, h4⟩ := h
  exact ⟨(hb.cell (p := ⟨g, o, none⟩) hg).trans h0, (hb.cell (p := ⟨g, o + 1, none⟩) hg).trans h1, ⟨a, c, (hb.cell (p := ⟨g, o + 2, none⟩) hg).trans h2, h3.below hb⟩, (hb.cell (p := ⟨g, o + 3, none⟩) hg).trans h4⟩
/-- a slice that reads as a row of lines -/
def RdL (w : World) (B : Nat) (v : Value) (ls : List Lx.Ln) : Prop :=
  ∃ a c, v = .slice a ls.length c ∧ ls.length ≤ c ∧ (0 < ls.length → ∃ g, a = some ⟨g, 0, none⟩ ∧ g < B ∧ ∀ j (hj : j < ls.length), LnAt w B g (j * 4) ls[j])
theorem RdL.below {w w' : World} {B : Nat} {v : Value} {ls : List Lx.Ln} (h : RdL w B v ls) (hb : Below B w w') : RdL w' B v ls := by
  obtain ⟨a, c, hv, hc, h1⟩ := h
  refine ⟨a, c, hv, hc, fun h0 => ?_⟩
  obtain ⟨g, ha, hg, hcl⟩ := h1 h0
  exact ⟨g, ha, hg, fun j hj => (hcl j hj).below hb hg⟩
/-- lines that a call owns read as lines -/
theorem rowL_rd {w : World} {B : Nat} {v : Value} {ls : List Lx.Ln} (h : OwnL w B v ls) : RdL w w.heap.size v ls := by
  by_cases h0 : 0 < ls.length
  · obtain ⟨g, c, rfl, hc, hg, hcl⟩ := h.cells h0
    refine ⟨_, c, rfl, hc, fun _ => ⟨g, rfl, hg, fun j hj => ?_⟩⟩
    obtain ⟨c0, c1, ⟨a, k, c2, hw⟩, c3⟩ := hcl j hj
    exact ⟨c0, c1, ⟨a, k, c2, rowW_rd hw⟩, c3⟩
  · have h1 : ls = [] := List.eq_nil_of_length_eq_zero (by omega)
    subst h1
    obtain ⟨ps, h1, h2, h3⟩ := h
    obtain ⟨a, c, rfl⟩ := own_slice h2
    exact ⟨a, c, rfl, Nat.zero_le _, fun h => absurd h (by simp)⟩
/-- how much lines may tell -/
def lnsW : List Lx.Ln → Nat
  | [] => 0
  | x :: t => 5 * x.words.length + 9 + lnsW t
theorem lnsW_len : ∀ ls, 9 * ls.length ≤ lnsW ls
  | [] => Nat.le_refl _
  | x :: t => by have := lnsW_len t; unfold lnsW; rw [List.length_cons]; omega
def DocR (B : Nat) (o : Except Nat (List Ev.E)) (e : Ending) (w' : World) : Prop := match o with
  | .ok es => ∃ v, e = .returned v ∧ OwnE w' B v es
  | .error n => e = fault n
set_option maxHeartbeats 2000000 in
theorem documents_any (v : Value) (ls : List Lx.Ln) (w : World) (hL : RdL w w.heap.size v ls) (hl : lnsW ls ≤ 2199023255000) :
    Calls Tryz.prog 35 #[v] w fun e w' => DocR w.heap.size (Px.events ls) e w' ∧ Below w.heap.size w w' := by
  obtain ⟨ANS, hANS⟩ : ∃ ANS, Px.docsGo ls Px.st0 = ANS := ⟨_, rfl⟩
  unfold Px.events
  rw [hANS]
  have HA : Hid (Px.docsGo ls Px.st0 = ANS) := hANS
  have HL := Lib.hid hL
  have hln := lnsW_len ls
  obtain ⟨va, vc, rfl, hvc, _⟩ := hL
  clear hANS
  go_enter Tryz.func35, Tryz.ntmps35
  go_wp2
  go_loopw [10] (fun i wr => ∃ (j : Nat) (s : Px.St), j ≤ ls.length ∧ i = .int .i64 j ∧ Hid (RdrAt wr w.heap.size w.heap.size s) ∧ Hid (Px.docsGo (ls.drop j) s = ANS) ∧ Hid (Below w.heap.size w wr) ∧ s.blocks.length ≤ 41 ∧ Px.wt s + lnsW (ls.drop j) ≤ 2199023255000) (fun i _ => ls.length - (intOf i).toNat)
  case atStart => exact ⟨0, Px.st0, by omega, rfl, Lib.hid ⟨_, _, ⟨alloc_blk w _, World.ownsRow_nil _ _ _ _, World.ownsRow_nil _ _ _ _⟩⟩, HA, Lib.hid (bnew w _), by unfold Px.st0; simp, by unfold Px.st0 Px.wt; simpa using hl⟩
  case round =>
    obtain ⟨j, s, hj, rfl, HS, HK, HB, hsb, hsl⟩ := hrel
    clear HA
    have hBr := HB.out.size
    by_cases hlt : j < ls.length
    · have hK := HK.out
      rw [List.drop_eq_getElem_cons hlt] at hK hsl
      unfold Px.docsGo at hK
      unfold lnsW at hsl
      have HL2 := Lib.hid (HL.out.below HB.out)
      obtain ⟨_, _, hv, _, hcl⟩ := HL2.out
      cases hv
      obtain ⟨g, rfl, hg, hcl⟩ := hcl (by omega)
      obtain ⟨c0, c1, ⟨wa, wc, c2, hW⟩, c3⟩ := hcl j hlt
      have CLN := fun w1 (hb : Below wr.heap.size wr w1) => line_any w.heap.size w.heap.size s ls[j] wa wc w1 (HS.out.call hb) (Nat.le_refl _) hsb (by omega) (hW.below (hb.mono hBr))
      have hwt := fun s' (h : Px.lineIn s ls[j] = .ok s') => Px.line_wt s s' ls[j] h hsb
      clear hcl HK hW HL2
      generalize ls[j] = x at *
      unfold RdrR at CLN
      cases hx : Px.lineIn s x with
      | error n =>
        rw [hx] at hK CLN
        simp only at hK CLN
        unfold fault at CLN
        subst hK
        go_wp2_with (go_at_call 67; refine (CLN _ (bnew wr _)).mono ?_; rintro e w2 ⟨rfl, hk2⟩)
        exact ⟨rfl, rfl, (HB.out.trans (Below.mono (bnew wr _) hBr)).trans hk2.below⟩
      | ok s' =>
        rw [hx] at hK CLN
        simp only at hK CLN
        obtain ⟨hw1, hw2⟩ := hwt s' hx
        have HK := Lib.hid hK
        clear hK hwt hx
        go_wp2_with (go_at_call 67; refine (CLN _ (bnew wr _)).mono ?_; rintro e w2 ⟨⟨rfl, hr2⟩, hk2⟩)
        go_roundw
        case rel => exact ⟨j + 1, s', by omega, by go_num, Lib.hid hr2, HK, Lib.hid ((HB.out.trans (Below.mono (bnew wr _) hBr)).trans hk2.below), hw2, by omega⟩
        case measure => simp [intOf]; omega
    · have hje : j = ls.length := by omega
      subst hje
      have hK := HK.out
      rw [List.drop_of_length_le (Nat.le_refl _)] at hK hsl
      unfold Px.docsGo at hK
      subst hK
      have CE := Lib.hid (end_any' w.heap.size w.heap.size s wr HS.out (Nat.le_refl _) (by omega) (by omega))
      unfold RdrR at CE
      simp only at CE
      clear HK
      go_wp2_with (go_at_call 68; refine (CE.out).mono ?_; rintro e w2 ⟨⟨rfl, ⟨bv, ov, hr⟩⟩, hk2⟩; obtain ⟨⟨f0, f1, f2, f3⟩, _⟩ := four hr.cell)
      go_ret
      exact ⟨⟨_, rfl, hr.out⟩, HB.out.trans hk2.below⟩
end Go.Proofs.YtjcfmghijfnehaaGreatDoor
