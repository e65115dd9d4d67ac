/-
  Walks of compose: groupTag, scalarTag, Tag.
  The walk of layer 10's alive.
-/
import Derived.Test.YtbimjdlkffbncaaDoorFc
import Derived.Test.YtbimjdlkffbncaaDoorFj
namespace Go.Proofs.YtbimjdlkffbncaaDoor
open Go.RowKit
def tagE (o : Except Int (List UInt8)) : Ending := match o with
  | .ok t => .returned (.tuple #[.string (str t), .int .i64 0])
  | .error k => .returned (.tuple #[.string ⟨#[]⟩, .int .i64 k])
theorem str_eqb (a b : List UInt8) (h : a = b) : ((str a).toList == (str b).toList) = true := by rw [str_same, h]; simp
theorem str_neb (a b : List UInt8) (h : ¬ a = b) : ((str a).toList == (str b).toList) = false := by rw [str_same]; exact beq_eq_false_iff_ne.2 h
theorem str_nemp (a : List UInt8) (h : ¬ a = []) : ((str a).toList.isEmpty) = false := by
  rw [str_toL]
  cases a with
  | nil => exact absurd rfl h
  | cons b t => rfl
theorem str_neN (a : List UInt8) (h : ¬ a = []) : ((str a).toList == []) = false := by
  rw [str_toL]; exact beq_eq_false_iff_ne.2 h

set_option maxHeartbeats 2000000 in
theorem groupTag_any (c t : List UInt8) (w : World) (ht : t.length ≤ 1000000) :
    Calls Tryd.prog 46 #[.string (str c), .string (str t)] w fun e w' => e = tagE (Co.groupTag c t) ∧ Below w.heap.size w w' := by
  have cR := Lib.hid (Tag.right_any (str t) w (by rw [str_len]; exact ht))
  have cC := Lib.hid (fun w => Tag.core_any (str t) w)
  unfold Co.groupTag
  by_cases h0 : t = []
  · subst h0
    rw [if_pos (.inl rfl)]
    rw [str_nil]
    go_enter Tryd.func46, Tryd.ntmps46
    go_wp2
    go_ret2
    exact ⟨rfl, Below.refl _ _⟩
  · have n0 := str_nemp t h0
    have n1 := str_neN t h0
    by_cases h1 : t = c
    · subst h1
      rw [if_pos (.inr rfl)]
      go_enter Tryd.func46, Tryd.ntmps46
      go_wp2
      go_ret2
      exact ⟨rfl, Below.refl _ _⟩
    · rw [if_neg (by rintro (h | h); exact h0 h; exact h1 h)]
      have n2 := str_neb t c h1
      rw [str_dat] at cR
      have cC : Hid (∀ w : World, Calls Tryd.prog 80 #[.string (str t)] w fun e w' => e = .returned (.bool (Tg.core t)) ∧ w = w') := fun w => by have h := cC.out w; rw [str_dat] at h; exact h
      cases hr : Tg.right t
      · rw [hr] at cR
        rw [if_neg (by rintro ⟨h, _⟩; cases h)]
        go_enter Tryd.func46, Tryd.ntmps46
        go_wp2_with (go_at_call 79; refine cR.out.mono ?_; rintro e w1 ⟨rfl, hb1⟩)
        go_ret2
        exact ⟨rfl, hb1⟩
      · rw [hr] at cR
        cases hc : Tg.core t
        · rw [hc] at cC
          rw [if_pos ⟨rfl, rfl⟩]
          go_enter Tryd.func46, Tryd.ntmps46
          go_wp2_with (first
            | (go_at_call 79; refine cR.out.mono ?_; rintro e w1 ⟨rfl, hb1⟩)
            | (go_at_call 80; refine (cC.out _).mono ?_; rintro e w2 ⟨rfl, rfl⟩))
          go_ret2
          exact ⟨rfl, hb1⟩
        · rw [hc] at cC
          rw [if_neg (by rintro ⟨_, h⟩; cases h)]
          go_enter Tryd.func46, Tryd.ntmps46
          go_wp2_with (first
            | (go_at_call 79; refine cR.out.mono ?_; rintro e w1 ⟨rfl, hb1⟩)
            | (go_at_call 80; refine (cC.out _).mono ?_; rintro e w2 ⟨rfl, rfl⟩))
          go_ret2
          exact ⟨rfl, hb1⟩

set_option maxHeartbeats 4000000 in
theorem scalarTag_any (x : Ev.E) (w : World) (ht : x.tag.length ≤ 1000000) (hs : x.text.length ≤ 1000000) :
    Calls Tryd.prog 45 #[evV x] w fun e w' => e = tagE (Co.scalarTag x.tag x.text x.plain) ∧ Below w.heap.size w w' := by
  obtain ⟨k, an, tg, tx, pl⟩ := x
  simp only at ht hs ⊢
  unfold evV Co.scalarTag
  simp only
  have b0 := bnew w (.cells #[.int .i64 k, .string (str an), .string (str tg), .string (str tx), .bool pl] 40)
  have k0 := alloc_blk w (.cells #[.int .i64 k, .string (str an), .string (str tg), .string (str tx), .bool pl] 40)
  obtain ⟨⟨q0, q1, q2, q3, q4⟩, _⟩ := five k0
  have cR : Hid (∀ w : World, Calls Tryd.prog 77 #[.string (str tx)] w fun e w' => e = .returned (.string (str (Tg.resolve tx).w)) ∧ w = w') := fun w => (Tag.resolve_any (str tx) w (by rw [str_len]; exact hs)).mono fun e w' h => by rw [str_dat, kS_str] at h; exact h
  have cF := Lib.hid (fun w => Tag.fits_any (str tg) (str tx) w (by rw [str_len]; exact ht) (by rw [str_len]; exact hs))
  by_cases h0 : tg = []
  · subst h0
    rw [if_pos rfl]
    rw [str_nil] at *
    cases pl
    · rw [if_neg (by decide)]
      go_enter Tryd.func45, Tryd.ntmps45
      go_wp2
      go_ret2
      exact ⟨rfl, b0⟩
    · rw [if_pos rfl]
      go_enter Tryd.func45, Tryd.ntmps45
      go_wp2_with (go_at_call 77; refine (cR.out _).mono ?_; rintro e w1 ⟨rfl, rfl⟩)
      go_ret2
      exact ⟨rfl, b0⟩
  · have n0 := str_nemp tg h0
    have n1 := str_neN tg h0
    rw [if_neg h0]
    have cF : Hid (∀ w : World, Calls Tryd.prog 78 #[.string (str tg), .string (str tx)] w fun e w' => e = .returned (.bool (Tg.fits tg tx)) ∧ Below w.heap.size w w') := fun w => by have h := cF.out w; rw [str_dat, str_dat] at h; exact h
    have KEEP : Hid (∀ w1, Below (w.alloc (.cells #[.int .i64 k, .string (str an), .string (str tg), .string (str tx), .bool pl] 40)).heap.size (w.alloc (.cells #[.int .i64 k, .string (str an), .string (str tg), .string (str tx), .bool pl] 40)) w1 → w1.cell? ⟨w.heap.size, 2, none⟩ = some (.string (str tg)) ∧ Below w.heap.size w w1) := fun w1 hb => ⟨(five (blk_below k0 hb)).1.2.2.1, bthen b0 hb⟩
    cases hf : Tg.fits tg tx
    · rw [hf] at cF
      rw [if_neg (by decide)]
      go_enter Tryd.func45, Tryd.ntmps45
      go_wp2_with (go_at_call 78; refine (cF.out _).mono ?_; rintro e w1 ⟨rfl, hb1⟩; obtain ⟨u2, u3⟩ := KEEP.out w1 hb1)
      go_ret2
      exact ⟨rfl, u3⟩
    · rw [hf] at cF
      rw [if_pos rfl]
      go_enter Tryd.func45, Tryd.ntmps45
      go_wp2_with (go_at_call 78; refine (cF.out _).mono ?_; rintro e w1 ⟨rfl, hb1⟩; obtain ⟨u2, u3⟩ := KEEP.out w1 hb1)
      go_ret2
      exact ⟨rfl, u3⟩

set_option maxHeartbeats 4000000 in
theorem tagOf_any (x : Ev.E) (w : World) (ht : x.tag.length ≤ 1000000) (hs : x.text.length ≤ 1000000) :
    Calls Tryd.prog 19 #[evV x] w fun e w' => e = tagE (Co.tagOf x) ∧ Below w.heap.size w w' := by
  have cS := scalarTag_any x
  obtain ⟨k, an, tg, tx, pl⟩ := x
  simp only at ht hs cS ⊢
  unfold evV at cS ⊢
  unfold Co.tagOf
  simp only at cS ⊢
  have b0 := bnew w (.cells #[.int .i64 k, .string (str an), .string (str tg), .string (str tx), .bool pl] 40)
  have k0 := alloc_blk w (.cells #[.int .i64 k, .string (str an), .string (str tg), .string (str tx), .bool pl] 40)
  obtain ⟨⟨q0, q1, q2, q3, q4⟩, _⟩ := five k0
  have CS := Lib.hid (fun w => cS w ht hs)
  have CG := Lib.hid (fun c w => groupTag_any c tg w ht)
  clear cS
  by_cases h6 : k = 6
  · subst h6
    rw [if_pos rfl]
    generalize Co.scalarTag tg tx pl = o at *
    cases o
    all_goals
      unfold tagE at CS ⊢
      simp only at CS ⊢
      go_enter Tryd.func19, Tryd.ntmps19
      go_wp2_with (go_at_call 45; refine (CS.out _).mono ?_; rintro e w1 ⟨rfl, hb1⟩)
      go_ret2
      exact ⟨rfl, bthen b0 hb1⟩
  · rw [if_neg h6]
    have n6 : (k == 6) = false := beq_eq_false_iff_ne.2 h6
    by_cases h2 : k = 2
    · subst h2
      rw [if_pos rfl]
      have CG := Lib.hid (CG.out Ar.seqW)
      generalize Co.groupTag Ar.seqW tg = o at *
      cases o
      all_goals
        unfold tagE at CG ⊢
        simp only at CG ⊢
        go_enter Tryd.func19, Tryd.ntmps19
        go_wp2_with (go_at_call 46; refine (CG.out _).mono ?_; rintro e w1 ⟨rfl, hb1⟩)
        go_ret2
        exact ⟨rfl, bthen b0 hb1⟩
    · rw [if_neg h2]
      have n2 : (k == 2) = false := beq_eq_false_iff_ne.2 h2
      by_cases h4 : k = 4
      · subst h4
        rw [if_pos rfl]
        have CG := Lib.hid (CG.out Ar.mapW)
        generalize Co.groupTag Ar.mapW tg = o at *
        cases o
        all_goals
          unfold tagE at CG ⊢
          simp only at CG ⊢
          go_enter Tryd.func19, Tryd.ntmps19
          go_wp2_with (go_at_call 46; refine (CG.out _).mono ?_; rintro e w1 ⟨rfl, hb1⟩)
          go_ret2
          exact ⟨rfl, bthen b0 hb1⟩
      · rw [if_neg h4]
        have n4 : (k == 4) = false := beq_eq_false_iff_ne.2 h4
        go_enter Tryd.func19, Tryd.ntmps19
        go_wp2
        go_ret2
        exact ⟨rfl, b0⟩
end Go.Proofs.YtbimjdlkffbncaaDoor
namespace Go.Proofs.YtbimjdlkffbncaaDoor
open Go.RowKit Go.Maps
def alG : List Ar.Nd := [⟨1, [115, 101, 113], [], [0]⟩]
def alM : List Ar.Nd := [⟨2, [109, 97, 112], [], []⟩]
def alN : Ar.Nd := ⟨0, [115, 116, 114], [53], []⟩
def alE : List Ev.E := [⟨0, [], [], [], false⟩, ⟨2, [97, 49], [], [], false⟩, ⟨7, [97, 49], [], [], false⟩, ⟨3, [], [], [], false⟩, ⟨1, [], [], [], false⟩]
theorem al_events : Fl.events [alG] = .ok alE := by kernel_rfl
theorem al_event : Fl.event alN = ⟨6, [], [], [53], false⟩ := by kernel_rfl
theorem al_deep : Fl.deepOf alM = 1 := by kernel_rfl
theorem al_easy : ∀ g ∈ [alG], Easy g := by
  intro g hg
  rw [List.mem_singleton] at hg
  subst hg
  refine ⟨by decide, fun x hx => ?_⟩
  unfold alG at hx
  rw [List.mem_singleton] at hx
  subst hx
  exact ⟨⟨by decide, by decide, by decide⟩, by decide⟩
theorem al_easyM : Easy alM := by
  refine ⟨by decide, fun x hx => ?_⟩
  unfold alM at hx
  rw [List.mem_singleton] at hx
  subst hx
  exact ⟨⟨by decide, by decide, by decide⟩, by decide⟩
theorem rd_alG {W : World} {K D L : Nat} (hk : W.heap[K]? = some (.cells #[.int .i64 0] 3)) (hd : W.heap[D]? = some (.cells #[.int .i64 1, .string ⟨#[115, 101, 113]⟩, .string ⟨#[]⟩, .slice (some ⟨K, 0, none⟩) 1 1] 64)) (hl : W.heap[L]? = some (.cells #[.slice (some ⟨D, 0, none⟩) 1 1] 45)) :
    RdGG W W.heap.size (.slice (some ⟨L, 0, none⟩) 1 1) [alG] := by
  have lk := (Array.getElem?_eq_some_iff.1 hk).1
  have ld := (Array.getElem?_eq_some_iff.1 hd).1
  have ll := (Array.getElem?_eq_some_iff.1 hl).1
  refine ⟨_, 1, rfl, Nat.le_refl _, fun _ => ⟨L, 0, rfl, ll, fun j hj => ?_⟩⟩
  have : j = 0 := by simp at hj; omega
  subst this
  refine ⟨.slice (some ⟨D, 0, none⟩) 1 1, cell_blk hl 0 _ rfl, _, 1, rfl, Nat.le_refl _, fun _ => ⟨D, rfl, ld, fun j hj => ?_⟩⟩
  have : j = 0 := by simp [alG] at hj; omega
  subst this
  obtain ⟨q0, q1, q2, q3⟩ := quad hd
  refine ⟨q0, q1, q2, some ⟨K, 0, none⟩, 1, q3, _, 1, rfl, Nat.le_refl _, fun _ => ⟨K, 0, rfl, lk, fun i hi => ?_⟩⟩
  have : i = 0 := by simp [alG] at hi; omega
  subst this
  exact cell_blk hk 0 _ rfl
theorem rd_alM {W : World} {D : Nat} (hd : W.heap[D]? = some (.cells #[.int .i64 2, .string ⟨#[109, 97, 112]⟩, .string ⟨#[]⟩, .slice none 0 0] 64)) : RdG W W.heap.size (.slice (some ⟨D, 0, none⟩) 1 1) alM := by
  have ld := (Array.getElem?_eq_some_iff.1 hd).1
  refine ⟨_, 1, rfl, Nat.le_refl _, fun _ => ⟨D, rfl, ld, fun j hj => ?_⟩⟩
  have : j = 0 := by simp [alM] at hj; omega
  subst this
  obtain ⟨q0, q1, q2, q3⟩ := quad hd
  exact ⟨q0, q1, q2, none, 0, q3, none, 0, rfl, Nat.le_refl _, fun h => absurd h (Nat.lt_irrefl 0)⟩

set_option maxHeartbeats 4000000 in
set_option maxRecDepth 100000 in
theorem flAlive_any (w : World) (hE : Env w) : Calls Tryd.prog 27 #[] w fun e w' => e = .returned (.bool true) ∧ Below w.heap.size w w' := by
  have h1 := alloc_blk w (.cells #[.int .i64 0] 3)
  have h2 := alloc_blk (w.alloc (.cells #[.int .i64 0] 3)) (.cells #[.int .i64 1, .string ⟨#[115, 101, 113]⟩, .string ⟨#[]⟩, .slice (some ⟨w.heap.size, 0, none⟩) 1 1] 64)
  have h3 := alloc_blk ((w.alloc (.cells #[.int .i64 0] 3)).alloc (.cells #[.int .i64 1, .string ⟨#[115, 101, 113]⟩, .string ⟨#[]⟩, .slice (some ⟨w.heap.size, 0, none⟩) 1 1] 64)) (.cells #[.slice (some ⟨w.heap.size + 1, 0, none⟩) 1 1] 45)
  rw [World.size_alloc] at h2
  rw [World.size_alloc, World.size_alloc] at h3
  have b1 := bnew w (.cells #[.int .i64 0] 3)
  have b2 := bnew (w.alloc (.cells #[.int .i64 0] 3)) (.cells #[.int .i64 1, .string ⟨#[115, 101, 113]⟩, .string ⟨#[]⟩, .slice (some ⟨w.heap.size, 0, none⟩) 1 1] 64)
  have b3 := bnew ((w.alloc (.cells #[.int .i64 0] 3)).alloc (.cells #[.int .i64 1, .string ⟨#[115, 101, 113]⟩, .string ⟨#[]⟩, .slice (some ⟨w.heap.size, 0, none⟩) 1 1] 64)) (.cells #[.slice (some ⟨w.heap.size + 1, 0, none⟩) 1 1] 45)
  have bb := bthen (bthen b1 b2) b3
  have rd := rd_alG (blk_below (blk_below h1 b2) b3) (blk_below h2 b3) h3
  have cE := events_any _ [alG] _ rd (by simp) al_easy (hE.below bb)
  rw [al_events] at cE
  have cE := Lib.hid cE
  have cV := Lib.hid (fun W hE => event_any alN none 0 W (by decide) hE)
  have cD := Lib.hid (fun W D h hE => deep_of_any (.slice (some ⟨D, 0, none⟩) 1 1) alM W (rd_alM (W := W) (D := D) h) al_easyM.1 (fun x hx => (al_easyM.2 x hx).1) hE)
  rw [al_event] at cV
  rw [al_deep] at cD
  unfold ndV evV alN at cV
  simp only at cV
  have cV : Hid (∀ W : World, Env W → Calls Tryd.prog 37 #[.agg #[.int .i64 0, .string ⟨#[115, 116, 114]⟩, .string ⟨#[53]⟩, .slice none 0 0]] W fun e w' => e = .returned (.agg #[.int .i64 6, .string ⟨#[]⟩, .string ⟨#[]⟩, .string ⟨#[53]⟩, .bool false]) ∧ Below W.heap.size W w') := cV.out
  have HE := Lib.hid hE
  have HBB := Lib.hid bb
  clear rd h1 h2 h3 b1 b2 b3 bb hE
  go_enter Tryd.func27, Tryd.ntmps27
  go_wp2_with (first
    | (go_at_call 29; refine cE.out.mono ?_; rintro e w1 ⟨⟨u, rfl, ho⟩, hb1⟩; obtain ⟨ua, uc, rfl⟩ := own_slice ho; obtain ⟨_, _, hv, huc, hcl⟩ := rowE_rd ho; cases hv; obtain ⟨gg, go, rfl, hgg, hcl⟩ := hcl (by decide); have HB1 := Lib.hid (bthen HBB.out hb1); have e1 := hcl 1 (by decide); have e2 := hcl 2 (by decide); have EV : Hid (∀ W, Below w1.heap.size w1 W → (W.cell? ⟨gg, go + 5, none⟩ = some (.int .i64 2) ∧ W.cell? ⟨gg, go + 5 + 1, none⟩ = some (.string ⟨#[97, 49]⟩) ∧ W.cell? ⟨gg, go + 5 + 2, none⟩ = some (.string ⟨#[]⟩) ∧ W.cell? ⟨gg, go + 5 + 3, none⟩ = some (.string ⟨#[]⟩) ∧ W.cell? ⟨gg, go + 5 + 4, none⟩ = some (.bool false)) ∧ W.cell? ⟨gg, go + 10, none⟩ = some (.int .i64 7) ∧ W.cell? ⟨gg, go + 10 + 1, none⟩ = some (.string ⟨#[97, 49]⟩) ∧ W.cell? ⟨gg, go + 10 + 2, none⟩ = some (.string ⟨#[]⟩) ∧ W.cell? ⟨gg, go + 10 + 3, none⟩ = some (.string ⟨#[]⟩) ∧ W.cell? ⟨gg, go + 10 + 4, none⟩ = some (.bool false)) := fun W hb => ⟨⟨(e1.below hb hgg).kind, (e1.below hb hgg).anchor, (e1.below hb hgg).tag, (e1.below hb hgg).text, (e1.below hb hgg).plain⟩, (e2.below hb hgg).kind, (e2.below hb hgg).anchor, (e2.below hb hgg).tag, (e2.below hb hgg).text, (e2.below hb hgg).plain⟩; clear e1 e2 hcl ho hb1)
    | (go_at_call 37; refine (cV.out _ (HE.out.below HB1.out)).mono ?_; rintro e w2 ⟨rfl, hb2⟩; obtain ⟨⟨a0, a1, a2, a3, a4⟩, c0, c1, c2, c3, c4⟩ := EV.out _ (hb2.trans ((bnew w2 (.cells #[.int .i64 6, .string ⟨#[]⟩, .string ⟨#[]⟩, .string ⟨#[53]⟩, .bool false] 40)).mono hb2.size)); have HB2 := Lib.hid (bthen (bthen HB1.out hb2) (bnew w2 (.cells #[.int .i64 6, .string ⟨#[]⟩, .string ⟨#[]⟩, .string ⟨#[53]⟩, .bool false] 40))); clear hb2)
    | (go_at_call 36; refine (cD.out _ (w2.heap.size + 1) (by have h := alloc_blk (w2.alloc (.cells #[.int .i64 6, .string ⟨#[]⟩, .string ⟨#[]⟩, .string ⟨#[53]⟩, .bool false] 40)) (.cells #[.int .i64 2, .string ⟨#[109, 97, 112]⟩, .string ⟨#[]⟩, .slice none 0 0] 64); rw [World.size_alloc] at h; exact h) (HE.out.below (bthen HB2.out (bnew _ (.cells #[.int .i64 2, .string ⟨#[109, 97, 112]⟩, .string ⟨#[]⟩, .slice none 0 0] 64))))).mono ?_; rintro e w5 ⟨rfl, hb5⟩))
  go_ret
  exact ⟨rfl, bthen (bthen HB2.out (bnew _ _)) hb5⟩
end Go.Proofs.YtbimjdlkffbncaaDoor
