/-
  'append' of a part of a row of events; the walk of EventCut.
-/
import Derived.Test.YthkedlcmpibkjaaDoorEr
namespace Go.Proofs.YthkedlcmpibkjaaDoor
namespace Ev
theorem right_cut (es : List E) (k : Nat) (hk : k < es.length) (h : right es = true) (h6 : es[k].kind < 6) : right (es.take k ++ es.drop (k + 1)) = false := by
  obtain ⟨_, _, h3⟩ := right_parts es h
  have e : kinds es = kinds (es.take k) ++ es[k].kind :: kinds (es.drop (k + 1)) := by
    have e0 : es.take k ++ es[k] :: es.drop (k + 1) = es := by rw [← List.drop_eq_getElem_cons hk, List.take_append_drop]
    have e1 : kinds (es.take k ++ es[k] :: es.drop (k + 1)) = kinds (es.take k) ++ kinds (es[k] :: es.drop (k + 1)) := kinds_app _ _
    rw [e0] at e1
    exact e1
  rw [e] at h3
  have := nested_cut _ _ _ h3 h6
  unfold right
  rw [kinds_app, this]
  simp
theorem small_cut (es : List E) (k : Nat) (h : ∀ x ∈ es, Small x) : ∀ x ∈ es.take k ++ es.drop (k + 1), Small x := fun x hx => by
  rcases List.mem_append.1 hx with hx | hx
  · exact h x (List.mem_of_mem_take hx)
  · exact h x (List.mem_of_mem_drop hx)
end Ev
open Go.RowKit
theorem evsCells_cut (es : List Ev.E) (k : Nat) : evsCells es = evsCells (es.take k) ++ evsCells (es.drop k) := by rw [← evsCells_app, List.take_append_drop]
/-- the cells of a row of events, from an address on -/
def NewsE (w : World) (ad : Addr) (ys : List Ev.E) : Prop := ∀ j u, (evsCells ys)[j]? = some u → w.cell? (ad.add j) = some u
theorem NewsE.below {w w' : World} {B g o : Nat} {ys : List Ev.E} (h : NewsE w ⟨g, o, none⟩ ys) (hb : Below B w w') (hg : g < B) : NewsE w' ⟨g, o, none⟩ ys := fun j u hu => by
  have := h j u hu
  rw [Addr.add_lit] at this ⊢
  exact (hb.cell (p := ⟨g, o + j, none⟩) hg).trans this
theorem NewsE.heap {w w' : World} {ad : Addr} {ys : List Ev.E} (h : NewsE w ad ys) (e : w'.heap = w.heap) : NewsE w' ad ys := fun j u hu => by
  exact (World.cell?_of_block (by rw [e])).trans (h j u hu)
theorem NewsE.take {w : World} {ad : Addr} {es : List Ev.E} (h : NewsE w ad es) (k : Nat) : NewsE w ad (es.take k) := fun j u hu => h j u (by
  have hj : j < (evsCells (es.take k)).length := (List.getElem?_eq_some_iff.1 hu).1
  rw [evsCells_cut es k, List.getElem?_append_left hj]; exact hu)
theorem NewsE.drop {w : World} {g o : Nat} {es : List Ev.E} (h : NewsE w ⟨g, o, none⟩ es) (k : Nat) (hk : k ≤ es.length) : NewsE w ⟨g, o + k * 5, none⟩ (es.drop k) := fun j u hu => by
  have hlen : (evsCells (es.take k)).length = k * 5 := by rw [evsCells_len, List.length_take, Nat.min_eq_left hk]
  have := h (k * 5 + j) u (by rw [evsCells_cut es k, List.getElem?_append_right (by omega), hlen, Nat.add_sub_cancel_left]; exact hu)
  rw [Addr.add_lit] at this ⊢
  rwa [Nat.add_assoc]
theorem NewsE.drop0 {w : World} {g : Nat} {es : List Ev.E} (h : NewsE w ⟨g, 0, none⟩ es) (k : Nat) (hk : k ≤ es.length) : NewsE w ⟨g, k * 5, none⟩ (es.drop k) := by
  have := h.drop k hk
  rwa [Nat.zero_add] at this
theorem NewsE.nil (w : World) (ad : Addr) : NewsE w ad [] := fun j u hu => by simp [evsCells] at hu
/-- a row that a call owns, and that has something -/
theorem ownE_form {w : World} {B : Nat} {v : Value} {es : List Ev.E} (h : OwnE w B v es) (hn : 0 < es.length) :
    ∃ g c, v = .slice (some ⟨g, 0, none⟩) es.length c ∧ es.length ≤ c ∧ g < w.heap.size ∧ B ≤ g ∧ NewsE w ⟨g, 0, none⟩ es := by
  have h' := h
  rcases h.2 with ⟨_, h0⟩ | ⟨g, c, cur, rfl, hB, hh, hnc, hr⟩
  · omega
  · exact ⟨g, c, rfl, hnc, (Array.getElem?_eq_some_iff.1 hh).1, hB, World.ownsRow.cells h' (g := g) rfl⟩
theorem newsE_kind {w : World} {g o : Nat} {es : List Ev.E} (h : NewsE w ⟨g, o, none⟩ es) (k : Nat) (hk : k < es.length) : w.cell? ⟨g, o + k * 5, none⟩ = some (.int .i64 es[k].kind) := by
  have e : (evsCells es)[k * 5 + 0]? = some (.int .i64 es[k].kind) := (evsCells_at es k hk 0 (by decide)).trans rfl
  have := h _ _ e
  rwa [Addr.add_lit] at this
/-- append(x, y[i:j]...) -/
theorem run_appR (w : World) (ty : TypeId) (B : Nat) (v : Value) (ad : Addr) (m c : Nat) (xs ys : List Ev.E) (hv : OwnE w B v xs) (hm : m = ys.length) (hn : NewsE w ad ys) (hl : xs.length + ys.length ≤ 1000000000) (hB : B ≤ w.heap.size) :
    ∃ v' w', (Builtin.append_ #[25, 25] ty #[v, .slice (some ad) m c]).run Tryd.prog w = .ok v' w' ∧ OwnE w' B v' (xs ++ ys) ∧ Below B w w' := by
  obtain ⟨i0, hi, hz0, hz1, hz2⟩ := info_parts infoE
  subst hm
  obtain ⟨v', w', hr, h2, h3, _, _⟩ := run_append_own_at (P := Tryd.prog) w B 25 ty 39 i0 _ 5 64 Tryd.underlying25 hi hz0 hz1 hz2 rfl (by decide) v xs.length (evsCells xs) hv ad ys.length c (evsCells ys) (evsCells_len ys) hn (evsCells_one ys) (by simp only [maxLen]; omega) (by omega) hB
  refine ⟨v', w', hr, ?_, (Below.refl B w).grown h3 hB (fun k hk => (World.ownsRow.lt hv k hk).1)⟩
  unfold OwnE
  rw [List.length_append, evsCells_app]; exact h2
theorem wp_appR {o : Oper} {a : Act} {w : World} {K : Act → World → Prop} {Q : Exit → Act → World → Prop} (s x : Operand)
    (ho : o.op = .call { callee := .builtin .append, args := #[s, x], argTypes := #[25, 25] }) (B : Nat) (v : Value) (xs ys : List Ev.E) (ad : Addr) (m c : Nat) (hs : a.eval s = v) (hx : a.eval x = .slice (some ad) m c)
    (hv : OwnE w B v xs) (hm : m = ys.length) (hn : NewsE w ad ys) (hl : xs.length + ys.length ≤ 1000000000) (hB : B ≤ w.heap.size)
    (h : ∀ v' w', OwnE w' B v' (xs ++ ys) → Below B w w' → K (a.put o.dst v') w') : o.wp Tryd.prog a w K Q := by
  obtain ⟨v', w', hr, h2, h3⟩ := run_appR w o.type B v ad m c xs ys hv hm hn hl hB
  unfold Oper.wp execOp
  simp only [ho, resolve, invoke, builtin, Sem.run_bind, Sem.run_pure, Result.andThen_ok, List.map_toArray, List.map_cons, List.map_nil, hs, hx, hr]
  exact h v' w' h2 h3
theorem wpList_appR {ops : Array Oper} {rest : List Oper} {o : Oper} {a : Act} {w : World} {Q : Exit → Act → World → Prop} (hgd : o.guard = none) (s x : Operand)
    (ho : o.op = .call { callee := .builtin .append, args := #[s, x], argTypes := #[25, 25] }) (B : Nat) (v : Value) (xs ys : List Ev.E) (ad : Addr) (m c : Nat) (hs : a.eval s = v) (hx : a.eval x = .slice (some ad) m c)
    (hv : OwnE w B v xs) (hm : m = ys.length) (hn : NewsE w ad ys) (hl : xs.length + ys.length ≤ 1000000000) (hB : B ≤ w.heap.size)
    (h : ∀ v' w', OwnE w' B v' (xs ++ ys) → Below B w w' → wpList Tryd.prog ops Q rest (a.put o.dst v') w') : wpList Tryd.prog ops Q (o :: rest) a w :=
  wpList_plain hgd fun _ hK => wp_appR s x ho B v xs ys ad m c hs hx hv hm hn hl hB fun v' w' h2 h3 => hK _ _ (h v' w' h2 h3)
theorem step_appR {ops : Array Oper} {o : Oper} {a : Act} {w : World} {K : Act → World → Prop} {Q : Exit → Act → World → Prop} {E : Prop} (hgd : o.guard = none) (s x : Operand)
    (ho : o.op = .call { callee := .builtin .append, args := #[s, x], argTypes := #[25, 25] }) (B : Nat) (v : Value) (xs ys : List Ev.E) (ad : Addr) (m c : Nat) (hs : a.eval s = v) (hx : a.eval x = .slice (some ad) m c)
    (hv : OwnE w B v xs) (hm : m = ys.length) (hn : NewsE w ad ys) (hl : xs.length + ys.length ≤ 1000000000) (hB : B ≤ w.heap.size)
    (h : ∀ v' w', OwnE w' B v' (xs ++ ys) → Below B w w' → K (a.put o.dst v') w') :
    if Region.wanted o (yielded ops a.tmps) = true then Oper.wp Tryd.prog o a w K Q else E := by
  have hw : Region.wanted o (yielded ops a.tmps) = true := by simp [Region.wanted, hgd]
  rw [if_pos hw]
  exact wp_appR s x ho B v xs ys ad m c hs hx hv hm hn hl hB h

set_option maxHeartbeats 4000000 in
set_option maxRecDepth 100000 in
theorem cut_any (v : Value) (m : Nat) (es : List Ev.E) (w : World) (hR : RdE w w.heap.size v es) (hl : es.length ≤ 2199023255488)
    (hS : ∀ x ∈ es, x.anchor.length ≤ 9223372036854775807 ∧ x.tag.length ≤ 9223372036854775807 ∧ x.text.length ≤ 9223372036854775807) (hm : m < 256) (hE : Env w) :
    Calls Tryd.prog 7 #[v, .int .u8 m] w fun e w' => e = .returned (.bool true) ∧ Below w.heap.size w w' := by
  have HR := Lib.hid hR
  obtain ⟨aa, ac, rfl, hac, _⟩ := hR
  have cA := Lib.hid (alive_any w hE)
  have cH := Lib.hid (fun W (hb : Below w.heap.size w W) => heavy_any _ es W ((HR.out.below hb).mono hb.size) (by omega) hS)
  have cT := Lib.hid (fun W (hb : Below w.heap.size w W) => theirs_any _ es W ((HR.out.below hb).mono hb.size) hl)
  have HE := Lib.hid hE
  clear hS hE
  cases h1 : Ev.heavy es
  · rw [h1] at cH
    obtain ⟨lx, sx⟩ := Ev.light es h1
    have SX := Lib.hid (Ev.light_small es h1)
    have RX := Lib.hid (fun v W (h : RdE W W.heap.size v es) (hE : Env W) => right_any v es W h (by omega) SX.out hE)
    clear sx hl
    rcases Nat.eq_zero_or_pos es.length with h0 | hpos
    · rw [h0]
      go_enter Tryd.func7, Tryd.ntmps7
      go_wp2_with (first
        | (go_at_call 8; refine cA.out.mono ?_; rintro e w1 ⟨rfl, hb1⟩)
        | (go_at_call 10; rw [h0] at cT; go_fit (cT.out _ hb1); rintro e w2 ⟨⟨xv, rfl, hxo⟩, hb2⟩; obtain ⟨xa, xc, rfl⟩ := own_slice hxo)
        | (go_at_call 9; rw [h0] at cH; go_fit (cH.out _ (bthen hb1 hb2)); rintro e w3 ⟨rfl, hb3⟩))
      go_ret
      exact ⟨rfl, bthen (bthen hb1 hb2) hb3⟩
    · have b0 : ((es.length : Int) == 0) = false := beq_eq_false_iff_ne.2 (by omega)
      cases hrx : Ev.right es
      · rw [hrx] at RX
        go_enter Tryd.func7, Tryd.ntmps7
        go_wp2_with (first
          | (go_at_call 8; refine cA.out.mono ?_; rintro e w1 ⟨rfl, hb1⟩)
          | (go_at_call 10; go_fit (cT.out _ hb1); rintro e w2 ⟨⟨xv, rfl, hxo⟩, hb2⟩; obtain ⟨xa, xc, rfl⟩ := own_slice hxo; have HX2 := Lib.hid (rowE_rd hxo); clear hxo)
          | (go_at_call 9; go_fit (cH.out _ (bthen hb1 hb2)); rintro e w3 ⟨rfl, hb3⟩)
          | (go_at_call 11; go_fit (RX.out _ _ ((HX2.out.below hb3).mono hb3.size) (HE.out.below (bthen (bthen hb1 hb2) hb3))); rintro e w4 ⟨rfl, hb4⟩))
        go_ret
        exact ⟨rfl, bthen (bthen (bthen hb1 hb2) hb3) hb4⟩
      · rw [hrx] at RX
        obtain ⟨k, hk⟩ : ∃ k, k = m % es.length := ⟨_, rfl⟩
        have hkl : k < es.length := by rw [hk]; exact Nat.mod_lt _ hpos
        have hke : (m : Int) % (es.length : Int) = (k : Int) := by rw [hk]; exact (Int.natCast_emod m es.length).symm
        clear hk
        have HM := Lib.hid (Ev.right_cut es k hkl hrx)
        clear hrx
        by_cases h6 : es[k].kind < 6
        · have hrc := HM.out h6
          have SC := Lib.hid (Ev.small_cut es k SX.out)
          have RC := Lib.hid (fun v W (h : RdE W W.heap.size v (es.take k ++ es.drop (k + 1))) (hE : Env W) => right_any v (es.take k ++ es.drop (k + 1)) W h (by simp; omega) SC.out hE)
          rw [hrc] at RC
          have hq : ¬ (6 : Int) ≤ es[k].kind := by omega
          clear hrc HM h6
          have HK := Lib.hid (fun (W : World) (g : Nat) (h : NewsE W ⟨g, 0, none⟩ es) => newsE_kind h k hkl)
          generalize es[k].kind = q at *
          have hk0 : (0 : Int) ≤ (k : Int) := by omega
          have htk : (es.take k).length = k := by rw [List.length_take]; omega
          have htd : (es.drop (k + 1)).length = es.length - (k + 1) := List.length_drop
          go_enter Tryd.func7, Tryd.ntmps7
          go_wp2_with (first
            | (go_at_call 8; refine cA.out.mono ?_; rintro e w1 ⟨rfl, hb1⟩)
            | (go_at_call 10; go_fit (cT.out _ hb1); rintro e w2 ⟨⟨xv, rfl, hxo⟩, hb2⟩; obtain ⟨g, xc, rfl, hxc, hg2, _, hnw⟩ := ownE_form hxo hpos; have HX2 := Lib.hid (rowE_rd hxo); have HN2 := Lib.hid hnw; clear hxo hnw)
            | (go_at_call 9; go_fit (cH.out _ (bthen hb1 hb2)); rintro e w3 ⟨rfl, hb3⟩)
            | (go_at_call 11; go_fit (RX.out _ _ ((HX2.out.below hb3).mono hb3.size) (HE.out.below (bthen (bthen hb1 hb2) hb3))); rintro e w4 ⟨rfl, hb4⟩; have HN4 := Lib.hid ((HN2.out.below hb3 hg2).below hb4 (Nat.lt_of_lt_of_le hg2 hb3.size)); have hc := HK.out _ _ HN4.out; rw [Nat.zero_add] at hc))
          have hg4 : g < w4.heap.size := Nat.lt_of_lt_of_le (Nat.lt_of_lt_of_le hg2 hb3.size) hb4.size
          have HB4 := Lib.hid (bthen (bthen (bthen hb1 hb2) hb3) hb4)
          have HE4 := Lib.hid (HE.out.below HB4.out)
          clear hb1 hb2 hb3 hb4 HK cA cH cT RX HX2 HN2 hc hg2 hq
          have hx1 : (k : Int) ≤ (xc : Int) := by omega
          have hx2 : (k : Int) + 1 ≤ (es.length : Int) := by omega
          have hx3 : (es.length : Int) ≤ (xc : Int) := by omega
          have hx4 : (0 : Int) ≤ (k : Int) + 1 := by omega
          have hx5 : IntKind.i64.wrap ((k : Int) + 1) = (k : Int) + 1 := IntWalk.i64_in _ (by omega)
          have hx6 : ((k : Int) + 1).toNat = k + 1 := by omega
          have hx7 : (k : Int) + 1 ≤ (xc : Int) := by omega
          rw [hke]
          rcases Nat.lt_or_ge (k + 1) xc with hc1 | hc1
          · have hne : ¬ xc = k + 1 := by omega
            go_region_held3 (fun _ => True) (first | trivial | go_keep)
              (first
                | (refine step_appR (by rfl) (.const (.slice none 0 0)) (.tmp 36) (by rfl) w4.heap.size (.slice none 0 0) [] (es.take k) _ _ _ (by rfl) (by rfl) (by exact World.ownsRow_nil _ _ _ _) (by exact htk.symm) (by exact (HN4.out.take k).heap rfl) (by simp; omega) (by exact Nat.le_refl _) ?_; intro v5 w5 ho5 hb5; have hb5' : Below w4.heap.size w4 w5 := ⟨hb5.os, hb5.tape, hb5.output, hb5.size, hb5.block⟩)
                | (refine step_appR (by rfl) (.tmp 37) (.tmp 41) (by rfl) w4.heap.size v5 ([] ++ es.take k) (es.drop (k + 1)) _ _ _ (by rfl) (by rfl) (by exact ho5) (by exact htd.symm) (by exact ((HN4.out.below hb5' hg4).drop0 (k + 1) (by omega)).heap rfl) (by simp; omega) (by exact hb5'.size) ?_; intro v6 w6 ho6 hb6; have hb6' : Below w4.heap.size w5 w6 := ⟨hb6.os, hb6.tape, hb6.output, hb6.size, hb6.block⟩; obtain ⟨ya, yc, rfl⟩ := own_slice ho6; have HR6 := Lib.hid (rowE_rd ho6); have HB6 := Lib.hid (HB4.out.trans ((hb5'.trans hb6').mono HB4.out.size)); have HE6 := Lib.hid (HE.out.below HB6.out))
                | (go_at_call 11; refine (RC.out _ _ (by have h := HR6.out; simp only [List.nil_append, List.length_append, htk, htd] at h; exact h) (by exact HE6.out.heap rfl)).mono ?_; rintro e w7 ⟨rfl, hb7⟩; have hb7' : Below w6.heap.size w6 w7 := ⟨hb7.os, hb7.tape, hb7.output, hb7.size, hb7.block⟩))
            go_wp2
            go_ret
            exact ⟨rfl, bthen HB6.out hb7'⟩
          · have hL : es.length = k + 1 := by omega
            have hnil : es.drop (k + 1) = [] := List.drop_of_length_le (by omega)
            obtain ⟨n, hn⟩ : ∃ n, n = k + 1 := ⟨_, rfl⟩
            obtain rfl : xc = n := by omega
            have hm5 : IntKind.i64.wrap ((k : Int) + 1) = (xc : Int) := by rw [hx5]; omega
            have hm6 : (0 : Int) ≤ (xc : Int) := by omega
            have hm7 : (xc : Int) ≤ (es.length : Int) := by omega
            rw [hnil, List.append_nil] at RC
            have HL := Lib.hid hL
            have HN := Lib.hid hn
            clear hx2 hx4 hx5 hx6 hx7 hc1 hL hn
            go_region_held3 (fun _ => True) (first | trivial | go_keep)
              (first
                | (refine step_appR (by rfl) (.const (.slice none 0 0)) (.tmp 36) (by rfl) w4.heap.size (.slice none 0 0) [] (es.take k) _ _ _ (by rfl) (by rfl) (by exact World.ownsRow_nil _ _ _ _) (by exact htk.symm) (by exact (HN4.out.take k).heap rfl) (by simp; omega) (by exact Nat.le_refl _) ?_; intro v5 w5 ho5 hb5; have hb5' : Below w4.heap.size w4 w5 := ⟨hb5.os, hb5.tape, hb5.output, hb5.size, hb5.block⟩)
                | (refine step_appR (by rfl) (.tmp 37) (.tmp 41) (by rfl) w4.heap.size v5 ([] ++ es.take k) [] _ _ _ (by rfl) (by rfl) (by exact ho5) (by rfl) (by exact NewsE.nil _ _) (by simp; omega) (by exact hb5'.size) ?_; intro v6 w6 ho6 hb6; have hb6' : Below w4.heap.size w5 w6 := ⟨hb6.os, hb6.tape, hb6.output, hb6.size, hb6.block⟩; obtain ⟨ya, yc, rfl⟩ := own_slice ho6; have HR6 := Lib.hid (rowE_rd ho6); have HB6 := Lib.hid (HB4.out.trans ((hb5'.trans hb6').mono HB4.out.size)); have HE6 := Lib.hid (HE.out.below HB6.out))
                | (go_at_call 11; refine (RC.out _ _ (by have h := HR6.out; simp only [List.nil_append, List.append_nil, htk] at h; exact h) (by exact HE6.out.heap rfl)).mono ?_; rintro e w7 ⟨rfl, hb7⟩; have hb7' : Below w6.heap.size w6 w7 := ⟨hb7.os, hb7.tape, hb7.output, hb7.size, hb7.block⟩))
            go_wp2
            go_ret
            exact ⟨rfl, bthen HB6.out hb7'⟩
        · have hq : (6 : Int) ≤ es[k].kind := by omega
          clear HM h6
          have HK := Lib.hid (fun (W : World) (g : Nat) (h : NewsE W ⟨g, 0, none⟩ es) => newsE_kind h k hkl)
          generalize es[k].kind = q at *
          go_enter Tryd.func7, Tryd.ntmps7
          go_wp2_with (first
            | (go_at_call 8; refine cA.out.mono ?_; rintro e w1 ⟨rfl, hb1⟩)
            | (go_at_call 10; go_fit (cT.out _ hb1); rintro e w2 ⟨⟨xv, rfl, hxo⟩, hb2⟩; obtain ⟨g, xc, rfl, hxc, hg2, _, hnw⟩ := ownE_form hxo hpos; have HX2 := Lib.hid (rowE_rd hxo); have HN2 := Lib.hid hnw; clear hxo hnw)
            | (go_at_call 9; go_fit (cH.out _ (bthen hb1 hb2)); rintro e w3 ⟨rfl, hb3⟩)
            | (go_at_call 11; go_fit (RX.out _ _ ((HX2.out.below hb3).mono hb3.size) (HE.out.below (bthen (bthen hb1 hb2) hb3))); rintro e w4 ⟨rfl, hb4⟩; have hc := HK.out _ _ ((HN2.out.below hb3 hg2).below hb4 (Nat.lt_of_lt_of_le hg2 hb3.size)); rw [Nat.zero_add] at hc))
          go_ret
          exact ⟨rfl, bthen (bthen (bthen hb1 hb2) hb3) hb4⟩
  · rw [h1] at cH
    go_enter Tryd.func7, Tryd.ntmps7
    go_wp2_with (first
      | (go_at_call 8; refine cA.out.mono ?_; rintro e w1 ⟨rfl, hb1⟩)
      | (go_at_call 10; go_fit (cT.out _ hb1); rintro e w2 ⟨⟨xv, rfl, hxo⟩, hb2⟩; obtain ⟨xa, xc, rfl⟩ := own_slice hxo; clear hxo)
      | (go_at_call 9; go_fit (cH.out _ (bthen hb1 hb2)); rintro e w3 ⟨rfl, hb3⟩))
    go_ret
    exact ⟨rfl, bthen (bthen hb1 hb2) hb3⟩
end Go.Proofs.YthkedlcmpibkjaaDoor
