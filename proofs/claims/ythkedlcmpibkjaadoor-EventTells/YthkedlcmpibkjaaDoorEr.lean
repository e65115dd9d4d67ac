/-
  'append' of a whole row of events; the walk of EventParts.
-/
import Derived.Test.YthkedlcmpibkjaaDoorEq
import Derived.Laws.AppendOwnNone
namespace Go.Proofs.YthkedlcmpibkjaaDoor
namespace Ev
theorem kinds_app (a b : List E) : kinds (a ++ b) = kinds a ++ kinds b := by unfold kinds; rw [List.map_append]
theorem right_parts (a : List E) (h : right a = true) : dmax (kinds a) ≤ 40 ∧ a.all filled = true ∧ nested (kinds a) = true := by
  unfold right at h
  simp only [Bool.and_eq_true, decide_eq_true_eq] at h
  exact ⟨h.1, h.2.1, h.2.2⟩
theorem right_app (a b : List E) (h : right a = true) : right (a ++ b) = right b := by
  obtain ⟨h1, h2, h3⟩ := right_parts a h
  unfold right
  rw [kinds_app, dmax_nested _ _ h3, nested_app _ _ h3, List.all_append, h2, Bool.true_and]
  congr 1
  have : (max (dmax (kinds a)) (dmax (kinds b)) ≤ 40) = (dmax (kinds b) ≤ 40) := propext (by omega)
  simp only [this]
theorem print_app (a b : List E) (h : right a = true) (hb : right b = true) : print (a ++ b) = print a ++ print b := by
  unfold print
  rw [right_app a b h, hb, h, if_pos rfl, if_pos rfl, if_pos rfl, List.flatMap_append]
theorem light_small (es : List E) (h : heavy es = false) : ∀ x ∈ es, Small x := fun x hx => by
  have := (light es h).2 x hx
  exact ⟨by omega, by omega, by omega⟩
theorem flat_len (es : List E) (h : ∀ x ∈ es, Small x) : (es.flatMap lineN).length ≤ 700001 * es.length := by
  induction es with
  | nil => simp
  | cons x t ih =>
    have h1 := line_len x (h x (by simp))
    have h2 := ih (fun y hy => h y (by simp [hy]))
    rw [List.flatMap_cons, List.length_append, List.length_cons]
    unfold lineN at h2 ⊢
    rw [List.length_append, List.length_singleton]
    omega
theorem print_len (es : List E) (h : ∀ x ∈ es, Small x) : (print es).length ≤ 700001 * es.length := by
  unfold print
  split
  · exact flat_len es h
  · simp
end Ev
open Go.RowKit
theorem evsCells_len (es : List Ev.E) : (evsCells es).length = es.length * 5 := by
  induction es with
  | nil => rfl
  | cons x t ih =>
    have e : evsCells (x :: t) = evCells x ++ evsCells t := rfl
    rw [e, List.length_append, ih]; simp [evCells]; omega
theorem evsCells_app (a b : List Ev.E) : evsCells (a ++ b) = evsCells a ++ evsCells b := by unfold evsCells; rw [List.flatMap_append]
theorem evsCells_one (es : List Ev.E) : ∀ u ∈ evsCells es, u.oneCell' = true := by
  intro u hu
  unfold evsCells at hu
  rw [List.mem_flatMap] at hu
  obtain ⟨p, _, hu⟩ := hu
  unfold evCells at hu
  simp only [List.mem_cons, List.not_mem_nil, or_false] at hu
  rcases hu with rfl | rfl | rfl | rfl | rfl <;> rfl
/-- append(x, y...), as an equation of its run -/
theorem run_appE (w : World) (ty : TypeId) (B B' : Nat) (v u : Value) (xs ys : List Ev.E) (hv : OwnE w B v xs) (hu : OwnE w B' u ys) (hl : xs.length + ys.length ≤ 1000000000) (hB : B ≤ w.heap.size) :
    ∃ v' w', (Builtin.append_ #[25, 25] ty #[v, u]).run Tryd.prog w = .ok v' w' ∧ OwnE w' B v' (xs ++ ys) ∧ Below B w w' ∧ ∀ k, k < w.heap.size → v.ownBlock ≠ some k → w'.heap[k]? = w.heap[k]? := by
  obtain ⟨i0, hi, hz0, hz1, hz2⟩ := info_parts infoE
  have hu' := hu
  rcases hu.2 with ⟨e, h0⟩ | ⟨g, c, cur, e, _, _⟩
  · subst e
    have : ys = [] := List.length_eq_zero_iff.1 h0
    subst this
    refine ⟨v, w, run_append_owned_none (P := Tryd.prog) (w := w) B 25 ty 39 i0 5 Tryd.underlying25 hi v xs.length (evsCells xs) hv, ?_, Below.refl B w, fun _ _ _ => rfl⟩
    rw [List.append_nil]; exact hv
  subst e
  obtain ⟨v', w', hr, h2, h3, _, _⟩ := run_append_own_at (P := Tryd.prog) w B 25 ty 39 i0 _ 5 64 Tryd.underlying25 hi hz0 hz1 hz2 rfl (by decide) v xs.length (evsCells xs) hv ⟨g, 0, none⟩ ys.length c (evsCells ys) (evsCells_len ys) (World.ownsRow.cells hu' (g := g) rfl) (evsCells_one ys) (by simp only [maxLen]; omega) (by omega) hB
  refine ⟨v', w', hr, ?_, (Below.refl B w).grown h3 hB (fun k hk => (World.ownsRow.lt hv k hk).1), fun k hk hne => h3.block k hk hne.symm⟩
  unfold OwnE
  rw [List.length_append, evsCells_app]; exact h2
theorem wpList_appE {ops : Array Oper} {rest : List Oper} {o : Oper} {a : Act} {Q : Exit → Act → World → Prop} {w : World} (hgd : o.guard = none) (s x : Operand)
    (ho : o.op = .call { callee := .builtin .append, args := #[s, x], argTypes := #[25, 25] }) (B B' : Nat) (v u : Value) (xs ys : List Ev.E) (hs : a.eval s = v) (hx : a.eval x = u)
    (hv : OwnE w B v xs) (hu : OwnE w B' u ys) (hl : xs.length + ys.length ≤ 1000000000) (hB : B ≤ w.heap.size)
    (h : ∀ v' w', OwnE w' B v' (xs ++ ys) → Below B w w' → (∀ k, k < w.heap.size → v.ownBlock ≠ some k → w'.heap[k]? = w.heap[k]?) → wpList Tryd.prog ops Q rest (a.put o.dst v') w') : wpList Tryd.prog ops Q (o :: rest) a w := by
  obtain ⟨v', w', hr, h2, h3, h4⟩ := run_appE w o.type B B' v u xs ys hv hu hl hB
  refine wpList_plain hgd fun K hK => ?_
  unfold Oper.wp execOp
  simp only [ho, resolve, invoke, builtin, Sem.run_bind, Sem.run_pure, Result.andThen_ok, List.map_toArray, List.map_cons, List.map_nil, hs, hx, hr]
  exact hK _ _ (h v' w' h2 h3 h4)
set_option maxHeartbeats 4000000 in
set_option maxRecDepth 100000 in
theorem parts_any (va vb : Value) (xs ys : List Ev.E) (w : World) (hA : RdE w w.heap.size va xs) (hB : RdE w w.heap.size vb ys) (hla : xs.length ≤ 9223372036854775807) (hlb : ys.length ≤ 9223372036854775807)
    (hSa : ∀ x ∈ xs, x.anchor.length ≤ 9223372036854775807 ∧ x.tag.length ≤ 9223372036854775807 ∧ x.text.length ≤ 9223372036854775807) (hSb : ∀ x ∈ ys, x.anchor.length ≤ 9223372036854775807 ∧ x.tag.length ≤ 9223372036854775807 ∧ x.text.length ≤ 9223372036854775807) (hE : Env w) :
    Calls Tryd.prog 5 #[va, vb] w fun e w' => e = .returned (.bool true) ∧ Below w.heap.size w w' := by
  have HA := Lib.hid hA
  have HB := Lib.hid hB
  obtain ⟨aa, ac, rfl, hac, _⟩ := hA
  obtain ⟨ba, bc, rfl, hbc, _⟩ := hB
  have cA := Lib.hid (alive_any w hE)
  have cH1 := Lib.hid (fun W (hb : Below w.heap.size w W) => heavy_any _ xs W ((HA.out.below hb).mono hb.size) hla hSa)
  have cH2 := Lib.hid (fun W (hb : Below w.heap.size w W) => heavy_any _ ys W ((HB.out.below hb).mono hb.size) hlb hSb)
  have HE := Lib.hid hE
  clear hSa hSb hE
  cases h1 : Ev.heavy xs
  · cases h2 : Ev.heavy ys
    · rw [h1] at cH1
      rw [h2] at cH2
      obtain ⟨lx, sx⟩ := Ev.light xs h1
      obtain ⟨ly, sy⟩ := Ev.light ys h2
      have SX := Lib.hid (Ev.light_small xs h1)
      have SY := Lib.hid (Ev.light_small ys h2)
      have SZ : Hid (∀ x ∈ xs ++ ys, Ev.Small x) := fun x hx => by rcases List.mem_append.1 hx with hx | hx; (exact SX.out x hx); (exact SY.out x hx)
      have lz : (xs ++ ys).length ≤ 300 := by rw [List.length_append]; omega
      have cT1 := Lib.hid (fun W (hb : Below w.heap.size w W) => theirs_any _ xs W ((HA.out.below hb).mono hb.size) (by omega))
      have cT2 := Lib.hid (fun W (hb : Below w.heap.size w W) => theirs_any _ ys W ((HB.out.below hb).mono hb.size) (by omega))
      have RX := Lib.hid (fun v W (h : RdE W W.heap.size v xs) (hE : Env W) => right_any v xs W h (by omega) SX.out hE)
      have RY := Lib.hid (fun v W (h : RdE W W.heap.size v ys) (hE : Env W) => right_any v ys W h (by omega) SY.out hE)
      have RZ := Lib.hid (fun v W (h : RdE W W.heap.size v (xs ++ ys)) (hE : Env W) => right_any v (xs ++ ys) W h (by omega) SZ.out hE)
      have NX := Lib.hid (fun v W (h : RdE W W.heap.size v xs) => nodes_any v xs W h (by omega))
      have NY := Lib.hid (fun v W (h : RdE W W.heap.size v ys) => nodes_any v ys W h (by omega))
      have NZ := Lib.hid (fun v W (h : RdE W W.heap.size v (xs ++ ys)) => nodes_any v (xs ++ ys) W h (by omega))
      have DX := Lib.hid (fun v W (h : RdE W W.heap.size v xs) => depth_any v xs W h (by omega))
      have DY := Lib.hid (fun v W (h : RdE W W.heap.size v ys) => depth_any v ys W h (by omega))
      have DZ := Lib.hid (fun v W (h : RdE W W.heap.size v (xs ++ ys)) => depth_any v (xs ++ ys) W h (by omega))
      have PX := Lib.hid (fun v W (h : RdE W W.heap.size v xs) (hE : Env W) => print_any v xs W h (by omega) SX.out hE)
      have PY := Lib.hid (fun v W (h : RdE W W.heap.size v ys) (hE : Env W) => print_any v ys W h (by omega) SY.out hE)
      have PZ := Lib.hid (fun v W (h : RdE W W.heap.size v (xs ++ ys)) (hE : Env W) => print_any v (xs ++ ys) W h (by omega) SZ.out hE)
      clear sx sy hla hlb
      cases hrx : Ev.right xs
      · rw [hrx] at RX
        go_enter Tryd.func5, Tryd.ntmps5
        go_wp2_with (first
          | (go_at_call 8; refine cA.out.mono ?_; rintro e w1 ⟨rfl, hb1⟩)
          | (go_at_call 9; go_fit (cH1.out _ hb1); rintro e w2 ⟨rfl, hb2⟩; have cH2' := Lib.hid (cH2.out _ (bthen hb1 hb2)))
          | (go_at_call 9; go_fit cH2'.out; rintro e w3 ⟨rfl, hb3⟩; have HB3 := Lib.hid (bthen (bthen hb1 hb2) hb3); have T1 := Lib.hid (cT1.out _ HB3.out))
          | (go_at_call 10; go_fit T1.out; rintro e w4 ⟨⟨xv, rfl, hxo⟩, hb4⟩; obtain ⟨xa, xc, rfl⟩ := own_slice hxo; have HX4 := Lib.hid (rowE_rd hxo); have HB4 := Lib.hid (bthen HB3.out hb4); have T2 := Lib.hid (cT2.out _ HB4.out); clear hxo)
          | (go_at_call 10; go_fit T2.out; rintro e w5 ⟨⟨yv, rfl, hyo⟩, hb5⟩; obtain ⟨ya, yc, rfl⟩ := own_slice hyo; have HX5 := Lib.hid ((HX4.out.below hb5).mono hb5.size); have HY5 := Lib.hid (rowE_rd hyo); have HYO5 := Lib.hid hyo; have HB5 := Lib.hid (bthen HB4.out hb5); have T3 := Lib.hid (cT1.out _ HB5.out); clear hyo)
          | (go_at_call 10; go_fit T3.out; rintro e w6 ⟨⟨zv, rfl, hzo⟩, hb6⟩; obtain ⟨za, zc, rfl⟩ := own_slice hzo; have HZO6 := Lib.hid hzo; have HB6 := Lib.hid (bthen HB5.out hb6); have hz56 := hb6.size; clear hzo)
          | (at_builtin; refine wpList_appE rfl (.tmp 21) (.tmp 22) rfl w5.heap.size w4.heap.size _ _ xs ys rfl rfl ?o1 ?o2 ?l1 ?b1 ?_; (case o1 => exact HZO6.out); (case o2 => exact OwnE.below HYO5.out hb6); (case l1 => omega); (case b1 => exact hz56); intro v7 w7 ho7 hb7 hk7; obtain ⟨qa, qc, rfl⟩ := own_slice ho7; have HX7 := Lib.hid (((HX5.out.below hb6).below hb7).mono (Nat.le_trans hz56 hb7.size)); have HY7 := Lib.hid (((HY5.out.below hb6).below hb7).mono (Nat.le_trans hz56 hb7.size)); have HZ7 := Lib.hid (rowE_rd ho7); have HB7 : Below w.heap.size w w7 := HB6.out.trans (hb7.mono HB5.out.size); have HE7 := Lib.hid (HE.out.below HB7); clear ho7 hk7)
          | (go_at_call 11; go_fit (RX.out _ _ HX7.out HE7.out); rintro e w8 ⟨rfl, hb8⟩))
        go_ret
        exact ⟨rfl, bthen HB7 hb8⟩
      · have hz := Ev.right_app xs ys hrx
        have hdz := Ev.dmax_nested (Ev.kinds xs) (Ev.kinds ys) (Ev.right_parts xs hrx).2.2
        have hnz := Ev.nodes_app (Ev.kinds xs) (Ev.kinds ys)
        have hnx := Ev.nodes_le (Ev.kinds xs)
        have hny := Ev.nodes_le (Ev.kinds ys)
        rw [Ev.kinds_len] at hnx hny
        rw [Ev.kinds_app, hnz, Int.natCast_add] at NZ
        rw [Ev.kinds_app, hdz] at DZ
        rw [hz] at RZ
        rw [hrx] at RX
        have hpz := Ev.print_app xs ys hrx
        clear hz hdz hnz hrx
        generalize Ev.nodesOf (Ev.kinds xs) = nx at *
        generalize Ev.nodesOf (Ev.kinds ys) = ny at *
        generalize Ev.dmax (Ev.kinds xs) = dx at *
        generalize Ev.dmax (Ev.kinds ys) = dy at *
        cases hry : Ev.right ys
        · rw [hry] at RY RZ
          clear hpz hry PX PY PZ
          go_enter Tryd.func5, Tryd.ntmps5
          go_wp2_with (first
            | (go_at_call 8; refine cA.out.mono ?_; rintro e w1 ⟨rfl, hb1⟩)
            | (go_at_call 9; go_fit (cH1.out _ hb1); rintro e w2 ⟨rfl, hb2⟩; have cH2' := Lib.hid (cH2.out _ (bthen hb1 hb2)))
            | (go_at_call 9; go_fit cH2'.out; rintro e w3 ⟨rfl, hb3⟩; have HB3 := Lib.hid (bthen (bthen hb1 hb2) hb3); have T1 := Lib.hid (cT1.out _ HB3.out))
            | (go_at_call 10; go_fit T1.out; rintro e w4 ⟨⟨xv, rfl, hxo⟩, hb4⟩; obtain ⟨xa, xc, rfl⟩ := own_slice hxo; have HX4 := Lib.hid (rowE_rd hxo); have HB4 := Lib.hid (bthen HB3.out hb4); have T2 := Lib.hid (cT2.out _ HB4.out); clear hxo)
            | (go_at_call 10; go_fit T2.out; rintro e w5 ⟨⟨yv, rfl, hyo⟩, hb5⟩; obtain ⟨ya, yc, rfl⟩ := own_slice hyo; have HX5 := Lib.hid ((HX4.out.below hb5).mono hb5.size); have HY5 := Lib.hid (rowE_rd hyo); have HYO5 := Lib.hid hyo; have HB5 := Lib.hid (bthen HB4.out hb5); have T3 := Lib.hid (cT1.out _ HB5.out); clear hyo)
            | (go_at_call 10; go_fit T3.out; rintro e w6 ⟨⟨zv, rfl, hzo⟩, hb6⟩; obtain ⟨za, zc, rfl⟩ := own_slice hzo; have HZO6 := Lib.hid hzo; have HB6 := Lib.hid (bthen HB5.out hb6); have hz56 := hb6.size; clear hzo)
            | (at_builtin; refine wpList_appE rfl (.tmp 21) (.tmp 22) rfl w5.heap.size w4.heap.size _ _ xs ys rfl rfl ?o1 ?o2 ?l1 ?b1 ?_; (case o1 => exact HZO6.out); (case o2 => exact OwnE.below HYO5.out hb6); (case l1 => omega); (case b1 => exact hz56); intro v7 w7 ho7 hb7 hk7; obtain ⟨qa, qc, rfl⟩ := own_slice ho7; have HX7 := Lib.hid (((HX5.out.below hb6).below hb7).mono (Nat.le_trans hz56 hb7.size)); have HY7 := Lib.hid (((HY5.out.below hb6).below hb7).mono (Nat.le_trans hz56 hb7.size)); have HZ7 := Lib.hid (rowE_rd ho7); have HB7 : Below w.heap.size w w7 := HB6.out.trans (hb7.mono HB5.out.size); have hbz := Below.refl w7.heap.size w7; have HXW : Hid (∀ W, Below w7.heap.size w7 W → RdE W W.heap.size (.slice xa xs.length xc) xs) := fun W hb => (HX7.out.below hb).mono hb.size; have HYW : Hid (∀ W, Below w7.heap.size w7 W → RdE W W.heap.size (.slice ya ys.length yc) ys) := fun W hb => (HY7.out.below hb).mono hb.size; have HZW : Hid (∀ W, Below w7.heap.size w7 W → RdE W W.heap.size (.slice qa (xs.length + ys.length) qc) (xs ++ ys)) := (fun W hb => by have h7 := (HZ7.out.below hb).mono hb.size; rwa [List.length_append] at h7); have HEW : Hid (∀ W, Below w7.heap.size w7 W → Env W) := fun W hb => HE.out.below (bthen HB7 hb); clear ho7 hk7)
            | (go_at_call_of 11 (Value.slice xa xs.length xc); refine (RX.out _ _ (HXW.out _ hbz) (HEW.out _ hbz)).mono ?_; rintro e wn ⟨rfl, hbn⟩; have hbz := bthen hbz hbn; clear hbn)
            | (go_at_call_of 11 (Value.slice qa (xs.length + ys.length) qc); refine (RZ.out _ _ (HZW.out _ hbz) (HEW.out _ hbz)).mono ?_; rintro e wn ⟨rfl, hbn⟩; have hbz := bthen hbz hbn; clear hbn)
            | (go_at_call_of 11 (Value.slice ya ys.length yc); refine (RY.out _ _ (HYW.out _ hbz) (HEW.out _ hbz)).mono ?_; rintro e wn ⟨rfl, hbn⟩; have hbz := bthen hbz hbn; clear hbn)
            | (go_at_call_of 15 (Value.slice qa (xs.length + ys.length) qc); refine (NZ.out _ _ (HZW.out _ hbz)).mono ?_; rintro e wn ⟨rfl, hbn⟩; have hbz := bthen hbz hbn; clear hbn)
            | (go_at_call_of 15 (Value.slice xa xs.length xc); refine (NX.out _ _ (HXW.out _ hbz)).mono ?_; rintro e wn ⟨rfl, hbn⟩; have hbz := bthen hbz hbn; clear hbn)
            | (go_at_call_of 15 (Value.slice ya ys.length yc); refine (NY.out _ _ (HYW.out _ hbz)).mono ?_; rintro e wn ⟨rfl, hbn⟩; have hbz := bthen hbz hbn; clear hbn)
            | (go_at_call_of 13 (Value.slice qa (xs.length + ys.length) qc); refine (DZ.out _ _ (HZW.out _ hbz)).mono ?_; rintro e wn ⟨rfl, hbn⟩; have hbz := bthen hbz hbn; clear hbn)
            | (go_at_call_of 13 (Value.slice xa xs.length xc); refine (DX.out _ _ (HXW.out _ hbz)).mono ?_; rintro e wn ⟨rfl, hbn⟩; have hbz := bthen hbz hbn; clear hbn)
            | (go_at_call_of 13 (Value.slice ya ys.length yc); refine (DY.out _ _ (HYW.out _ hbz)).mono ?_; rintro e wn ⟨rfl, hbn⟩; have hbz := bthen hbz hbn; clear hbn))
          go_ret
          exact ⟨rfl, bthen HB7 hbz⟩
        · rw [hry] at RY RZ
          rw [hpz hry, ← str_app] at PZ
          clear hpz hry
          have hpx : (str (Ev.print xs)).size ≤ 200000000 := by rw [str_len]; have := Ev.print_len xs SX.out; omega
          have hpy : (str (Ev.print ys)).size ≤ 200000000 := by rw [str_len]; have := Ev.print_len ys SY.out; omega
          generalize str (Ev.print xs) = px at *
          generalize str (Ev.print ys) = py at *
          go_enter Tryd.func5, Tryd.ntmps5
          go_wp2_with (first
            | (go_at_call 8; refine cA.out.mono ?_; rintro e w1 ⟨rfl, hb1⟩)
            | (go_at_call 9; go_fit (cH1.out _ hb1); rintro e w2 ⟨rfl, hb2⟩; have cH2' := Lib.hid (cH2.out _ (bthen hb1 hb2)))
            | (go_at_call 9; go_fit cH2'.out; rintro e w3 ⟨rfl, hb3⟩; have HB3 := Lib.hid (bthen (bthen hb1 hb2) hb3); have T1 := Lib.hid (cT1.out _ HB3.out))
            | (go_at_call 10; go_fit T1.out; rintro e w4 ⟨⟨xv, rfl, hxo⟩, hb4⟩; obtain ⟨xa, xc, rfl⟩ := own_slice hxo; have HX4 := Lib.hid (rowE_rd hxo); have HB4 := Lib.hid (bthen HB3.out hb4); have T2 := Lib.hid (cT2.out _ HB4.out); clear hxo)
            | (go_at_call 10; go_fit T2.out; rintro e w5 ⟨⟨yv, rfl, hyo⟩, hb5⟩; obtain ⟨ya, yc, rfl⟩ := own_slice hyo; have HX5 := Lib.hid ((HX4.out.below hb5).mono hb5.size); have HY5 := Lib.hid (rowE_rd hyo); have HYO5 := Lib.hid hyo; have HB5 := Lib.hid (bthen HB4.out hb5); have T3 := Lib.hid (cT1.out _ HB5.out); clear hyo)
            | (go_at_call 10; go_fit T3.out; rintro e w6 ⟨⟨zv, rfl, hzo⟩, hb6⟩; obtain ⟨za, zc, rfl⟩ := own_slice hzo; have HZO6 := Lib.hid hzo; have HB6 := Lib.hid (bthen HB5.out hb6); have hz56 := hb6.size; clear hzo)
            | (at_builtin; refine wpList_appE rfl (.tmp 21) (.tmp 22) rfl w5.heap.size w4.heap.size _ _ xs ys rfl rfl ?o1 ?o2 ?l1 ?b1 ?_; (case o1 => exact HZO6.out); (case o2 => exact OwnE.below HYO5.out hb6); (case l1 => omega); (case b1 => exact hz56); intro v7 w7 ho7 hb7 hk7; obtain ⟨qa, qc, rfl⟩ := own_slice ho7; have HX7 := Lib.hid (((HX5.out.below hb6).below hb7).mono (Nat.le_trans hz56 hb7.size)); have HY7 := Lib.hid (((HY5.out.below hb6).below hb7).mono (Nat.le_trans hz56 hb7.size)); have HZ7 := Lib.hid (rowE_rd ho7); have HB7 : Below w.heap.size w w7 := HB6.out.trans (hb7.mono HB5.out.size); have hbz := Below.refl w7.heap.size w7; have HXW : Hid (∀ W, Below w7.heap.size w7 W → RdE W W.heap.size (.slice xa xs.length xc) xs) := fun W hb => (HX7.out.below hb).mono hb.size; have HYW : Hid (∀ W, Below w7.heap.size w7 W → RdE W W.heap.size (.slice ya ys.length yc) ys) := fun W hb => (HY7.out.below hb).mono hb.size; have HZW : Hid (∀ W, Below w7.heap.size w7 W → RdE W W.heap.size (.slice qa (xs.length + ys.length) qc) (xs ++ ys)) := (fun W hb => by have h7 := (HZ7.out.below hb).mono hb.size; rwa [List.length_append] at h7); have HEW : Hid (∀ W, Below w7.heap.size w7 W → Env W) := fun W hb => HE.out.below (bthen HB7 hb); clear ho7 hk7)
            | (go_at_call_of 11 (Value.slice xa xs.length xc); refine (RX.out _ _ (HXW.out _ hbz) (HEW.out _ hbz)).mono ?_; rintro e wn ⟨rfl, hbn⟩; have hbz := bthen hbz hbn; clear hbn)
            | (go_at_call_of 11 (Value.slice qa (xs.length + ys.length) qc); refine (RZ.out _ _ (HZW.out _ hbz) (HEW.out _ hbz)).mono ?_; rintro e wn ⟨rfl, hbn⟩; have hbz := bthen hbz hbn; clear hbn)
            | (go_at_call_of 11 (Value.slice ya ys.length yc); refine (RY.out _ _ (HYW.out _ hbz) (HEW.out _ hbz)).mono ?_; rintro e wn ⟨rfl, hbn⟩; have hbz := bthen hbz hbn; clear hbn)
            | (go_at_call_of 15 (Value.slice qa (xs.length + ys.length) qc); refine (NZ.out _ _ (HZW.out _ hbz)).mono ?_; rintro e wn ⟨rfl, hbn⟩; have hbz := bthen hbz hbn; clear hbn)
            | (go_at_call_of 15 (Value.slice xa xs.length xc); refine (NX.out _ _ (HXW.out _ hbz)).mono ?_; rintro e wn ⟨rfl, hbn⟩; have hbz := bthen hbz hbn; clear hbn)
            | (go_at_call_of 15 (Value.slice ya ys.length yc); refine (NY.out _ _ (HYW.out _ hbz)).mono ?_; rintro e wn ⟨rfl, hbn⟩; have hbz := bthen hbz hbn; clear hbn)
            | (go_at_call_of 13 (Value.slice qa (xs.length + ys.length) qc); refine (DZ.out _ _ (HZW.out _ hbz)).mono ?_; rintro e wn ⟨rfl, hbn⟩; have hbz := bthen hbz hbn; clear hbn)
            | (go_at_call_of 13 (Value.slice xa xs.length xc); refine (DX.out _ _ (HXW.out _ hbz)).mono ?_; rintro e wn ⟨rfl, hbn⟩; have hbz := bthen hbz hbn; clear hbn)
            | (go_at_call_of 13 (Value.slice ya ys.length yc); refine (DY.out _ _ (HYW.out _ hbz)).mono ?_; rintro e wn ⟨rfl, hbn⟩; have hbz := bthen hbz hbn; clear hbn)
            | (go_at_call_of 17 (Value.slice qa (xs.length + ys.length) qc); refine (PZ.out _ _ (HZW.out _ hbz) (HEW.out _ hbz)).mono ?_; rintro e wn ⟨rfl, hbn⟩; have hbz := bthen hbz hbn; clear hbn)
            | (go_at_call_of 17 (Value.slice xa xs.length xc); refine (PX.out _ _ (HXW.out _ hbz) (HEW.out _ hbz)).mono ?_; rintro e wn ⟨rfl, hbn⟩; have hbz := bthen hbz hbn; clear hbn)
            | (go_at_call_of 17 (Value.slice ya ys.length yc); refine (PY.out _ _ (HYW.out _ hbz) (HEW.out _ hbz)).mono ?_; rintro e wn ⟨rfl, hbn⟩; have hbz := bthen hbz hbn; clear hbn))
          go_ret
          exact ⟨rfl, bthen HB7 hbz⟩
    · rw [h1] at cH1
      rw [h2] at cH2
      go_enter Tryd.func5, Tryd.ntmps5
      go_wp2_with (first
        | (go_at_call 8; refine cA.out.mono ?_; rintro e w1 ⟨rfl, hb1⟩)
        | (go_at_call 9; go_fit (cH1.out _ hb1); rintro e w2 ⟨rfl, hb2⟩; have cH2' := Lib.hid (cH2.out _ (bthen hb1 hb2)))
        | (go_at_call 9; go_fit cH2'.out; rintro e w3 ⟨rfl, hb3⟩))
      go_ret
      exact ⟨rfl, bthen (bthen hb1 hb2) hb3⟩
  · rw [h1] at cH1
    go_enter Tryd.func5, Tryd.ntmps5
    go_wp2_with (first
      | (go_at_call 8; refine cA.out.mono ?_; rintro e w1 ⟨rfl, hb1⟩)
      | (go_at_call 9; go_fit (cH1.out _ hb1); rintro e w2 ⟨rfl, hb2⟩))
    go_ret
    exact ⟨rfl, bthen hb1 hb2⟩
end Go.Proofs.YthkedlcmpibkjaaDoor
