/-
  What a map of the told anchors, and one of those that were asked for, hold.
  The walk of FlattenAnchors.
  The walk of FlattenAnchors.
-/
import Derived.Test.YtbimjdlkffbncaaDoorFg
import Derived.Test.YtbimjdlkffbncaaDoorFo
import Derived.Maps.OwnSet
import Derived.Maps.OwnOps
import Derived.DeepKeys4
import Derived.Carry
import Derived.StringKeys
import Derived.Test.YtbimjdlkffbncaaDoorFu
import Derived.Deep.QuietTactic
namespace Go.Proofs.YtbimjdlkffbncaaDoor
open Go.RowKit Go.Maps
theorem lawS : Keyed Tryd.prog 9 := string_keyed Tryd.underlying9
theorem zeroI (w : World) : (zeroValue 3).run Tryd.prog w = .ok (.int .i64 0) w := by kernel_rfl
theorem key_str (a : List UInt8) (h : a.length ≤ 1000000) : keyOf Tryd.prog 9 (.string (str a)) = some (.string a) := by
  have h1 : (str a).size ≤ maxLen := by rw [str_size]; unfold maxLen; omega
  rw [WideMaps.keyOf_string_mk Tryd.underlying9 h1, str_dat]
theorem isKey (a : List UInt8) (h : a.length ≤ 1000000) : WideAt.IsKeyLit (.string a) := lawS.key (key_str a h)
theorem ne_str {a b : List UInt8} (h : a ≠ b) : Lit.string a ≠ Lit.string b := fun e => h (by injection e)
theorem lit_inj {c d : Int} (h : (DataW.lit (.int .i64 c) : DataW Unit) = .lit (.int .i64 d)) : c = d := by
  injection h with h
  injection h
/-- the anchors that were told: each once -/
structure Told (D : DataW Unit) (T : List (List UInt8)) : Prop where
  tidy : Tidy D
  num : ∀ a, D.atKey (.string a) (.lit (.int .i64 0)) = .lit (.int .i64 (if T.contains a then 1 else 0))
  has : ∀ a, Maps.has D (.string a) = T.contains a
  size : Maps.size D = T.length
theorem Told.none : Told (.map []) [] := ⟨tidy_empty, fun _ => rfl, fun _ => rfl, rfl⟩
theorem has_snoc (T : List (List UInt8)) (a b : List UInt8) : (T ++ [a]).contains b = (T.contains b || decide (b = a)) := by
  rw [Bool.eq_iff_iff, List.contains_iff_mem, Bool.or_eq_true, List.contains_iff_mem, decide_eq_true_eq, List.mem_append, List.mem_singleton]
theorem Told.put {D : DataW Unit} {T : List (List UInt8)} (h : Told D T) (a : List UInt8) (ha : a.length ≤ 1000000) (hn : T.contains a = false) : Told (D.put (.string a) (.lit (.int .i64 1))) (T ++ [a]) := by
  have hk := isKey a ha
  refine ⟨h.tidy.put hk _, fun b => ?_, fun b => ?_, ?_⟩
  · rw [has_snoc]
    by_cases e : b = a
    · subst e
      rw [atKey_put_same h.tidy.isMap hk]
      simp
    · rw [atKey_put_other (ne_str e), h.num b]
      simp [e]
  · rw [has_snoc]
    by_cases e : b = a
    · subst e
      rw [has_put_same h.tidy.isMap hk]
      simp
    · rw [has_put_other (ne_str e), h.has b]
      simp [e]
  · rw [size_put h.tidy, h.has a, hn, h.size]
    simp
/-- the anchors that were asked for, each some times -/
structure Asked (D : DataW Unit) (A : List (List UInt8)) (n : Nat) : Prop where
  tidy : Tidy D
  num : ∀ a c, D.atKey (.string a) (.lit (.int .i64 0)) = .lit (.int .i64 c) → 0 ≤ c ∧ c ≤ n
  has : ∀ a, Maps.has D (.string a) = A.contains a
  size : Maps.size D = A.length
  apart : A.Nodup
theorem Asked.none : Asked (.map []) [] 0 := ⟨tidy_empty, fun _ c h => by
  have h : (DataW.lit (.int .i64 0) : DataW Unit) = .lit (.int .i64 c) := h
  injection h with h
  injection h with _ h
  omega, fun _ => rfl, rfl, List.nodup_nil⟩
theorem Asked.mono {D : DataW Unit} {A : List (List UInt8)} {n m : Nat} (h : Asked D A n) (hm : n ≤ m) : Asked D A m :=
  ⟨h.tidy, fun a c e => by have := h.num a c e; omega, h.has, h.size, h.apart⟩
theorem Asked.put {D : DataW Unit} {A : List (List UInt8)} {n : Nat} (h : Asked D A n) (a : List UInt8) (ha : a.length ≤ 1000000) (c : Int) (h0 : 0 ≤ c) (h1 : c ≤ n + 1) :
    Asked (D.put (.string a) (.lit (.int .i64 c))) (if A.contains a then A else A ++ [a]) (n + 1) := by
  have hk := isKey a ha
  refine ⟨h.tidy.put hk _, fun b d hd => ?_, fun b => ?_, ?_, ?_⟩
  · by_cases e : b = a
    · subst e
      rw [atKey_put_same h.tidy.isMap hk] at hd
      injection hd with hd
      injection hd with _ hd
      omega
    · rw [atKey_put_other (ne_str e)] at hd
      have := h.num b d hd
      omega
  · by_cases e : b = a
    · subst e
      rw [has_put_same h.tidy.isMap hk]
      cases hc : A.contains b
      · rw [if_neg (by decide), has_snoc]; simp
      · rw [if_pos rfl, hc]
    · rw [has_put_other (ne_str e), h.has b]
      cases hc : A.contains a
      · rw [if_neg (by decide), has_snoc]; simp [e]
      · rw [if_pos rfl]
  · rw [size_put h.tidy, h.has a, h.size]
    cases hc : A.contains a <;> simp
  · cases hc : A.contains a
    · rw [if_neg (by decide)]
      refine List.nodup_append.2 ⟨h.apart, by simp, fun p hp q hq => ?_⟩
      rw [List.mem_singleton] at hq
      subst hq
      intro e
      subst e
      rw [List.contains_iff_mem.2 hp] at hc
      cases hc
    · rw [if_pos rfl]; exact h.apart
theorem mem_put (A : List (List UInt8)) (a b : List UInt8) : b ∈ (if A.contains a then A else A ++ [a]) ↔ b ∈ A ∨ b = a := by
  cases hc : A.contains a
  · rw [if_neg (by decide)]; simp
  · rw [if_pos rfl]
    exact ⟨.inl, fun h => h.elim id fun e => e ▸ List.contains_iff_mem.1 hc⟩
theorem Fl.asked_cons (x : Ev.E) (t : List Ev.E) : Fl.asked (x :: t) = if Fl.isAsk x = true then x.anchor :: Fl.asked t else Fl.asked t := by
  unfold Fl.asked
  rw [List.filter_cons]
  split <;> rfl
theorem same_size {A T : List (List UInt8)} (hA : A.Nodup) (hT : T.Nodup) (h : ∀ x, x ∈ A ↔ x ∈ T) : A.length = T.length :=
  ((List.perm_ext_iff_of_nodup hA hT).2 fun x => h x).length_eq
/-- len of a map that is owned, as an equation that holds after each draw -/
theorem len_drew {w : World} {b n : Nat} {D : DataW Unit} (h : w.ownsMap Tryd.prog 9 (plainElem Tryd.prog 3) b n D) (k : Nat) (ty : TypeId) :
    (Builtin.len_ #[54] ty #[.map (some b)]).run Tryd.prog (w.drewN k) = .ok (.int .i64 (Maps.size D)) (w.drewN k) := by
  have h2 : (w.drewN k).ownsMap Tryd.prog 9 (plainElem Tryd.prog 3) b n D := h
  exact h2.len Tryd.underlying54 ty
theorem look_drew {w : World} {b n : Nat} {D : DataW Unit} (h : w.ownsMap Tryd.prog 9 (plainElem Tryd.prog 3) b n D) (a : List UInt8) (ha : a.length ≤ 1000000) (c : Int) (hc : D.atKey (.string a) (.lit (.int .i64 0)) = .lit (.int .i64 c)) (k : Nat) :
    (Instr.lookup 54 (.map (some b)) (.string (str a)) false).run Tryd.prog (w.drewN k) = .ok (.int .i64 c) (w.drewN k) := by
  have h2 : (w.drewN k).ownsMap Tryd.prog 9 (plainElem Tryd.prog 3) b n D := h
  obtain ⟨c', hr, he, _⟩ := h2.lookup_int lawS Tryd.underlying54 Tryd.underlying3 (zeroI _) (key_str a ha)
  rw [hc] at he
  have e := lit_inj he
  subst e
  exact hr
end Go.Proofs.YtbimjdlkffbncaaDoor
namespace Go.Proofs.YtbimjdlkffbncaaDoor
open Go.RowKit Go.Maps
theorem look_own (w : World) {ops : Array Oper} {rest : List Oper} {o : Oper} {a : Act} {Q : Exit → Act → World → Prop} (hg : o.guard = none) (m x : Operand) (hop : o.op = Op.lookup 54 m x false) (b n : Nat) (D : DataW Unit) (hm : a.eval m = .map (some b)) (hown : w.ownsMap Tryd.prog 9 (plainElem Tryd.prog 3) b n D) (s : List UInt8) (hs : s.length ≤ 1000000) (hx : a.eval x = .string (str s)) (c : Int) (hc : D.atKey (.string s) (.lit (.int .i64 0)) = .lit (.int .i64 c)) (hK : wpList Tryd.prog ops Q rest (a.put o.dst (.int .i64 c)) w) : wpList Tryd.prog ops Q (o :: rest) a w :=
  wpList_lookup_own_int w hg m x 54 hop 9 3 .i64 lawS Tryd.underlying54 Tryd.underlying3 (zeroI _) b n D hm hown _ (.string s) hx (key_str s hs) (fun c' hat _ => by
    rw [hc] at hat
    have e := lit_inj hat
    subst e
    exact hK)
theorem wf_small (c : Int) (h0 : 0 ≤ c) (h1 : c ≤ 1000000) : (Lit.int .i64 c).wf = true := by
  show (decide _ && decide _) = true
  rw [Bool.and_eq_true]
  exact ⟨decide_eq_true (by show (-9223372036854775808 : Int) ≤ c; omega), decide_eq_true (by show c ≤ (9223372036854775807 : Int); omega)⟩
theorem put_own (w : World) {ops : Array Oper} {rest : List Oper} {o : Oper} {a : Act} {Q : Exit → Act → World → Prop} (hg : o.guard = none) (m x v : Operand) (hop : o.op = Op.mapUpdate 54 m x v) (b n : Nat) (D : DataW Unit) (hm : a.eval m = .map (some b)) (hown : w.ownsMap Tryd.prog 9 (plainElem Tryd.prog 3) b n D) (hn : n ≤ 1000000) (s : List UInt8) (hs : s.length ≤ 1000000) (hx : a.eval x = .string (str s)) (c : Int) (hv : a.eval v = .int .i64 c) (h0 : 0 ≤ c) (h1 : c ≤ 1000000)
    (hK : ∀ w', w'.ownsMap Tryd.prog 9 (plainElem Tryd.prog 3) b (n + 1) (D.put (.string s) (.lit (.int .i64 c))) → w.grownBy w' (some b) → wpList Tryd.prog ops Q rest (a.put o.dst undef) w') : wpList Tryd.prog ops Q (o :: rest) a w :=
  wpList_mapUpdate_own w hg m x v 54 hop 9 3 lawS Tryd.underlying54 (plainElem Tryd.prog 3) b n D hm hown (by unfold maxLen; omega) _ _ (.string s) hx hv (key_str s hs) _ [] (plainElem_int Tryd.underlying3 (wf_small c h0 h1)) hK
/-- the name of an anchor is short -/
theorem name_short (k : Nat) (h : k ≤ 1000000) : (97 :: Lib.itoa (k : Int)).length ≤ 100 := by
  have := itoa_len (k : Int) (by omega) (by omega)
  rw [List.length_cons]; omega
structure Run (es : List Ev.E) (T : List (List UInt8)) (j : Nat) (T1 A1 : List (List UInt8)) : Prop where
  le : j ≤ es.length
  run : Fl.runT (es.drop j) T1 = some T
  mem : ∀ x, (x ∈ A1 ∨ x ∈ Fl.asked (es.drop j)) ↔ x ∈ T
  short : ∀ a ∈ T1, a.length ≤ 100
  few : T1.length ≤ j
theorem Run.skip {es : List Ev.E} {T T1 A1 : List (List UInt8)} {j : Nat} (h : Run es T j T1 A1) (hj : j < es.length) (ha : es[j].anchor = []) : Run es T (j + 1) T1 A1 := by
  have hr := h.run
  have hm := h.mem
  rw [List.drop_eq_getElem_cons hj, Fl.runT_cons, if_pos ha] at hr
  rw [List.drop_eq_getElem_cons hj, Fl.asked_cons, if_neg (by unfold Fl.isAsk; rw [ha]; simp)] at hm
  exact ⟨hj, hr, hm, h.short, Nat.le_succ_of_le h.few⟩
theorem Run.ask {es : List Ev.E} {T T1 A1 : List (List UInt8)} {j : Nat} (h : Run es T j T1 A1) (hj : j < es.length) (ha : es[j].anchor ≠ []) (hk : es[j].kind = 7) : T1.contains es[j].anchor = true ∧ es[j].anchor.length ≤ 100 ∧ Run es T (j + 1) T1 (if A1.contains es[j].anchor then A1 else A1 ++ [es[j].anchor]) := by
  have hr := h.run
  have hm := h.mem
  rw [List.drop_eq_getElem_cons hj, Fl.runT_cons, if_neg ha, if_pos hk] at hr
  rw [List.drop_eq_getElem_cons hj, Fl.asked_cons, if_pos (by
    unfold Fl.isAsk
    rw [decide_eq_true hk, Bool.true_and]
    cases hh : es[j].anchor with
    | nil => exact absurd hh ha
    | cons a t => rfl)] at hm
  split at hr
  · rename_i hc
    refine ⟨hc, h.short _ (List.contains_iff_mem.1 hc), hj, hr, fun x => ?_, h.short, Nat.le_succ_of_le h.few⟩
    rw [← hm x, mem_put, List.mem_cons]
    constructor
    · rintro ((q | q) | q)
      · exact .inl q
      · exact .inr (.inl q)
      · exact .inr (.inr q)
    · rintro (q | q | q)
      · exact .inl (.inl q)
      · exact .inl (.inr q)
      · exact .inr q
  · cases hr
theorem Run.tell {es : List Ev.E} {T T1 A1 : List (List UInt8)} {j : Nat} (h : Run es T j T1 A1) (hj : j < es.length) (ha : es[j].anchor ≠ []) (hk : es[j].kind ≠ 7) (hl : es.length ≤ 25000) : T1.contains es[j].anchor = false ∧ es[j].anchor = 97 :: Lib.itoa ((T1.length + 1 : Nat) : Int) ∧ es[j].anchor.length ≤ 100 ∧ Run es T (j + 1) (T1 ++ [es[j].anchor]) A1 := by
  have hr := h.run
  have hm := h.mem
  have hf := h.few
  rw [List.drop_eq_getElem_cons hj, Fl.runT_cons, if_neg ha, if_neg hk] at hr
  rw [List.drop_eq_getElem_cons hj, Fl.asked_cons, if_neg (by unfold Fl.isAsk; rw [decide_eq_false hk, Bool.false_and]; decide)] at hm
  split at hr
  · cases hr
  · rename_i hc
    split at hr
    · rename_i hn
      have hs : es[j].anchor.length ≤ 100 := by rw [hn]; exact name_short _ (by omega)
      refine ⟨by simpa using hc, hn, hs, hj, hr, hm, fun a hx => ?_, by rw [List.length_append, List.length_singleton]; omega⟩
      rcases List.mem_append.1 hx with q | q
      · exact h.short a q
      · rw [List.mem_singleton] at q; rw [q]; exact hs
    · cases hr
end Go.Proofs.YtbimjdlkffbncaaDoor
namespace Go.Proofs.YtbimjdlkffbncaaDoor
theorem Fl.events_ok2 (g : List Ar.Nd) (es : List Ev.E) (he : Fl.events [g] = .ok es) : es = Fl.doc g ∧ Ar.right g = true := by
  unfold Fl.events at he
  simp only [List.any_cons, List.any_nil, Bool.or_false] at he
  split at he
  · cases he
  · rename_i h1
    split at he
    · cases he
    · cases he
      refine ⟨by simp, ?_⟩
      simpa using h1
open Go.RowKit Go.Maps
theorem drewF {B : Nat} {w w' : World} (h : Below B w w') (n : Nat) : Below B w (w'.drewN n) := ⟨h.os, h.tape, h.output, h.size, h.block⟩

set_option maxHeartbeats 8000000 in
set_option maxRecDepth 100000 in
theorem anchors_walk (v : Value) (g : List Ar.Nd) (w : World) (hg : RdGo w w.heap.size v g) (hgl : g.length ≤ 2199023255488) (hfk : ∀ x ∈ g, x.kids.length ≤ 17592186044160) (hE : Env w) :
    Calls Tryd.prog 9 #[v] w fun e w' => e = .returned (.bool true) ∧ Below w.heap.size w w' := by
  have cA := Lib.hid (flAlive_any w hE)
  have cT := Lib.hid (fun W (hb : Below w.heap.size w W) => theirs_any v g W ((hg.below hb).mono hb.size) hgl hfk)
  have cH := Lib.hid (fun W (hb : Below w.heap.size w W) => heavy_any v g W ((hg.below hb).mono hb.size) hgl)
  have HE := Lib.hid hE
  clear hE hfk
  obtain ⟨ga, gc, rfl, _, _⟩ := hg
  cases hh : Ar.heavy g
  · have hL := Ar.light_of g hh
    have hlen := hL.len
    rw [hh] at cH
    have hea := hL.easy
    have cE := Lib.hid (fun W v' (h : RdGG W W.heap.size v' [g]) (hE : Env W) => events_any v' [g] W h (by simp) (fun x hx => by rw [List.mem_singleton] at hx; subst hx; exact hea) hE)
    cases he : Fl.events [g] with
    | error k =>
      have hk : k = 5 ∨ k = 13 := by
        unfold Fl.events at he
        split at he
        · cases he; exact .inl rfl
        · split at he
          · cases he; exact .inr rfl
          · cases he
      rw [he] at cE
      clear he hea
      rcases hk with rfl | rfl
      all_goals
        go_enter Tryd.func9, Tryd.ntmps9
        go_wp2_with (first
          | (go_at_call 27; refine cA.out.mono ?_; rintro e w1 ⟨rfl, hb1⟩; have HB1 := Lib.hid hb1; clear hb1)
          | (go_at_call 28; refine (cH.out _ HB1.out).mono ?_; rintro e w2 ⟨rfl, hb2⟩; have HB2 := Lib.hid (bthen HB1.out hb2); clear hb2)
          | (go_at_call 30; refine (cT.out _ HB2.out).mono ?_; rintro e w3 ⟨⟨u, rfl, ho⟩, hb3⟩; obtain ⟨ua, uc, rfl⟩ := ho.form; have HT3 := Lib.hid ho.rd; have HB3 := Lib.hid (bthen HB2.out hb3); clear hb3 ho)
          | (go_at_call 29; refine (cE.out _ _ (rd_row1 (alloc_blk w3 _) ((HT3.out.below (bnew w3 _)).mono (bnew w3 _).size) (by rw [World.size_alloc]; omega)) (HE.out.below (bthen HB3.out (bnew w3 _)))).mono ?_; rintro e w4 ⟨rfl, hb4⟩))
        go_ret
        exact ⟨rfl, bthen (bthen HB3.out (bnew w3 _)) hb4⟩
    | ok es =>
      obtain ⟨rfl, hr⟩ := Fl.events_ok2 g es he
      rw [he] at cE
      obtain ⟨T, hT, hTn, hTm⟩ := Fl.doc_anchors g hr
      have hdl := Fl.doc_light g hr hL
      generalize Fl.doc g = es at *
      have HR0 : Hid (Run es T 0 [] []) := ⟨Nat.zero_le _, hT, fun x => by rw [← hTm x]; simp, fun a h => by simp at h, Nat.le_refl _⟩
      have HTN := Lib.hid hTn
      clear he hea hT hTm hTn
      have hmm := @run_makeMap Tryd.prog
      go_enter Tryd.func9, Tryd.ntmps9
      go_wp2_with (first
        | (go_at_call 27; refine cA.out.mono ?_; rintro e w1 ⟨rfl, hb1⟩; have HB1 := Lib.hid hb1; clear hb1)
        | (go_at_call 28; refine (cH.out _ HB1.out).mono ?_; rintro e w2 ⟨rfl, hb2⟩; have HB2 := Lib.hid (bthen HB1.out hb2); clear hb2)
        | (go_at_call 30; refine (cT.out _ HB2.out).mono ?_; rintro e w3 ⟨⟨u, rfl, ho⟩, hb3⟩; obtain ⟨ua, uc, rfl⟩ := ho.form; have HT3 := Lib.hid ho.rd; have HB3 := Lib.hid (bthen HB2.out hb3); clear hb3 ho)
        | (go_at_call 29; refine (cE.out _ _ (rd_row1 (alloc_blk w3 _) ((HT3.out.below (bnew w3 _)).mono (bnew w3 _).size) (by rw [World.size_alloc]; omega)) (HE.out.below (bthen HB3.out (bnew w3 _)))).mono ?_; rintro e w4 ⟨⟨u4, rfl, ho4⟩, hb4⟩; obtain ⟨la, lc, rfl⟩ := own_slice ho4; have HL4 := Lib.hid (rowE_rd ho4); have hb4' := bthen (bnew w3 _) hb4; have HB4 := Lib.hid (bthen HB3.out hb4'); clear hb4 hb4' ho4))
      have own1 : ((w4.alloc (.map #[] 0)).alloc (.map #[] 0)).ownsMap Tryd.prog 9 (plainElem (H := Unit) Tryd.prog 3) w4.heap.size 0 (.map []) := (World.ownsMap_made w4 _ _ _).alloc _
      have own2 : ((w4.alloc (.map #[] 0)).alloc (.map #[] 0)).ownsMap Tryd.prog 9 (plainElem (H := Unit) Tryd.prog 3) (w4.heap.size + 1) 0 (.map []) := by
        have := World.ownsMap_made (w4.alloc (.map #[] 0)) Tryd.prog 9 (plainElem (H := Unit) Tryd.prog 3)
        rw [World.size_alloc] at this
        exact this
      have HB0 := Lib.hid ((bnew w4 (.map #[] 0)).alloc (bnew w4 (.map #[] 0)).size (.map #[] 0))
      generalize (w4.alloc (.map #[] 0)).alloc (.map #[] 0) = W at *
      go_loopg [29] es.length (fun q i wr => ∃ (j : Nat) (T1 A1 : List (List UInt8)) (D1 D2 : DataW Unit), q = es.length - j ∧ i = .int .i64 j ∧ Hid (Run es T j T1 A1) ∧ Hid (wr.ownsMap Tryd.prog 9 (plainElem Tryd.prog 3) w4.heap.size j D1) ∧ Hid (wr.ownsMap Tryd.prog 9 (plainElem Tryd.prog 3) (w4.heap.size + 1) j D2) ∧ Hid (Told D1 T1) ∧ Hid (Asked D2 A1 j) ∧ Hid (Below w4.heap.size w4 wr))
      case atStart => exact ⟨0, [], [], _, _, by omega, rfl, HR0, Lib.hid own1, Lib.hid own2, Lib.hid Told.none, Lib.hid Asked.none, HB0⟩
      case round =>
        obtain ⟨j, T1, A1, D1, D2, rfl, rfl, HR, HM1, HM2, HT1, HA1, HB⟩ := hrel
        clear HR0 own1 own2
        have hj := HR.out.le
        have hwr := HB.out.size
        have hb2l := HM2.out.lt
        by_cases hjt : j < es.length
        · obtain ⟨_, _, hv, _, hcl⟩ := HL4.out
          cases hv
          obtain ⟨gg, go, rfl, hgg, hcl⟩ := hcl (by omega)
          obtain ⟨c0, c1, c2, c3, c4⟩ := (hcl j hjt).below HB.out hgg
          have rs := Lib.hid (HR.out.skip hjt)
          have ra := Lib.hid (HR.out.ask hjt)
          have rt := Lib.hid (fun h1 h2 => HR.out.tell hjt h1 h2 hdl)
          have hfew := HR.out.few
          clear hcl
          generalize es[j] = x at *
          obtain ⟨k, an, tg, tx, pl⟩ := x
          simp only at c0 c1 c2 c3 c4 rs ra rt
          have HB6 := Lib.hid (HB.out.alloc HB.out.size (.cells #[.int .i64 k, .string (str an), .string (str tg), .string (str tx), .bool pl] 40))
          have HW := Lib.hid (alloc_blk wr (.cells #[.int .i64 k, .string (str an), .string (str tg), .string (str tx), .bool pl] 40))
          have HM1a := Lib.hid (HM1.out.alloc (.cells #[.int .i64 k, .string (str an), .string (str tg), .string (str tx), .bool pl] 40))
          have HM2a := Lib.hid (HM2.out.alloc (.cells #[.int .i64 k, .string (str an), .string (str tg), .string (str tx), .bool pl] 40))
          by_cases ha : an = []
          · subst ha
            rw [str_nil] at *
            have RS := Lib.hid (rs.out rfl)
            clear ra rt rs
            go_wp2
            go_roundg (es.length - (j + 1))
            case measure => omega
            case rel => exact ⟨j + 1, T1, A1, D1, D2, rfl, by go_num, RS, Lib.hid (HM1a.out.mono (Nat.le_succ _)), Lib.hid (HM2a.out.mono (Nat.le_succ _)), HT1, Lib.hid (HA1.out.mono (Nat.le_succ _)), HB6⟩
          · have n0 := str_nemp an ha
            have n1 := str_neN an ha
            by_cases hk : k = 7
            · subst hk
              obtain ⟨hc, hs, RA⟩ := ra.out ha rfl
              have RA := Lib.hid RA
              have hs2 : an.length ≤ 1000000 := by omega
              have hn1 := HT1.out.num an
              rw [hc, if_pos rfl] at hn1
              have hn2 : ∃ c : Int, D2.atKey (.string an) (.lit (.int .i64 0)) = .lit (.int .i64 c) := by
                obtain ⟨c, _, h, _⟩ := HM2.out.lookup_int lawS Tryd.underlying54 Tryd.underlying3 (zeroI _) (key_str an hs2)
                exact ⟨c, h⟩
              obtain ⟨c, hn2⟩ := hn2
              obtain ⟨hc0, hc1⟩ := HA1.out.num an c hn2
              have AP := Lib.hid (HA1.out.put an hs2 (c + 1) (by omega) (by omega))
              clear ra rt rs hc hs
              go_wp2_with (first
                | (at_lookup; refine look_own _ rfl _ _ rfl w4.heap.size j D1 rfl HM1a.out an hs2 rfl 1 hn1 ?_)
                | (at_lookup; refine look_own _ rfl _ _ rfl (w4.heap.size + 1) j D2 rfl HM2a.out an hs2 rfl c hn2 ?_)
                | (at_mapUpdate; refine put_own _ rfl _ _ _ rfl (w4.heap.size + 1) j D2 rfl HM2a.out (by omega) an hs2 rfl (c + 1) rfl (by omega) (by omega) ?_; intro w7 hown7 hgrow7))
              have HB7 := Lib.hid (HB6.out.grown hgrow7 HB6.out.size (fun i hi => by cases hi; omega))
              have HM17 := Lib.hid (HM1a.out.kept hgrow7 (by intro e; injection e with e; omega))
              go_roundg (es.length - (j + 1))
              case measure => omega
              case rel => exact ⟨j + 1, T1, _, D1, _, rfl, by go_num, RA, Lib.hid (HM17.out.mono (Nat.le_succ _)), Lib.hid hown7, HT1, AP, HB7⟩
            · obtain ⟨hc, hnm, hs, RT⟩ := rt.out ha hk
              have RT := Lib.hid RT
              have nk : (k == 7) = false := beq_eq_false_iff_ne.2 hk
              have hs2 : an.length ≤ 1000000 := by omega
              have hn1 := HT1.out.num an
              rw [hc, if_neg (by decide)] at hn1
              have TP := Lib.hid (HT1.out.put an hs2 hc)
              obtain ⟨m, hm⟩ : ∃ m, m = T1.length + 1 := ⟨_, rfl⟩
              have hsz : Maps.size (D1.put (.string an) (.lit (.int .i64 1))) = m := by rw [TP.out.size, List.length_append, List.length_singleton, hm]
              have hat1 : (D1.put (.string an) (.lit (.int .i64 1))).atKey (.string an) (.lit (.int .i64 0)) = .lit (.int .i64 1) := atKey_put_same HT1.out.tidy.isMap (isKey an hs2) _ _
              have cN := Lib.hid (fun W => name10_any m W (by omega) (by omega))
              rw [← hm] at hnm
              rw [← hnm] at cN
              have hq : ((str an).toList == (str an).toList) = true := by rw [str_same]; simp
              have hm0 : 0 < m := by omega
              have hm1 : m ≤ 1000000 := by omega
              clear ra rt rs hs hnm hm
              go_wp2_with (first
                | (at_lookup; refine look_own _ rfl _ _ rfl w4.heap.size j D1 rfl HM1a.out an hs2 rfl 0 hn1 ?_)
                | (at_mapUpdate; refine put_own _ rfl _ _ _ rfl w4.heap.size j D1 rfl HM1a.out (by omega) an hs2 rfl 1 rfl (by omega) (by omega) ?_; intro w7 hown7 hgrow7))
              have HB7 := Lib.hid (HB6.out.grown hgrow7 HB6.out.size (fun i hi => by cases hi; omega))
              have HM27 := Lib.hid (HM2a.out.kept hgrow7 (by intro e; injection e with e; omega))
              have K7 := Lib.hid ((hgrow7.block wr.heap.size (by rw [World.size_alloc]; omega) (by intro e; injection e with e; omega)).trans HW.out)
              obtain ⟨⟨u0, u1, _, _, _⟩, _⟩ := five K7.out
              have hlk := fun n => look_drew hown7 an hs2 1 hat1 n
              have hln := fun n => len_drew hown7 n 3
              rw [hsz] at hln
              go_quiet (first
                | (go_at_call 34; refine Calls.quiet_of_same ((cN.out _).mono fun _ _ h => ⟨h.1, h.2.symm⟩)))
              go_wp2
              go_roundg (es.length - (j + 1))
              case measure => omega
              case rel => exact ⟨j + 1, _, A1, _, D2, rfl, by go_num, RT, Lib.hid hown7, Lib.hid (HM27.out.mono (Nat.le_succ _)), TP, Lib.hid (HA1.out.mono (Nat.le_succ _)), Lib.hid (drewF HB7.out _)⟩
        · have hje : j = es.length := by omega
          subst hje
          have hrun := HR.out.run
          have hmem := HR.out.mem
          rw [List.drop_length] at hrun hmem
          obtain rfl : T1 = T := by
            have e : Fl.runT [] T1 = some T1 := rfl
            rw [e] at hrun
            injection hrun
          have hal : A1.length = T1.length := same_size HA1.out.apart HTN.out (fun x => by rw [← hmem x]; simp [Fl.asked])
          have z1 := HT1.out.size
          have z2 := HA1.out.size
          rw [hal] at z2
          go_wp2_with (first
            | (at_len; refine wpList_len_own _ rfl _ 54 rfl 9 3 Tryd.underlying54 _ (w4.heap.size + 1) _ D2 rfl HM2.out ?_; rw [z2])
            | (at_len; refine wpList_len_own _ rfl _ 54 rfl 9 3 Tryd.underlying54 _ w4.heap.size _ D1 rfl HM1.out ?_; rw [z1]))
          go_ret
          exact ⟨rfl, bthen HB4.out HB.out⟩
  · rw [hh] at cH
    go_enter Tryd.func9, Tryd.ntmps9
    go_wp2_with (first
      | (go_at_call 27; refine cA.out.mono ?_; rintro e w1 ⟨rfl, hb1⟩; have HB1 := Lib.hid hb1; clear hb1)
      | (go_at_call 28; refine (cH.out _ HB1.out).mono ?_; rintro e w2 ⟨rfl, hb2⟩))
    go_ret
    exact ⟨rfl, bthen HB1.out hb2⟩
end Go.Proofs.YtbimjdlkffbncaaDoor
