/-
  The walk of ParseShift.
-/
import Derived.Test.YtjcfmghijfnehaaGreatDoorDb
import Derived.Test.YtjcfmghijfnehaaGreatDoorDp
namespace Go.Proofs.YtjcfmghijfnehaaGreatDoor
open Go.RowKit
theorem OwnT.cell {w : World} {B : Nat} {v : Value} {ps : List (List UInt8)} (h : OwnT w B v ps) (h0 : 0 < ps.length) : ∃ g c, v = .slice (some ⟨g, 0, none⟩) ps.length c ∧ ps.length ≤ c ∧ g < w.heap.size ∧ ∀ j (hj : j < ps.length), w.cell? ⟨g, j, none⟩ = some (.string (str ps[j])) := by
  have h' := h
  rcases h.2 with ⟨_, h1⟩ | ⟨g, c, cur, rfl, hB, hh, hnc, hr⟩
  · omega
  · refine ⟨g, c, rfl, hnc, (Array.getElem?_eq_some_iff.1 hh).1, fun j hj => ?_⟩
    have hc := World.ownsRow.cells h' (g := g) rfl j (.string (str ps[j])) (by unfold strCells; simp [hj])
    rwa [Addr.add_lit, Nat.zero_add] at hc
theorem contains_any (s sub : ByteArray) (w : World) (hs : s.size ≤ 100000) (hE : Env w) : Calls Tryz.prog 19 #[.string s, .string sub] w fun e w' => e = .returned (.bool (Lib.contains s.data.toList sub.data.toList)) ∧ w' = w := by
  obtain ⟨m, hm⟩ := hE.maxl
  exact Tryz.strings_Contains s sub m w (by omega) hm
/-- moved text, bit by bit -/
theorem moved_text (n : Nat) (Q : List (List UInt8)) (p : List UInt8) : str (Lx.moved n Q) ++ (((⟨(Lib.repeatL [32] n).toArray⟩ : ByteArray) ++ str p) ++ (⟨#[10]⟩ : ByteArray)) = str (Lx.moved n (Q ++ [p])) := by
  have e1 : (⟨(Lib.repeatL [32] n).toArray⟩ : ByteArray) = str (Lib.repeatL [32] n) := rfl
  have e2 : (⟨#[10]⟩ : ByteArray) = str [10] := rfl
  rw [e1, e2, str_app, str_app, str_app, Lx.moved_snoc]
  rfl
theorem ten_data (s : ByteArray) : ((⟨#[10]⟩ : ByteArray) ++ s).data.toList = 10 :: s.data.toList := Tag.app_data _ _
theorem ten_size (s : ByteArray) : ((⟨#[10]⟩ : ByteArray) ++ s).size = s.size + 1 := by rw [Lib.size_eq, ten_data, List.length_cons, ba_len]
theorem moved_size (n : Nat) (l : List UInt8) (hn : n < 9) (hl : l.length ≤ 2000) (j : Nat) : (Lx.moved n ((Lx.sp l).take j)).length ≤ 20000 := by
  have h1 := Lx.moved_len n ((Lx.sp l).take j)
  have h2 := Lx.sp_tot l
  have h3 : (((Lx.sp l).take j).map fun q => q.length + 1).sum ≤ ((Lx.sp l).map fun q => q.length + 1).sum := by
    conv => rhs; rw [← List.take_append_drop j (Lx.sp l)]
    rw [List.map_append, List.sum_append]; omega
  have h4 : (n + 1) * (((Lx.sp l).take j).map fun q => q.length + 1).sum ≤ 9 * 2001 := Nat.mul_le_mul (by omega) (by omega)
  omega
theorem sp_item (l : List UInt8) (j : Nat) (h : j < (Lx.sp l).length) : (Lx.sp l)[j].length ≤ l.length := by
  have h1 := Lx.sp_tot l
  have : ∀ (Q : List (List UInt8)) (j : Nat) (h : j < Q.length), Q[j].length + 1 ≤ (Q.map fun q => q.length + 1).sum := by
    intro Q
    induction Q with
    | nil => intro j h; simp at h
    | cons q t ih =>
      intro j h
      rw [List.map_cons, List.sum_cons]
      cases j with
      | zero => simp
      | succ j => have := ih j (by simpa using h); simp only [List.getElem_cons_succ]; omega
  have := this (Lx.sp l) j h
  omega
theorem sp_count (l : List UInt8) : (Lx.sp l).length ≤ l.length + 1 := by
  have h1 := Lx.sp_tot l
  have : ∀ Q : List (List UInt8), Q.length ≤ (Q.map fun q => q.length + 1).sum := by
    intro Q
    induction Q with
    | nil => simp
    | cons q t ih => rw [List.map_cons, List.sum_cons, List.length_cons]; omega
  have := this (Lx.sp l)
  omega

/-- the events of an answer, and its error -/
def evOf : Except Nat (List Ev.E) → List Ev.E
  | .ok es => es
  | .error _ => []
def errOf : Except Nat (List Ev.E) → Int
  | .ok _ => 0
  | .error n => n
theorem textR_any {B : Nat} {r : Except Nat (List Ev.E)} {e : Ending} {w : World} (h : TextR B r e w) :
    ∃ a c, e = .returned (.tuple #[.slice a (evOf r).length c, .int .i64 (errOf r)]) ∧ RdE w w.heap.size (.slice a (evOf r).length c) (evOf r) := by
  cases r with
  | error n => exact ⟨none, 0, h, none, 0, rfl, Nat.zero_le _, fun h => absurd h (by simp [evOf])⟩
  | ok es =>
    obtain ⟨v, rfl, h2⟩ := h
    have h3 := rowE_rd h2
    obtain ⟨a, c, rfl⟩ := own_slice h2
    exact ⟨a, c, rfl, h3⟩
/-- Text, whatever it answers -/
def TextAny (EV : List Ev.E) (EM : Int) (e : Ending) (w' : World) : Prop := ∃ a c, e = .returned (.tuple #[.slice a EV.length c, .int .i64 EM]) ∧ RdE w' w'.heap.size (.slice a EV.length c) EV
theorem textAny (s : ByteArray) (r : Except Nat (List Ev.E)) (hr : Px.text s.data.toList = r) (w : World) (hs : s.size ≤ 50000) (hE : Env w) :
    Calls Tryz.prog 11 #[.string s] w fun e w' => TextAny (evOf r) (errOf r) e w' ∧ Below w.heap.size w w' := by
  subst hr
  exact (textP_any s w hs hE).mono fun e w' ⟨h, hb⟩ => ⟨textR_any h, hb⟩
theorem evOf_len (l : List UInt8) : (evOf (Px.text l)).length ≤ 14 * (l.length + 1) := by
  cases h : Px.text l with
  | error n => simp [evOf]
  | ok es => exact Px.text_len l es h

set_option maxHeartbeats 8000000 in
set_option maxRecDepth 100000 in
theorem shift_walk (s : ByteArray) (k : Nat) (hk : k < 256) (w : World) (hs : s.size ≤ 9223372036854775807) (hE : Env w) :
    Calls Tryz.prog 6 #[.string s, .int .u8 k] w fun e w' => e = .returned (.bool true) ∧ Below w.heap.size w w' := by
  have cA := Lib.hid (palive_any w hE)
  have HE := Lib.hid hE
  clear hE
  by_cases hbig : 2000 < s.size
  · have b1 : decide ((2000 : Int) < (s.size : Int)) = true := decide_eq_true (by omega)
    go_enter Tryz.func6, Tryz.ntmps6
    go_wp2_with (go_at_call 10; refine cA.out.mono ?_; rintro e w1 ⟨rfl, hb1⟩)
    go_ret
    exact ⟨rfl, hb1⟩
  · have b1 : decide ((2000 : Int) < (s.size : Int)) = false := decide_eq_false (by omega)
    have c1 := fun w hE => contains_any ((⟨#[10]⟩ : ByteArray) ++ s) ⟨#[10, 45, 45, 45]⟩ w (by rw [ten_size]; omega) hE
    have c2 := fun w hE => contains_any ((⟨#[10]⟩ : ByteArray) ++ s) ⟨#[10, 46, 46, 46]⟩ w (by rw [ten_size]; omega) hE
    rw [ten_data] at c1 c2
    cases hm1 : Lib.contains (10 :: s.data.toList) (⟨#[10, 45, 45, 45]⟩ : ByteArray).data.toList with
    | true =>
      rw [hm1] at c1
      have C1 := Lib.hid c1
      clear c1 c2 hm1
      go_enter Tryz.func6, Tryz.ntmps6
      go_wp2_with (first
        | (go_at_call 10; refine cA.out.mono ?_; rintro e w1 ⟨rfl, hb1⟩)
        | (go_at_call 19; refine (C1.out _ (HE.out.below hb1)).mono ?_; rintro e w' ⟨rfl, rfl⟩))
      go_ret
      exact ⟨rfl, hb1⟩
    | false =>
      rw [hm1] at c1
      cases hm2 : Lib.contains (10 :: s.data.toList) (⟨#[10, 46, 46, 46]⟩ : ByteArray).data.toList with
      | true =>
        rw [hm2] at c2
        have C1 := Lib.hid c1
        have C2 := Lib.hid c2
        clear c1 c2 hm1 hm2
        go_enter Tryz.func6, Tryz.ntmps6
        go_wp2_with (first
          | (go_at_call 10; refine cA.out.mono ?_; rintro e w1 ⟨rfl, hb1⟩; have C1' := Lib.hid (C1.out w1 (HE.out.below hb1)); have C2' := Lib.hid (C2.out w1 (HE.out.below hb1)))
          | (go_at_call 19; go_fit C1'.out; rintro e w' ⟨rfl, rfl⟩)
          | (go_at_call 19; go_fit C2'.out; rintro e w' ⟨rfl, rfl⟩))
        go_ret
        exact ⟨rfl, hb1⟩
      | false =>
        rw [hm2] at c2
        have C1 := Lib.hid c1
        have C2 := Lib.hid c2
        clear c1 c2
        obtain ⟨n, hn⟩ : ∃ n, n = k % 9 := ⟨_, rfl⟩
        have hn9 : n < 9 := by omega
        have hrem : (k : Int).tmod 9 = (n : Int) := by rw [Int.tmod_eq_emod_of_nonneg (by omega)]; omega
        have cP := Lib.hid (fun w => pieces_doc s w (by omega))
        have cX := Lib.hid (fun w => Tryz.strings_Repeat ⟨#[32]⟩ n w (by omega) (by show 1 * n ≤ _; omega))
        have hl : s.data.toList.length ≤ 2000 := by rw [ba_len]; omega
        have SZ := Lib.hid (moved_size n s.data.toList hn9 hl)
        have SI := Lib.hid (sp_item s.data.toList)
        have hcnt := sp_count s.data.toList
        rw [ba_len] at hcnt
        have ST := Lib.hid (Px.text_shift n s.data.toList hm1 hm2)
        have R1 := Lib.hid (fun w hE => textAny s _ rfl w (by omega) hE)
        have hev := evOf_len s.data.toList
        have hlen : s.data.toList.length = s.size := ba_len s
        have TX := Lib.hid (fun (h : Lib.contains (10 :: Lx.moved n (Lx.sp s.data.toList)) (⟨#[10, 45, 45, 45]⟩ : ByteArray).data.toList = false) (h' : Lib.contains (10 :: Lx.moved n (Lx.sp s.data.toList)) (⟨#[10, 46, 46, 46]⟩ : ByteArray).data.toList = false) w (hE : Env w) => by
          exact textAny (str (Lx.moved n (Lx.sp s.data.toList))) (Px.text s.data.toList) (ST.out h h') w (by have h2 := SZ.out (Lx.sp s.data.toList).length; rw [List.take_of_length_le (Nat.le_refl _)] at h2; rw [str_len]; omega) hE)
        clear hn hm1 hm2 ST
        generalize errOf (Px.text s.data.toList) = EM at *
        generalize evOf (Px.text s.data.toList) = EV at *
        generalize Lx.sp s.data.toList = Q at *
        have bm : (EM == EM) = true := beq_self_eq_true _
        go_enter Tryz.func6, Tryz.ntmps6
        go_wp2_with (first
          | (go_at_call 10; refine cA.out.mono ?_; rintro e w1 ⟨rfl, hb1⟩; have C1' := Lib.hid (C1.out w1 (HE.out.below hb1)); have C2' := Lib.hid (C2.out w1 (HE.out.below hb1)))
          | (go_at_call 19; go_fit C1'.out; rintro e w' ⟨rfl, rfl⟩)
          | (go_at_call 19; go_fit C2'.out; rintro e w' ⟨rfl, rfl⟩)
          | (go_at_call 20; refine (cX.out _).mono ?_; rintro e w2 ⟨rfl, hb2⟩; have hb12 := bthen hb1 hb2)
          | (go_at_call 21; refine (cP.out _).mono ?_; rintro e w3 ⟨⟨v, rfl, hv⟩, hb3⟩; obtain ⟨va, vc, rfl⟩ := own_slice hv; have HV := Lib.hid hv; clear hv; have hb13 := bthen hb12 hb3))
        go_loopw [6, 35] (fun mv iv wr => ∃ j : Nat, j ≤ Q.length ∧ mv = .string (str (Lx.moved n (Q.take j))) ∧ iv = .int .i64 j ∧ Below w3.heap.size w3 wr) (fun _ i _ => Q.length - (intOf i).toNat)
        case atStart => exact ⟨0, by omega, rfl, rfl, Below.refl _ _⟩
        case round =>
          obtain ⟨j, hj, rfl, rfl, hbw⟩ := hrel
          have hBr := hbw.size
          by_cases hlt : j < Q.length
          · obtain ⟨g, c, e, hc, hg, hcl⟩ := HV.out.cell (by omega)
            cases e
            have c0 := (hbw.cell (p := ⟨g, j, none⟩) hg).trans (hcl j hlt)
            have HT := Lib.hid (List.take_succ_eq_append_getElem hlt)
            have hp := SI.out j hlt
            have hz := SZ.out j
            clear hcl
            generalize Q[j] = p at *
            have z1 : (str (Lx.moved n (Q.take j))).size ≤ 20000 := by rw [str_len]; omega
            have z2 : (str p).size ≤ 2000 := by rw [str_len]; omega
            have z3 : (Lib.repeatL [32] n).length ≤ 9 := by rw [Lib.repeatL_length]; simp; omega
            go_wp2
            go_roundw
            case rel => exact ⟨j + 1, by omega, by rw [HT.out]; exact congrArg Value.string (moved_text n _ p), by go_num, hbw⟩
            case measure => simp [intOf]; omega
          · have hje : j = Q.length := by omega
            subst hje
            have hz := SZ.out Q.length
            rw [List.take_of_length_le (Nat.le_refl _)] at hz ⊢
            have hbr : Below w.heap.size w wr := hb13.trans (hbw.mono hb13.size)
            have z1 : (str (Lx.moved n Q)).size ≤ 20000 := by rw [str_len]; omega
            have k1 := contains_any ((⟨#[10]⟩ : ByteArray) ++ str (Lx.moved n Q)) ⟨#[10, 45, 45, 45]⟩ wr (by rw [ten_size]; omega) (HE.out.below hbr)
            have k2 := contains_any ((⟨#[10]⟩ : ByteArray) ++ str (Lx.moved n Q)) ⟨#[10, 46, 46, 46]⟩ wr (by rw [ten_size]; omega) (HE.out.below hbr)
            rw [ten_data, str_dat] at k1 k2
            cases hm3 : Lib.contains (10 :: Lx.moved n Q) (⟨#[10, 45, 45, 45]⟩ : ByteArray).data.toList with
            | true =>
              rw [hm3] at k1
              have K1 := Lib.hid k1
              clear k1 k2 hm3 TX
              go_wp2_with (go_at_call 19; go_fit K1.out; rintro e w' ⟨rfl, rfl⟩)
              go_ret
              exact ⟨rfl, hbr⟩
            | false =>
              rw [hm3] at k1
              cases hm4 : Lib.contains (10 :: Lx.moved n Q) (⟨#[10, 46, 46, 46]⟩ : ByteArray).data.toList with
              | true =>
                rw [hm4] at k2
                have K1 := Lib.hid k1
                have K2 := Lib.hid k2
                clear k1 k2 hm3 hm4 TX
                go_wp2_with (first
                  | (go_at_call 19; go_fit K1.out; rintro e w' ⟨rfl, rfl⟩)
                  | (go_at_call 19; go_fit K2.out; rintro e w' ⟨rfl, rfl⟩))
                go_ret
                exact ⟨rfl, hbr⟩
              | false =>
                rw [hm4] at k2
                have K1 := Lib.hid k1
                have K2 := Lib.hid k2
                have R2 := Lib.hid (TX.out hm3 hm4)
                clear k1 k2 hm3 hm4 TX
                have R1' := Lib.hid (R1.out wr (HE.out.below hbr))
                go_wp2_with (first
                  | (go_at_call 19; go_fit K1.out; rintro e w' ⟨rfl, rfl⟩)
                  | (go_at_call 19; go_fit K2.out; rintro e w' ⟨rfl, rfl⟩)
                  | (go_at_call 11; go_fit R1'.out; rintro e w4 ⟨⟨xa, xc, rfl, hx⟩, hb4⟩; have HX := Lib.hid hx; clear hx; have hbr4 := hbr.trans (hb4.mono hbr.size); have R2' := Lib.hid (R2.out w4 (HE.out.below hbr4)))
                  | (go_at_call 11; go_fit R2'.out; rintro e w5 ⟨⟨ya, yc, rfl, hy⟩, hb5⟩; have HY := Lib.hid hy; clear hy; have hbr5 := hbr4.trans (hb5.mono hbr4.size); have OX := Lib.hid (ours_any _ EV w5 ((HX.out.below hb5).mono hb5.size) (by omega)))
                  | (go_at_call 15; go_fit OX.out; rintro e w6 ⟨⟨p, rfl, hp⟩, hb6⟩; obtain ⟨pa, pc, rfl⟩ := own_slice hp; have HP := Lib.hid hp; clear hp; have OY := Lib.hid (ours_any _ EV w6 ((HY.out.below hb6).mono hb6.size) (by omega)))
                  | (go_at_call 15; go_fit OY.out; rintro e w7 ⟨⟨q, rfl, hq⟩, hb7⟩; obtain ⟨qa, qc, rfl⟩ := own_slice hq; have CS := Lib.hid (sameE_any _ _ EV w7 (rowE_rd (HP.out.below hb7)) (rowE_rd hq) (by omega)); clear hq)
                  | (go_at_call 14; go_fit CS.out; rintro e w8 ⟨rfl, n8, rfl⟩))
                go_ret
                exact ⟨rfl, bel_drewN' (hbr5.trans ((bthen hb6 hb7).mono hbr5.size)) _⟩
end Go.Proofs.YtjcfmghijfnehaaGreatDoor
