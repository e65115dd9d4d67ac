/-
  The walk of ParseRows.
-/
import Derived.Test.YtjcfmghijfnehaaGreatDoorDb
import Derived.Test.YtjcfmghijfnehaaGreatDoorKk
import Derived.Test.YtjcfmghijfnehaaGreatDoorEa
namespace Go.Proofs.YtjcfmghijfnehaaGreatDoor
open Go.RowKit
namespace Px
theorem rows_snoc (ks : List Nat) (k : Nat) : rowsL (ks ++ [k]) = rowsL ks ++ (rowP k ++ [10]) := by
  unfold rowsL; rw [List.flatMap_append]; simp
theorem pairs_snoc (ks : List Nat) (k : Nat) : ∀ i, pairsL i (ks ++ [k]) = pairsL i ks ++ (pairP (i + ks.length) k ++ [10]) := by
  induction ks with
  | nil => intro i; simp [pairsL]
  | cons x t ih =>
    intro i
    rw [List.cons_append]
    unfold pairsL
    rw [ih]
    simp [Nat.add_assoc, Nat.add_comm 1]
theorem xs_len (i : Nat) : (xs i).length = i := by unfold xs; rw [Lib.repeatL_length]; simp
theorem rows_size (ks : List Nat) : (rowsL ks).length ≤ 9 * ks.length := by
  induction ks with
  | nil => simp [rowsL]
  | cons k t ih =>
    have := val_len k
    unfold rowsL at ih ⊢
    rw [List.flatMap_cons]
    unfold rowP at ih ⊢
    simp only [List.length_append, List.length_cons, List.length_nil] at *
    omega
theorem pairs_size (ks : List Nat) : ∀ i, i + ks.length ≤ 40 → (pairsL i ks).length ≤ 60 * ks.length := by
  induction ks with
  | nil => intro i _; simp [pairsL]
  | cons k t ih =>
    intro i hi
    simp only [List.length_cons] at hi ⊢
    have h1 := ih (i + 1) (by omega)
    have h2 := val_len k
    have h3 := xs_len i
    unfold pairsL pairP keyT
    simp only [List.length_append, List.length_cons]
    omega
end Px
/-- a slice that reads as a row of bytes, by their numbers -/
def RdN (w : World) (v : Value) (ks : List Nat) : Prop :=
  ∃ a c, v = .slice a ks.length c ∧ ks.length ≤ c ∧ (0 < ks.length → ∃ g o, a = some ⟨g, o, none⟩ ∧ g < w.heap.size ∧ ∀ j (hj : j < ks.length), w.cell? ⟨g, o + j, none⟩ = some (.int .u8 (ks[j] : Nat)) ∧ ks[j] < 256)
theorem row_text (R : List UInt8) (k r : Nat) (h : k % 5 = r) : str R ++ (((⟨#[45]⟩ : ByteArray) ++ str (Px.valR r)) ++ (⟨#[10]⟩ : ByteArray)) = str (R ++ (Px.rowP k ++ [10])) := by
  subst h
  have e1 : (⟨#[45]⟩ : ByteArray) = str [45] := rfl
  have e2 : (⟨#[10]⟩ : ByteArray) = str [10] := rfl
  rw [e1, e2, str_app, str_app, str_app]
  unfold Px.rowP
  simp
theorem pair_text (R : List UInt8) (i k r : Nat) (h : k % 5 = r) : str R ++ (((((⟨#[107]⟩ : ByteArray) ++ ⟨(Lib.repeatL [120] i).toArray⟩) ++ (⟨#[58]⟩ : ByteArray)) ++ str (Px.valR r)) ++ (⟨#[10]⟩ : ByteArray)) = str (R ++ (Px.pairP i k ++ [10])) := by
  subst h
  have e1 : (⟨#[107]⟩ : ByteArray) = str [107] := rfl
  have e2 : (⟨#[10]⟩ : ByteArray) = str [10] := rfl
  have e3 : (⟨#[58]⟩ : ByteArray) = str [58] := rfl
  have e4 : (⟨(Lib.repeatL [120] i).toArray⟩ : ByteArray) = str (Lib.repeatL [120] i) := rfl
  rw [e1, e2, e3, e4, str_app, str_app, str_app, str_app, str_app]
  unfold Px.pairP Px.keyT Px.xs
  simp
/-- what Text answers that has two events at least -/
theorem textR_form {B : Nat} {es : List Ev.E} {e : Ending} {w : World} (h : TextR B (.ok es) e w) (h1 : 1 < es.length) :
    ∃ g c, e = .returned (.tuple #[.slice (some ⟨g, 0, none⟩) es.length c, .int .i64 0]) ∧ es.length ≤ c ∧ g < w.heap.size ∧ w.cell? ⟨g, 5, none⟩ = some (.int .i64 es[1].kind) ∧ RdE w w.heap.size (.slice (some ⟨g, 0, none⟩) es.length c) es := by
  obtain ⟨v, rfl, h2⟩ := h
  have hr := rowE_rd h2
  obtain ⟨g, c, rfl, hc, hg, _, hn⟩ := ownE_form h2 (by omega)
  have := newsE_kind hn 1 h1
  exact ⟨g, c, rfl, hc, hg, by simpa using this, hr⟩
set_option maxHeartbeats 8000000 in
set_option maxRecDepth 100000 in
theorem rows_walk (v : Value) (ks : List Nat) (w : World) (h : RdN w v ks) (hl : ks.length ≤ 9223372036854775807) (hE : Env w) :
    Calls Tryz.prog 9 #[v] w fun e w' => e = .returned (.bool true) ∧ Below w.heap.size w w' := by
  have cA := Lib.hid (palive_any w hE)
  obtain ⟨a, c, rfl, hc, hcl⟩ := h
  have HC := Lib.hid hcl
  have HE := Lib.hid hE
  clear hcl hE
  by_cases hbig : 40 < ks.length
  · have b1 : decide ((40 : Int) < (ks.length : Int)) = true := decide_eq_true (by omega)
    go_enter Tryz.func9, Tryz.ntmps9
    go_wp2_with (go_at_call 10; refine cA.out.mono ?_; rintro e w1 ⟨rfl, hb1⟩)
    go_ret
    exact ⟨rfl, hb1⟩
  · have b1 : decide ((40 : Int) < (ks.length : Int)) = false := decide_eq_false (by omega)
    have RR := Lib.hid (fun w hE => textP_any (str (Px.rowsL ks)) w (by rw [str_len]; have := Px.rows_size ks; omega) hE)
    have RP := Lib.hid (fun w hE => textP_any (str (Px.pairsL 0 ks)) w (by rw [str_len]; have := Px.pairs_size ks 0 (by omega); omega) hE)
    go_enter Tryz.func9, Tryz.ntmps9
    go_wp2_with (go_at_call 10; refine cA.out.mono ?_; rintro e w1 ⟨rfl, hb1⟩)
    go_loopw [3, 4, 19] (fun rv pv iv wr => ∃ j : Nat, j ≤ ks.length ∧ rv = .string (str (Px.rowsL (ks.take j))) ∧ pv = .string (str (Px.pairsL 0 (ks.take j))) ∧ iv = .int .i64 j ∧ Hid (Below w.heap.size w wr)) (fun _ _ i _ => ks.length - (intOf i).toNat)
    case atStart => exact ⟨0, by omega, rfl, rfl, rfl, Lib.hid hb1⟩
    case round =>
      obtain ⟨j, hj, rfl, rfl, rfl, HB⟩ := hrel
      have hBr := HB.out.size
      by_cases hlt : j < ks.length
      · obtain ⟨g, o, rfl, hg, hcl⟩ := HC.out (by omega)
        obtain ⟨c0, hk⟩ := hcl j hlt
        have c0 := (HB.out.cell (p := ⟨g, o + j, none⟩) hg).trans c0
        have HT := Lib.hid (List.take_succ_eq_append_getElem hlt)
        have htl : (ks.take j).length = j := by rw [List.length_take]; omega
        have hs1 := Px.rows_size (ks.take j)
        have hs2 := Px.pairs_size (ks.take j) 0 (by omega)
        rw [htl] at hs1 hs2
        have HR := Lib.hid (Px.rows_snoc (ks.take j) ks[j])
        have HP := Lib.hid (Px.pairs_snoc (ks.take j) ks[j] 0)
        have cX := Lib.hid (fun w => Tryz.strings_Repeat ⟨#[120]⟩ j w (by omega) (by show 1 * j ≤ _; omega))
        clear hcl
        generalize ks[j] = k at *
        have hz1 : (str (Px.rowsL (ks.take j))).size ≤ 400 := by rw [str_len]; omega
        have hz2 : (str (Px.pairsL 0 (ks.take j))).size ≤ 2400 := by rw [str_len]; omega
        have hz3 : (Lib.repeatL [120] j).length ≤ 40 := by rw [Lib.repeatL_length]; simp; omega
        rcases Px.five_cases k with hr | hr | hr | hr | hr
        all_goals have hrem : (k : Int).tmod 5 = ((k % 5 : Nat) : Int) := by rw [Int.tmod_eq_emod_of_nonneg (by omega)]; omega
        all_goals rw [hr] at hrem
        all_goals go_wp2_with (go_at_call 20; refine (cX.out _).mono ?_; rintro e w2 ⟨rfl, hb2⟩)
        all_goals go_roundw
        case rel => exact ⟨j + 1, by omega, by rw [HT.out, HR.out]; exact congrArg Value.string (row_text _ k 0 hr), by rw [HT.out, HP.out, htl, Nat.zero_add]; exact congrArg Value.string (pair_text _ j k 0 hr), by go_num, Lib.hid ((HB.out.trans (Below.mono (bnew wr _) hBr)).trans (hb2.mono (by rw [World.size_alloc]; omega)))⟩
        case measure => simp [intOf]; omega
        case rel => exact ⟨j + 1, by omega, by rw [HT.out, HR.out]; exact congrArg Value.string (row_text _ k 1 hr), by rw [HT.out, HP.out, htl, Nat.zero_add]; exact congrArg Value.string (pair_text _ j k 1 hr), by go_num, Lib.hid ((HB.out.trans (Below.mono (bnew wr _) hBr)).trans (hb2.mono (by rw [World.size_alloc]; omega)))⟩
        case measure => simp [intOf]; omega
        case rel => exact ⟨j + 1, by omega, by rw [HT.out, HR.out]; exact congrArg Value.string (row_text _ k 2 hr), by rw [HT.out, HP.out, htl, Nat.zero_add]; exact congrArg Value.string (pair_text _ j k 2 hr), by go_num, Lib.hid ((HB.out.trans (Below.mono (bnew wr _) hBr)).trans (hb2.mono (by rw [World.size_alloc]; omega)))⟩
        case measure => simp [intOf]; omega
        case rel => exact ⟨j + 1, by omega, by rw [HT.out, HR.out]; exact congrArg Value.string (row_text _ k 3 hr), by rw [HT.out, HP.out, htl, Nat.zero_add]; exact congrArg Value.string (pair_text _ j k 3 hr), by go_num, Lib.hid ((HB.out.trans (Below.mono (bnew wr _) hBr)).trans (hb2.mono (by rw [World.size_alloc]; omega)))⟩
        case measure => simp [intOf]; omega
        case rel => exact ⟨j + 1, by omega, by rw [HT.out, HR.out]; exact congrArg Value.string (row_text _ k 4 hr), by rw [HT.out, HP.out, htl, Nat.zero_add]; exact congrArg Value.string (pair_text _ j k 4 hr), by go_num, Lib.hid ((HB.out.trans (Below.mono (bnew wr _) hBr)).trans (hb2.mono (by rw [World.size_alloc]; omega)))⟩
        case measure => simp [intOf]; omega
      · have hje : j = ks.length := by omega
        subst hje
        rw [List.take_of_length_le (Nat.le_refl _)]
        rcases Nat.eq_zero_or_pos ks.length with h0 | h0
        · obtain rfl : ks = [] := List.eq_nil_of_length_eq_zero h0
          have R1 : Hid (∀ w, Env w → Calls Tryz.prog 11 #[.string (str (Px.rowsL []))] w fun e w' => TextR w.heap.size (.ok []) e w' ∧ Below w.heap.size w w') := RR.out
          have R2 : Hid (∀ w, Env w → Calls Tryz.prog 11 #[.string (str (Px.pairsL 0 []))] w fun e w' => TextR w.heap.size (.ok []) e w' ∧ Below w.heap.size w w') := RP.out
          clear RR RP
          have R1' := Lib.hid (R1.out wr (HE.out.below HB.out))
          go_wp2_with (first
            | (go_at_call 11; go_fit R1'.out; rintro e w2 ⟨hq, hb2⟩; obtain ⟨va, vc, rfl, _⟩ := textR_ok hq; clear hq; have hb12 := HB.out.trans (hb2.mono hBr); have R2' := Lib.hid (R2.out w2 (HE.out.below hb12)))
            | (go_at_call 11; go_fit R2'.out; rintro e w3 ⟨hq, hb3⟩; obtain ⟨ua, uc, rfl, _⟩ := textR_ok hq; clear hq))
          go_ret
          exact ⟨rfl, hb12.trans (hb3.mono hb12.size)⟩
        · obtain ⟨A, B, hA, hB, hAB, hN, a1, b1', lA, lB⟩ : ∃ A B, Px.text (Px.rowsL ks) = .ok A ∧ Px.text (Px.pairsL 0 ks) = .ok B ∧ B.length = A.length + ks.length ∧ Ev.nodesOf (Ev.kinds B) = Ev.nodesOf (Ev.kinds A) + ks.length ∧ (∃ h : 1 < A.length, A[1].kind = 2) ∧ (∃ h : 1 < B.length, B[1].kind = 4) ∧ A.length ≤ 1000 ∧ B.length ≤ 1000 := by
            cases ks with
            | nil => simp at h0
            | cons k t =>
              obtain ⟨p1, p2⟩ := Px.pair_count (k :: t) 0
              have p3 := Px.rows_len (k :: t)
              refine ⟨_, _, Px.text_rows k t, Px.text_pairs k t (by simp at hbig; omega), ?_, ?_, ⟨by simp, rfl⟩, ⟨by simp, rfl⟩, ?_, ?_⟩
              · simp only [List.length_append, List.length_cons, List.length_nil] at *; omega
              · unfold Ev.kinds
                rw [List.map_append, List.map_append, List.map_append, List.map_append, Ev.nodes_app, Ev.nodes_app, Ev.nodes_app, Ev.nodes_app, p2]
                have e1 : Ev.nodesOf (List.map (fun x => x.kind) [Px.ev 0, Px.ev 4]) = 1 := rfl
                have e2 : Ev.nodesOf (List.map (fun x => x.kind) [Px.ev 0, Px.ev 2]) = 1 := rfl
                have e3 : Ev.nodesOf (List.map (fun x => x.kind) [Px.ev 5, Px.ev 1]) = 0 := rfl
                have e4 : Ev.nodesOf (List.map (fun x => x.kind) [Px.ev 3, Px.ev 1]) = 0 := rfl
                rw [e1, e2, e3, e4]; omega
              · simp only [List.length_append, List.length_cons, List.length_nil] at *; omega
              · simp only [List.length_append, List.length_cons, List.length_nil] at *; omega
          obtain ⟨ha1, a1⟩ := a1
          obtain ⟨hb1', b1'⟩ := b1'
          have R1 : Hid (∀ w, Env w → Calls Tryz.prog 11 #[.string (str (Px.rowsL ks))] w fun e w' => TextR w.heap.size (.ok A) e w' ∧ Below w.heap.size w w') := by rw [← hA]; exact RR.out
          have R2 : Hid (∀ w, Env w → Calls Tryz.prog 11 #[.string (str (Px.pairsL 0 ks))] w fun e w' => TextR w.heap.size (.ok B) e w' ∧ Below w.heap.size w w') := by rw [← hB]; exact RP.out
          clear RR RP hA hB
          have R1' := Lib.hid (R1.out wr (HE.out.below HB.out))
          have z0 : ((ks.length : Int) == 0) = false := beq_eq_false_iff_ne.2 (by omega)
          have z1 : ((B.length : Int) == (A.length : Int) + (ks.length : Int)) = true := beq_iff_eq.2 (by omega)
          have z2 : (((Ev.nodesOf (Ev.kinds B) : Nat) : Int) == ((Ev.nodesOf (Ev.kinds A) : Nat) : Int) + (ks.length : Int)) = true := beq_iff_eq.2 (by omega)
          have nA := Ev.nodes_le (Ev.kinds A)
          have nB := Ev.nodes_le (Ev.kinds B)
          rw [Ev.kinds_len] at nA nB
          have CA := Lib.hid (fun v W (h : RdE W W.heap.size v A) => nodes_any v A W h (by omega))
          have CB := Lib.hid (fun v W (h : RdE W W.heap.size v B) => nodes_any v B W h (by omega))
          generalize Ev.nodesOf (Ev.kinds A) = NA at *
          generalize Ev.nodesOf (Ev.kinds B) = NB at *
          have i1 : (1 : Int) < (A.length : Int) := by omega
          have i2 : (1 : Int) < (B.length : Int) := by omega
          clear hAB hN
          go_wp2_with (first
            | (go_at_call 11; go_fit R1'.out; rintro e w2 ⟨hq, hb2⟩; obtain ⟨ga, va, rfl, hva, hga, d1, hv⟩ := textR_form hq ha1; rw [a1] at d1; have HV := Lib.hid hv; clear hq hv; have hb12 := HB.out.trans (hb2.mono hBr); have R2' := Lib.hid (R2.out w2 (HE.out.below hb12)))
            | (go_at_call 11; go_fit R2'.out; rintro e w3 ⟨hq, hb3⟩; obtain ⟨gb, ub, rfl, hub, hgb, d2, hu⟩ := textR_form hq hb1'; rw [b1'] at d2; have d1' := (hb3.cell (p := ⟨ga, 5, none⟩) hga).trans d1; clear d1 hq; have CB' := Lib.hid (CB.out _ w3 hu); have HV3 := Lib.hid ((HV.out.below hb3).mono hb3.size); clear hu)
            | (go_at_call 25; go_fit CB'.out; rintro e w4 ⟨rfl, hb4⟩; have CA' := Lib.hid (CA.out _ w4 ((HV3.out.below hb4).mono hb4.size)))
            | (go_at_call 25; go_fit CA'.out; rintro e w5 ⟨rfl, hb5⟩))
          go_ret
          exact ⟨rfl, (hb12.trans (hb3.mono hb12.size)).trans ((bthen hb4 hb5).mono (hb12.trans (hb3.mono hb12.size)).size)⟩
end Go.Proofs.YtjcfmghijfnehaaGreatDoor
