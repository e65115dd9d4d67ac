/-
  The law LinesBlanks, walked.
-/
import Derived.Test.YtmhakkahclbbjaaGreatDoorOb
import Derived.Test.YtmhakkahclbbjaaGreatDoorPa
import Derived.Test.YtmhakkahclbbjaaGreatDoorMq
import Derived.Test.YtmhakkahclbbjaaGreatDoorWn
import Derived.Deep.DeepFit
import Derived.Deep.DeepCutAuto
import Derived.Lib.Join
namespace Go.Proofs.YtmhakkahclbbjaaGreatDoor
namespace Lx
theorem tail_flat (r : List (List UInt8)) : Lib.joinTail [10] r ++ [10] = 10 :: flat r := by
  induction r with
  | nil => rfl
  | cons y t ih =>
    have e : Lib.joinTail [10] (y :: t) = [10] ++ y ++ Lib.joinTail [10] t := by simp [Lib.joinTail]
    rw [e, flat_cons, List.append_assoc, ih]; simp
theorem join_flat (xs : List (List UInt8)) (h : 0 < xs.length) : Lib.join xs [10] ++ [10] = flat xs := by
  cases xs with
  | nil => simp at h
  | cons x r => rw [Lib.join_cons, List.append_assoc, tail_flat, flat_cons]
def linesOf : Except Nat (List Ln) → List Ln
  | .ok ls => ls
  | .error _ => []
def errOf : Except Nat (List Ln) → Nat
  | .ok _ => 0
  | .error n => n
theorem few_linesOf (l : List UInt8) : Few (l.length + 1) (linesOf (read l)) := by
  cases h : read l with
  | error n => exact ⟨by simp [linesOf], fun x hx => by cases hx⟩
  | ok ls => exact read_few l ls h
theorem flat_len (l : List (List UInt8)) : (flat l).length = (l.map fun p => p.length + 1).sum := by
  induction l with
  | nil => rfl
  | cons p t ih => rw [flat_cons]; simp [ih]; omega
end Lx
open Go.RowKit

/-- what Read answers, both ways at once -/
theorem readR_both {B : Nat} {r : Except Nat (List Lx.Ln)} {e : Ending} {w : World} (h : ReadR B r e w) : ∃ a c, e = .returned (.tuple #[.slice a (Lx.linesOf r).length c, .int .i64 (Lx.errOf r)]) ∧ OwnL w B (.slice a (Lx.linesOf r).length c) (Lx.linesOf r) := by
  cases r with
  | error n => exact ⟨none, 0, h, ownL_nil w B⟩
  | ok ls =>
    obtain ⟨v, rfl, hv⟩ := h
    obtain ⟨a, c, rfl⟩ := hv.form
    exact ⟨a, c, rfl, hv⟩
theorem app3 (a b : ByteArray) : (a ++ b).data.toList = a.data.toList ++ b.data.toList := Tag.app_data _ _
/-- no break, no bar -/
def Fine (l : List ByteArray) : Prop := ∀ s ∈ l, hasAnyB s.data.toList = false
theorem Fine.no10 {l : List ByteArray} (h : Fine l) : Lx.No10 (byts l) := by
  intro p hp b hb e
  obtain ⟨s, hs, rfl⟩ := List.mem_map.1 hp
  have := h s hs
  unfold hasAnyB at this
  rw [List.any_eq_false] at this
  exact this b hb (by rw [e]; decide)
theorem Fine.no124 {l : List ByteArray} (h : Fine l) : ∀ p ∈ byts l, (124 : UInt8) ∉ p := by
  intro p hp hb
  obtain ⟨s, hs, rfl⟩ := List.mem_map.1 hp
  have := h s hs
  unfold hasAnyB at this
  rw [List.any_eq_false] at this
  exact this 124 hb (by decide)
theorem byts_snoc (l : List ByteArray) (j : Nat) (h : j < l.length) : byts (l.take (j + 1)) = byts (l.take j) ++ [l[j].data.toList] := by
  rw [List.take_succ_eq_append_getElem h]; unfold byts; rw [List.map_append]; rfl
def nothingS : ByteArray := ⟨#[10, 32, 35, 32, 110, 111, 116, 104, 105, 110, 103, 10]⟩

set_option maxHeartbeats 4000000 in
set_option maxRecDepth 100000 in
theorem blanks_some (b o c m n : Nat) (ls : List ByteArray) (w : World) (hE : Env w) (hb : b < w.heap.size) (hne : 0 < ls.length) (hc : ls.length ≤ c) (hcm : c ≤ 9223372036854775807) (hm : m < 256) (hn : n < 256)
    (hcells : ∀ (j : Nat) x, ls[j]? = some x → w.cell? ⟨b, o + j, none⟩ = some (.string x)) (hsz : ∀ s ∈ ls, s.size ≤ 1100000) (hl : ls.length ≤ 1100000) :
    Calls Tryz.prog 4 #[.slice (some ⟨b, o, none⟩) ls.length c, .int .u8 m, .int .u8 n] w fun e w' => e = .returned (.bool true) ∧ Below w.heap.size w w' := by
  have cA := Lib.hid (alive_any w hE)
  have HC := Lib.hid hcells
  have HS := Lib.hid hsz
  have HE := Lib.hid hE
  have hrem : (m : Int).tmod ((ls.length : Int) + 1) = ((m % (ls.length + 1) : Nat) : Int) := by rw [Int.tmod_eq_emod_of_nonneg (by omega), Int.natCast_emod]; rfl
  have hrem2 : (n : Int).tmod 9 = ((n % 9 : Nat) : Int) := by rw [Int.tmod_eq_emod_of_nonneg (by omega)]; omega
  have hk : m % (ls.length + 1) ≤ ls.length := by have := Nat.mod_lt m (show 0 < ls.length + 1 by omega); omega
  have hn9 : n % 9 < 9 := Nat.mod_lt n (by omega)
  have hz : ((ls.length : Int) + 1 == 0) = false := beq_eq_false_iff_ne.2 (by omega)
  generalize m % (ls.length + 1) = k at *
  generalize n % 9 = z at *
  have cRp := Lib.hid (fun w => Tryz.strings_Repeat ⟨#[32]⟩ z w (by omega) (by show 1 * z ≤ _; omega))
  obtain ⟨R, hR⟩ : ∃ R : ByteArray, R = ⟨(Lib.repeatL (⟨#[32]⟩ : ByteArray).data.toList z).toArray⟩ := ⟨_, rfl⟩
  rw [← hR] at cRp
  have HRd : Hid (R.data.toList = Lib.repeatL [32] z) := by show R.data.toList = _; rw [hR]
  have hRs : R.size ≤ 9 := by rw [Lib.size_eq, HRd.out, Lx.rep_len]; omega
  clear hcells hsz hE hR
  go_enter Tryz.func4, Tryz.ntmps4
  go_wp2_with (go_at_call 8; refine cA.out.mono ?_; rintro e w1 ⟨rfl, hb1⟩)
  go_loopw [7, 22] (fun t i wr => ∃ (j : Nat) (S : ByteArray), j ≤ ls.length ∧ i = .int .i64 j ∧ t = .string S ∧ S.size ≤ j * 1100001 ∧ Below w.heap.size w wr ∧ Hid (S.data.toList = Lx.flat (byts (ls.take j))) ∧ Hid (Fine (ls.take j))) (fun _ i _ => ls.length - (intOf i).toNat)
  case atStart => exact ⟨0, ⟨#[]⟩, by omega, rfl, rfl, by decide, hb1, rfl, fun s hs => by cases hs⟩
  case round =>
    obtain ⟨j, S, hj, rfl, rfl, hSz, hbw, HT, HF⟩ := hrel
    by_cases hlt : j < ls.length
    · have c0 := (hbw.cell (p := ⟨b, o + j, none⟩) hb).trans (HC.out j ls[j] (List.getElem?_eq_getElem hlt))
      have cC := containsAny_anyB ls[j] wr (HS.out _ (List.getElem_mem hlt))
      have hs := HS.out _ (List.getElem_mem hlt)
      have HB := Lib.hid (byts_snoc ls j hlt)
      have HB2 := Lib.hid (List.take_succ_eq_append_getElem hlt)
      have hi0 : (0 : Int) ≤ (j : Int) := Int.natCast_nonneg _
      have hi1 : (j : Int) < (ls.length : Int) := by omega
      generalize ls[j] = s at *
      cases hany : hasAnyB s.data.toList with
      | true =>
        rw [hany] at cC
        have CC := Lib.hid cC
        clear cC hany
        go_wp2_with (go_at_call 13; refine CC.out.mono ?_; rintro e w2 ⟨rfl, hb2⟩)
        go_ret
        exact ⟨rfl, hbw.trans (hb2.mono hbw.size)⟩
      | false =>
        rw [hany] at cC
        have CC := Lib.hid cC
        have HA := Lib.hid hany
        clear cC hany
        go_wp2_with (go_at_call 13; refine CC.out.mono ?_; rintro e w2 ⟨rfl, hb2⟩)
        go_roundw
        case rel => exact ⟨j + 1, S ++ (s ++ ⟨#[10]⟩), by omega, by go_num, rfl, by rw [Lib.size_eq, app3, app3, List.length_append, List.length_append, ba_len, ba_len]; show S.size + (s.size + 1) ≤ _; omega, hbw.trans (hb2.mono hbw.size), by show _ = _; rw [HB.out, Lx.flat_snoc, app3, app3, HT.out], by show Fine _; rw [HB2.out]; intro q hq; rcases List.mem_append.1 hq with hq | hq; exact HF.out q hq; simp only [List.mem_cons, List.not_mem_nil, or_false] at hq; subst hq; exact HA.out⟩
        case measure => simp [intOf]; omega
    · obtain rfl : j = ls.length := by omega
      rw [List.take_of_length_le (Nat.le_refl _)] at HT HF
      by_cases hbig : 2000 < S.size
      · have b1 : decide ((2000 : Int) < (S.size : Int)) = true := decide_eq_true (by omega)
        go_wp2
        go_ret
        exact ⟨rfl, hbw⟩
      · have b1 : decide ((2000 : Int) < (S.size : Int)) = false := decide_eq_false (by omega)
        have hS2 : S.size ≤ 2000 := by omega
        clear hbig hSz
        rcases Nat.eq_zero_or_pos k with hk0 | hk0
        · obtain ⟨J, hJ⟩ : ∃ J : ByteArray, J = ⟨#[]⟩ := ⟨_, rfl⟩
          have CJ : Hid (∀ W, Below w.heap.size w W → Calls Tryz.prog 14 #[.slice (some ⟨b, o, none⟩) k c, .string ⟨#[10]⟩] W fun e w' => e = .returned (.string J) ∧ Below W.heap.size W w') := fun W _ => by
            rw [hJ, hk0]
            refine (Tryz.strings_Join_none (some ⟨b, o, none⟩) c ⟨#[10]⟩ W).mono ?_
            rintro e w' ⟨rfl, rfl⟩
            exact ⟨rfl, Below.refl _ _⟩
          have hJl : J.size ≤ 2000 := by rw [hJ]; decide
          have HJ : Hid (J.data.toList = Lx.flat (byts (ls.take k))) := by show _ = _; rw [hJ, hk0]; rfl
          have hki : decide ((0 : Int) < (k : Int)) = false := decide_eq_false (by omega)
          have hk1 : (0 : Int) ≤ (k : Int) := by omega
          have hk2 : (k : Int) ≤ (c : Int) := by omega
          have hkc : k < c := by omega
          have hkc2 : ¬ c = k := by omega
          have hkz : ¬ 0 < k := by omega
          have hkd : decide (0 < k) = false := decide_eq_false (by omega)
          clear hJ hk0
          go_wp2_with (first
            | (go_at_call 14; refine (CJ.out _ hbw).mono ?_; rintro e w3 ⟨rfl, hb3⟩)
            | (go_at_call 15; go_fit (cRp.out _); rintro e w4 ⟨rfl, hb4⟩))
          have hbw4 : Below w.heap.size w w4 := hbw.trans ((bthen hb3 hb4).mono hbw.size)
          have HP : Hid ((J ++ (R ++ (⟨#[10, 32, 35, 32, 110, 111, 116, 104, 105, 110, 103, 10]⟩ : ByteArray))).data.toList = Lx.flat (byts (ls.take k)) ++ (Lib.repeatL [32] z ++ 10 :: (Lx.nothingL ++ [10]))) := by
            show _ = _
            rw [app3, app3, HRd.out, HJ.out]; rfl
          have hPz : (J ++ (R ++ (⟨#[10, 32, 35, 32, 110, 111, 116, 104, 105, 110, 103, 10]⟩ : ByteArray))).size ≤ 3000 := by
            rw [Lib.size_eq]
            simp only [app3, List.length_append, ba_len]
            show J.size + (R.size + 12) ≤ 3000
            omega
          clear CJ cRp HRd HJ
          generalize (J ++ (R ++ (⟨#[10, 32, 35, 32, 110, 111, 116, 104, 105, 110, 103, 10]⟩ : ByteArray))) = M at *
          go_loopw [11, 61] (fun t i wr => ∃ (j : Nat) (X : ByteArray), j ≤ ls.length - k ∧ i = .int .i64 j ∧ t = .string X ∧ X.size ≤ 3000 + j * 1100001 ∧ Below w.heap.size w wr ∧ Hid (X.data.toList = M.data.toList ++ Lx.flat (byts ((ls.drop k).take j)))) (fun _ i _ => (ls.length - k) - (intOf i).toNat)
          case atStart => exact ⟨0, M, by omega, rfl, rfl, by omega, hbw4, by show _ = _; simp [byts, Lx.flat]⟩
          case round =>
            obtain ⟨j, X, hj, rfl, rfl, hXz, hbx, HX⟩ := hrel
            have hi0 : (0 : Int) ≤ (j : Int) := Int.natCast_nonneg _
            by_cases hlt2 : j < ls.length - k
            · have c0 := (hbx.cell (p := ⟨b, o + (k + j), none⟩) hb).trans (HC.out (k + j) (ls[k + j]'(by omega)) (List.getElem?_eq_getElem (by omega)))
              rw [← Nat.add_assoc] at c0
              have hs := HS.out _ (List.getElem_mem (show k + j < ls.length by omega))
              have HB := Lib.hid (byts_snoc (ls.drop k) j (by rw [List.length_drop]; exact hlt2))
              rw [List.getElem_drop] at HB
              have hi1 : (j : Int) < ((ls.length - k : Nat) : Int) := by omega
              generalize (ls[k + j]'(by omega)) = s at *
              go_wp2
              go_roundw
              case rel => exact ⟨j + 1, X ++ (s ++ ⟨#[10]⟩), by omega, by go_num, rfl, by rw [Lib.size_eq, app3, app3, List.length_append, List.length_append, ba_len, ba_len]; show X.size + (s.size + 1) ≤ _; omega, hbx, by show _ = _; rw [HB.out, Lx.flat_snoc, app3, app3, HX.out, List.append_assoc]⟩
              case measure => simp [intOf]; omega
            · obtain rfl : j = ls.length - k := by omega
              have hXe : X.data.toList = Lx.flat (byts (ls.take k)) ++ (Lib.repeatL [32] z ++ 10 :: (Lx.nothingL ++ 10 :: Lx.flat (byts (ls.drop k)))) := by
                have ht : (ls.drop k).take (ls.length - k) = ls.drop k := List.take_of_length_le (by rw [List.length_drop]; exact Nat.le_refl _)
                rw [HX.out, HP.out, ht]; simp
              have hX2 : X.size ≤ 5000 := by
                have h1 := congrArg List.length hXe
                have h2 := congrArg List.length HT.out
                have h3 : byts ls = byts (ls.take k) ++ byts (ls.drop k) := by unfold byts; rw [← List.map_append, List.take_append_drop]
                rw [h3, Lx.flat_app, List.length_append, ba_len] at h2
                rw [ba_len, List.length_append, List.length_append, List.length_cons, List.length_append, List.length_cons, Lx.rep_len] at h1
                have h4 : Lx.nothingL.length = 10 := rfl
                omega
              have hrd : Lx.read X.data.toList = Lx.read S.data.toList := by
                have h3 : byts (ls.take k) = (byts ls).take k := byts_take ls k
                have h4 : byts (ls.drop k) = (byts ls).drop k := by unfold byts; rw [List.map_drop]
                rw [hXe, HT.out, h3, h4]
                exact Lx.read_blanks (byts ls) k z hn9 HF.out.no10 HF.out.no124
              have r1 := fun w hE => readLoop S w (by omega) hE
              have r2 := fun w hE => readLoop X w (by omega) hE
              rw [hrd] at r2
              have fs := Lx.few_linesOf S.data.toList
              rw [ba_len] at fs
              have R1 := Lib.hid r1
              have R2 := Lib.hid r2
              have FS := Lib.hid fs
              clear r1 r2 hrd hXe fs
              generalize Lx.read S.data.toList = r at *
              go_wp2_with (first
                | (go_at_call 10; go_fit (R1.out _ (HE.out.below hbx)); rintro e w6 ⟨hq6, hb6⟩; obtain ⟨xa, xc, rfl, hx⟩ := readR_both hq6; have HX6 := Lib.hid hx; have R2' := Lib.hid (R2.out w6 (HE.out.below (hbx.trans (hb6.mono hbx.size)))); clear hq6 hx)
                | (go_at_call 10; go_fit R2'.out; rintro e w7 ⟨hq7, hb7⟩; obtain ⟨ya, yc, rfl, hy⟩ := readR_both hq7; have HY7 := Lib.hid hy; have CX := Lib.hid (oursL_any _ _ _ w7 (HX6.out.below hb7) (by have := FS.out.1; omega) (fun x hx => by have := (FS.out.2 x hx).1; omega)); clear hq7 hy)
                | (go_at_call 12; go_fit CX.out; rintro e w8 ⟨⟨p, rfl, hp⟩, hb8⟩; obtain ⟨pa, pc, rfl⟩ := hp.form; have HP8 := Lib.hid hp; have CY := Lib.hid (oursL_any _ _ _ w8 (HY7.out.below hb8) (by have := FS.out.1; omega) (fun x hx => by have := (FS.out.2 x hx).1; omega)); clear hp CX)
                | (go_at_call 12; go_fit CY.out; rintro e w9 ⟨⟨q, rfl, hq⟩, hb9⟩; obtain ⟨qa, qc, rfl⟩ := hq.form; have CZ := Lib.hid (sameL_any _ _ _ _ _ w9 (HP8.out.below hb9) hq); clear hq)
                | (go_at_call 11; go_fit CZ.out; rintro e w10 ⟨rfl, n10, rfl⟩))
              go_ret
              exact ⟨rfl, bel_drewN (hbx.trans ((bthen (bthen (bthen hb6 hb7) hb8) hb9).mono hbx.size)) _⟩
        · have hjf := Lx.join_flat (byts (ls.take k)) (by rw [byts_len, List.length_take]; omega)
          have hjl : (Lib.join (byts (ls.take k)) [10]).length ≤ 2000 := by
            have h2 := congrArg List.length hjf
            rw [List.length_append] at h2
            have h3 : (Lx.flat (byts (ls.take k))).length ≤ (Lx.flat (byts ls)).length := by
              have : byts ls = byts (ls.take k) ++ byts (ls.drop k) := by unfold byts; rw [← List.map_append, List.take_append_drop]
              rw [this, Lx.flat_app, List.length_append]; omega
            rw [← HT.out, ba_len] at h3
            simp only [List.length_cons, List.length_nil] at h2
            omega
          obtain ⟨J, hJ⟩ : ∃ J : ByteArray, J = ⟨(Lib.join (byts (ls.take k)) [10]).toArray⟩ := ⟨_, rfl⟩
          have CJ : Hid (∀ W, Below w.heap.size w W → Calls Tryz.prog 14 #[.slice (some ⟨b, o, none⟩) k c, .string ⟨#[10]⟩] W fun e w' => e = .returned (.string J) ∧ Below W.heap.size W w') := fun W hW => by
            have hj := Tryz.strings_Join b o c (ls.take k) ⟨#[10]⟩ W (fun j x hx => by
              have hjk : j < k := by have := (List.getElem?_eq_some_iff.1 hx).1; rw [List.length_take] at this; omega
              rw [List.getElem?_take_of_lt hjk] at hx
              exact (hW.cell (p := ⟨b, o + j, none⟩) hb).trans (HC.out j x hx)) (Nat.lt_of_lt_of_le hb hW.size) (by rw [List.length_take]; omega) (by rw [List.length_take]; omega) (Nat.le_trans hjl (by decide))
            rw [List.length_take, Nat.min_eq_left hk] at hj
            rw [hJ]
            exact hj
          have hJl : J.size ≤ 2000 := by rw [hJ, Lib.size_eq]; exact hjl
          have HJ : Hid (J.data.toList ++ [10] = Lx.flat (byts (ls.take k))) := by show _ = _; rw [hJ]; exact hjf
          clear hjf hjl hJ
          have hki : decide ((0 : Int) < (k : Int)) = true := decide_eq_true (by omega)
          have hk1 : (0 : Int) ≤ (k : Int) := by omega
          have hk2 : (k : Int) ≤ (c : Int) := by omega
          rcases Nat.lt_or_ge k c with hkc | hkc
          · have hkc2 : ¬ c = k := by omega
            go_wp2_with (first
              | (go_at_call 14; refine (CJ.out _ hbw).mono ?_; rintro e w3 ⟨rfl, hb3⟩)
              | (go_at_call 15; go_fit (cRp.out _); rintro e w4 ⟨rfl, hb4⟩))
            have hbw4 : Below w.heap.size w w4 := hbw.trans ((bthen hb3 hb4).mono hbw.size)
            have HP : Hid ((J ++ (⟨#[10]⟩ : ByteArray) ++ (R ++ (⟨#[10, 32, 35, 32, 110, 111, 116, 104, 105, 110, 103, 10]⟩ : ByteArray))).data.toList = Lx.flat (byts (ls.take k)) ++ (Lib.repeatL [32] z ++ 10 :: (Lx.nothingL ++ [10]))) := by
              show _ = _
              rw [app3, app3, app3, HRd.out, show (⟨#[10]⟩ : ByteArray).data.toList = [10] from rfl, HJ.out]; rfl
            have hPz : (J ++ (⟨#[10]⟩ : ByteArray) ++ (R ++ (⟨#[10, 32, 35, 32, 110, 111, 116, 104, 105, 110, 103, 10]⟩ : ByteArray))).size ≤ 3000 := by
              rw [Lib.size_eq]
              simp only [app3, List.length_append, ba_len]
              show J.size + 1 + (R.size + 12) ≤ 3000
              omega
            clear CJ cRp HRd HJ
            generalize (J ++ (⟨#[10]⟩ : ByteArray) ++ (R ++ (⟨#[10, 32, 35, 32, 110, 111, 116, 104, 105, 110, 103, 10]⟩ : ByteArray))) = M at *
            go_loopw [11, 61] (fun t i wr => ∃ (j : Nat) (X : ByteArray), j ≤ ls.length - k ∧ i = .int .i64 j ∧ t = .string X ∧ X.size ≤ 3000 + j * 1100001 ∧ Below w.heap.size w wr ∧ Hid (X.data.toList = M.data.toList ++ Lx.flat (byts ((ls.drop k).take j)))) (fun _ i _ => (ls.length - k) - (intOf i).toNat)
            case atStart => exact ⟨0, M, by omega, rfl, rfl, by omega, hbw4, by show _ = _; simp [byts, Lx.flat]⟩
            case round =>
              obtain ⟨j, X, hj, rfl, rfl, hXz, hbx, HX⟩ := hrel
              have hi0 : (0 : Int) ≤ (j : Int) := Int.natCast_nonneg _
              by_cases hlt2 : j < ls.length - k
              · have c0 := (hbx.cell (p := ⟨b, o + (k + j), none⟩) hb).trans (HC.out (k + j) (ls[k + j]'(by omega)) (List.getElem?_eq_getElem (by omega)))
                rw [← Nat.add_assoc] at c0
                have hs := HS.out _ (List.getElem_mem (show k + j < ls.length by omega))
                have HB := Lib.hid (byts_snoc (ls.drop k) j (by rw [List.length_drop]; exact hlt2))
                rw [List.getElem_drop] at HB
                have hi1 : (j : Int) < ((ls.length - k : Nat) : Int) := by omega
                generalize (ls[k + j]'(by omega)) = s at *
                go_wp2
                go_roundw
                case rel => exact ⟨j + 1, X ++ (s ++ ⟨#[10]⟩), by omega, by go_num, rfl, by rw [Lib.size_eq, app3, app3, List.length_append, List.length_append, ba_len, ba_len]; show X.size + (s.size + 1) ≤ _; omega, hbx, by show _ = _; rw [HB.out, Lx.flat_snoc, app3, app3, HX.out, List.append_assoc]⟩
                case measure => simp [intOf]; omega
              · obtain rfl : j = ls.length - k := by omega
                have hXe : X.data.toList = Lx.flat (byts (ls.take k)) ++ (Lib.repeatL [32] z ++ 10 :: (Lx.nothingL ++ 10 :: Lx.flat (byts (ls.drop k)))) := by
                  have ht : (ls.drop k).take (ls.length - k) = ls.drop k := List.take_of_length_le (by rw [List.length_drop]; exact Nat.le_refl _)
                  rw [HX.out, HP.out, ht]; simp
                have hX2 : X.size ≤ 5000 := by
                  have h1 := congrArg List.length hXe
                  have h2 := congrArg List.length HT.out
                  have h3 : byts ls = byts (ls.take k) ++ byts (ls.drop k) := by unfold byts; rw [← List.map_append, List.take_append_drop]
                  rw [h3, Lx.flat_app, List.length_append, ba_len] at h2
                  rw [ba_len, List.length_append, List.length_append, List.length_cons, List.length_append, List.length_cons, Lx.rep_len] at h1
                  have h4 : Lx.nothingL.length = 10 := rfl
                  omega
                have hrd : Lx.read X.data.toList = Lx.read S.data.toList := by
                  have h3 : byts (ls.take k) = (byts ls).take k := byts_take ls k
                  have h4 : byts (ls.drop k) = (byts ls).drop k := by unfold byts; rw [List.map_drop]
                  rw [hXe, HT.out, h3, h4]
                  exact Lx.read_blanks (byts ls) k z hn9 HF.out.no10 HF.out.no124
                have r1 := fun w hE => readLoop S w (by omega) hE
                have r2 := fun w hE => readLoop X w (by omega) hE
                rw [hrd] at r2
                have fs := Lx.few_linesOf S.data.toList
                rw [ba_len] at fs
                have R1 := Lib.hid r1
                have R2 := Lib.hid r2
                have FS := Lib.hid fs
                clear r1 r2 hrd hXe fs
                generalize Lx.read S.data.toList = r at *
                go_wp2_with (first
                  | (go_at_call 10; go_fit (R1.out _ (HE.out.below hbx)); rintro e w6 ⟨hq6, hb6⟩; obtain ⟨xa, xc, rfl, hx⟩ := readR_both hq6; have HX6 := Lib.hid hx; have R2' := Lib.hid (R2.out w6 (HE.out.below (hbx.trans (hb6.mono hbx.size)))); clear hq6 hx)
                  | (go_at_call 10; go_fit R2'.out; rintro e w7 ⟨hq7, hb7⟩; obtain ⟨ya, yc, rfl, hy⟩ := readR_both hq7; have HY7 := Lib.hid hy; have CX := Lib.hid (oursL_any _ _ _ w7 (HX6.out.below hb7) (by have := FS.out.1; omega) (fun x hx => by have := (FS.out.2 x hx).1; omega)); clear hq7 hy)
                  | (go_at_call 12; go_fit CX.out; rintro e w8 ⟨⟨p, rfl, hp⟩, hb8⟩; obtain ⟨pa, pc, rfl⟩ := hp.form; have HP8 := Lib.hid hp; have CY := Lib.hid (oursL_any _ _ _ w8 (HY7.out.below hb8) (by have := FS.out.1; omega) (fun x hx => by have := (FS.out.2 x hx).1; omega)); clear hp CX)
                  | (go_at_call 12; go_fit CY.out; rintro e w9 ⟨⟨q, rfl, hq⟩, hb9⟩; obtain ⟨qa, qc, rfl⟩ := hq.form; have CZ := Lib.hid (sameL_any _ _ _ _ _ w9 (HP8.out.below hb9) hq); clear hq)
                  | (go_at_call 11; go_fit CZ.out; rintro e w10 ⟨rfl, n10, rfl⟩))
                go_ret
                exact ⟨rfl, bel_drewN (hbx.trans ((bthen (bthen (bthen hb6 hb7) hb8) hb9).mono hbx.size)) _⟩
          · obtain rfl : k = c := by omega
            go_wp2_with (first
              | (go_at_call 14; refine (CJ.out _ hbw).mono ?_; rintro e w3 ⟨rfl, hb3⟩)
              | (go_at_call 15; go_fit (cRp.out _); rintro e w4 ⟨rfl, hb4⟩))
            have hbw4 : Below w.heap.size w w4 := hbw.trans ((bthen hb3 hb4).mono hbw.size)
            have HP : Hid ((J ++ (⟨#[10]⟩ : ByteArray) ++ (R ++ (⟨#[10, 32, 35, 32, 110, 111, 116, 104, 105, 110, 103, 10]⟩ : ByteArray))).data.toList = Lx.flat (byts (ls.take k)) ++ (Lib.repeatL [32] z ++ 10 :: (Lx.nothingL ++ [10]))) := by
              show _ = _
              rw [app3, app3, app3, HRd.out, show (⟨#[10]⟩ : ByteArray).data.toList = [10] from rfl, HJ.out]; rfl
            have hPz : (J ++ (⟨#[10]⟩ : ByteArray) ++ (R ++ (⟨#[10, 32, 35, 32, 110, 111, 116, 104, 105, 110, 103, 10]⟩ : ByteArray))).size ≤ 3000 := by
              rw [Lib.size_eq]
              simp only [app3, List.length_append, ba_len]
              show J.size + 1 + (R.size + 12) ≤ 3000
              omega
            clear CJ cRp HRd HJ
            generalize (J ++ (⟨#[10]⟩ : ByteArray) ++ (R ++ (⟨#[10, 32, 35, 32, 110, 111, 116, 104, 105, 110, 103, 10]⟩ : ByteArray))) = M at *
            go_loopw [11, 61] (fun t i wr => ∃ (j : Nat) (X : ByteArray), j ≤ ls.length - k ∧ i = .int .i64 j ∧ t = .string X ∧ X.size ≤ 3000 + j * 1100001 ∧ Below w.heap.size w wr ∧ Hid (X.data.toList = M.data.toList ++ Lx.flat (byts ((ls.drop k).take j)))) (fun _ i _ => (ls.length - k) - (intOf i).toNat)
            case atStart => exact ⟨0, M, by omega, rfl, rfl, by omega, hbw4, by show _ = _; simp [byts, Lx.flat]⟩
            case round =>
              obtain ⟨j, X, hj, rfl, rfl, hXz, hbx, HX⟩ := hrel
              have hi0 : (0 : Int) ≤ (j : Int) := Int.natCast_nonneg _
              by_cases hlt2 : j < ls.length - k
              · exfalso; omega
              · obtain rfl : j = ls.length - k := by omega
                have hXe : X.data.toList = Lx.flat (byts (ls.take k)) ++ (Lib.repeatL [32] z ++ 10 :: (Lx.nothingL ++ 10 :: Lx.flat (byts (ls.drop k)))) := by
                  have ht : (ls.drop k).take (ls.length - k) = ls.drop k := List.take_of_length_le (by rw [List.length_drop]; exact Nat.le_refl _)
                  rw [HX.out, HP.out, ht]; simp
                have hX2 : X.size ≤ 5000 := by
                  have h1 := congrArg List.length hXe
                  have h2 := congrArg List.length HT.out
                  have h3 : byts ls = byts (ls.take k) ++ byts (ls.drop k) := by unfold byts; rw [← List.map_append, List.take_append_drop]
                  rw [h3, Lx.flat_app, List.length_append, ba_len] at h2
                  rw [ba_len, List.length_append, List.length_append, List.length_cons, List.length_append, List.length_cons, Lx.rep_len] at h1
                  have h4 : Lx.nothingL.length = 10 := rfl
                  omega
                have hrd : Lx.read X.data.toList = Lx.read S.data.toList := by
                  have h3 : byts (ls.take k) = (byts ls).take k := byts_take ls k
                  have h4 : byts (ls.drop k) = (byts ls).drop k := by unfold byts; rw [List.map_drop]
                  rw [hXe, HT.out, h3, h4]
                  exact Lx.read_blanks (byts ls) k z hn9 HF.out.no10 HF.out.no124
                have r1 := fun w hE => readLoop S w (by omega) hE
                have r2 := fun w hE => readLoop X w (by omega) hE
                rw [hrd] at r2
                have fs := Lx.few_linesOf S.data.toList
                rw [ba_len] at fs
                have R1 := Lib.hid r1
                have R2 := Lib.hid r2
                have FS := Lib.hid fs
                clear r1 r2 hrd hXe fs
                generalize Lx.read S.data.toList = r at *
                go_wp2_with (first
                  | (go_at_call 10; go_fit (R1.out _ (HE.out.below hbx)); rintro e w6 ⟨hq6, hb6⟩; obtain ⟨xa, xc, rfl, hx⟩ := readR_both hq6; have HX6 := Lib.hid hx; have R2' := Lib.hid (R2.out w6 (HE.out.below (hbx.trans (hb6.mono hbx.size)))); clear hq6 hx)
                  | (go_at_call 10; go_fit R2'.out; rintro e w7 ⟨hq7, hb7⟩; obtain ⟨ya, yc, rfl, hy⟩ := readR_both hq7; have HY7 := Lib.hid hy; have CX := Lib.hid (oursL_any _ _ _ w7 (HX6.out.below hb7) (by have := FS.out.1; omega) (fun x hx => by have := (FS.out.2 x hx).1; omega)); clear hq7 hy)
                  | (go_at_call 12; go_fit CX.out; rintro e w8 ⟨⟨p, rfl, hp⟩, hb8⟩; obtain ⟨pa, pc, rfl⟩ := hp.form; have HP8 := Lib.hid hp; have CY := Lib.hid (oursL_any _ _ _ w8 (HY7.out.below hb8) (by have := FS.out.1; omega) (fun x hx => by have := (FS.out.2 x hx).1; omega)); clear hp CX)
                  | (go_at_call 12; go_fit CY.out; rintro e w9 ⟨⟨q, rfl, hq⟩, hb9⟩; obtain ⟨qa, qc, rfl⟩ := hq.form; have CZ := Lib.hid (sameL_any _ _ _ _ _ w9 (HP8.out.below hb9) hq); clear hq)
                  | (go_at_call 11; go_fit CZ.out; rintro e w10 ⟨rfl, n10, rfl⟩))
                go_ret
                exact ⟨rfl, bel_drewN (hbx.trans ((bthen (bthen (bthen hb6 hb7) hb8) hb9).mono hbx.size)) _⟩

set_option maxHeartbeats 4000000 in
set_option maxRecDepth 100000 in
theorem blanks_nil (a : Option Addr) (c m n : Nat) (w : World) (hE : Env w) (ha : (a = none ∧ c = 0) ∨ ∃ A, a = some A) (hcm : c ≤ 9223372036854775807) (hm : m < 256) (hn : n < 256) :
    Calls Tryz.prog 4 #[.slice a 0 c, .int .u8 m, .int .u8 n] w fun e w' => e = .returned (.bool true) ∧ Below w.heap.size w w' := by
  have cA := Lib.hid (alive_any w hE)
  have HE := Lib.hid hE
  have hrem : (m : Int).tmod 1 = 0 := by rw [Int.tmod_eq_emod_of_nonneg (by omega)]; omega
  have hrem2 : (n : Int).tmod 9 = ((n % 9 : Nat) : Int) := by rw [Int.tmod_eq_emod_of_nonneg (by omega)]; omega
  have hn9 : n % 9 < 9 := Nat.mod_lt n (by omega)
  generalize n % 9 = z at *
  have cRp := Lib.hid (fun w => Tryz.strings_Repeat ⟨#[32]⟩ z w (by omega) (by show 1 * z ≤ _; omega))
  obtain ⟨R, hR⟩ : ∃ R : ByteArray, R = ⟨(Lib.repeatL (⟨#[32]⟩ : ByteArray).data.toList z).toArray⟩ := ⟨_, rfl⟩
  rw [← hR] at cRp
  have hRd : R.data.toList = Lib.repeatL [32] z := by rw [hR]
  have hRs : R.size ≤ 9 := by rw [Lib.size_eq, hRd, Lx.rep_len]; omega
  have hX2 : (R ++ (⟨#[10, 32, 35, 32, 110, 111, 116, 104, 105, 110, 103, 10]⟩ : ByteArray)).size ≤ 5000 := by
    rw [Lib.size_eq]
    simp only [app3, List.length_append, ba_len]
    show R.size + 12 ≤ 5000
    omega
  have hrd : Lx.read (R ++ (⟨#[10, 32, 35, 32, 110, 111, 116, 104, 105, 110, 103, 10]⟩ : ByteArray)).data.toList = .ok [] := by
    rw [app3, hRd]
    have := Lx.read_blanks [] 0 z hn9 (fun p hp => by cases hp) (fun p hp => by cases hp)
    have e0 : Lx.read (Lx.flat []) = .ok [] := Lx.rd_empty
    rw [e0] at this
    exact this
  have hrd0 : Lx.read (⟨#[]⟩ : ByteArray).data.toList = .ok [] := Lx.rd_empty
  have r1 := fun w hE => readLoop ⟨#[]⟩ w (by decide) hE
  have r2 := fun w hE => readLoop (R ++ (⟨#[10, 32, 35, 32, 110, 111, 116, 104, 105, 110, 103, 10]⟩ : ByteArray)) w (by omega) hE
  rw [hrd0] at r1
  rw [hrd] at r2
  have R1 := Lib.hid r1
  have R2 := Lib.hid r2
  have CJ : Hid (∀ W, Calls Tryz.prog 14 #[.slice a 0 c, .string ⟨#[10]⟩] W fun e w' => e = .returned (.string ⟨#[]⟩) ∧ W = w') := fun W => (Tryz.strings_Join_none a c ⟨#[10]⟩ W).mono fun _ _ h => ⟨h.1, h.2.symm⟩
  clear r1 r2 hrd hrd0 hE hR hRd
  rcases ha with ⟨rfl, rfl⟩ | ⟨A, rfl⟩
  all_goals
    go_enter Tryz.func4, Tryz.ntmps4
    go_wp2_with (go_at_call 8; refine cA.out.mono ?_; rintro e w1 ⟨rfl, hb1⟩)
    refine wp_loop_rounds 1 ?_
    rw [rounds_succ]
    go_wp2_with (first
      | (go_at_call 14; refine (CJ.out _).mono ?_; rintro e w' ⟨rfl, rfl⟩)
      | (go_at_call 15; go_fit (cRp.out _); rintro e w4 ⟨rfl, hb4⟩))
    refine wp_loop_rounds 1 ?_
    rw [rounds_succ]
    have hbx := bthen hb1 hb4
    go_wp2_with (first
      | (go_at_call 10; go_fit (R1.out _ (HE.out.below hbx)); rintro e w6 ⟨hq6, hb6⟩; obtain ⟨xa, xc, rfl, hx⟩ := readR_both hq6; have HX6 := Lib.hid hx; have R2' := Lib.hid (R2.out w6 (HE.out.below (hbx.trans (hb6.mono hbx.size)))); clear hq6 hx)
      | (go_at_call 10; go_fit R2'.out; rintro e w7 ⟨hq7, hb7⟩; obtain ⟨ya, yc, rfl, hy⟩ := readR_both hq7; have HY7 := Lib.hid hy; have CX := Lib.hid (oursL_any _ _ _ w7 (HX6.out.below hb7) (by decide) (fun x hx => by cases hx)); clear hq7 hy)
      | (go_at_call 12; go_fit CX.out; rintro e w8 ⟨⟨p, rfl, hp⟩, hb8⟩; obtain ⟨pa, pc, rfl⟩ := hp.form; have HP8 := Lib.hid hp; have CY := Lib.hid (oursL_any _ _ _ w8 (HY7.out.below hb8) (by decide) (fun x hx => by cases hx)); clear hp CX)
      | (go_at_call 12; go_fit CY.out; rintro e w9 ⟨⟨q, rfl, hq⟩, hb9⟩; obtain ⟨qa, qc, rfl⟩ := hq.form; have CZ := Lib.hid (sameL_any _ _ _ _ _ w9 (HP8.out.below hb9) hq); clear hq)
      | (go_at_call 11; go_fit CZ.out; rintro e w10 ⟨rfl, n10, rfl⟩))
    go_ret
    exact ⟨rfl, bel_drewN (hbx.trans ((bthen (bthen (bthen hb6 hb7) hb8) hb9).mono hbx.size)) _⟩
end Go.Proofs.YtmhakkahclbbjaaGreatDoor
