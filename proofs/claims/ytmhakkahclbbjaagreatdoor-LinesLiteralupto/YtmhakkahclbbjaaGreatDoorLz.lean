/-
  The document's Strange; the law LinesLiteral, walked.
-/
import Derived.Test.YtmhakkahclbbjaaGreatDoorLv
import Derived.Test.YtmhakkahclbbjaaGreatDoorMq
import Derived.Test.YtmhakkahclbbjaaGreatDoorQb
import Derived.Deep.DeepFit
namespace Go.Proofs.YtmhakkahclbbjaaGreatDoor
open Go.RowKit

theorem all_at (rs : List Nat) (j : Nat) (h : j < rs.length) : (rs.drop j).all Lx.lineR = (Lx.lineR rs[j] && (rs.drop (j + 1)).all Lx.lineR) := by
  rw [List.drop_eq_getElem_cons h, List.all_cons]

set_option maxHeartbeats 2000000 in
set_option maxRecDepth 100000 in
theorem strange_any (s : ByteArray) (w : World) (hs : s.size ≤ 1100000) :
    Calls Tryz.prog 16 #[.string s] w fun e w' => e = .returned (.bool (!Lx.isLine s.data.toList)) ∧ Below w.heap.size w w' := by
  have cC := chars_any s w hs
  obtain ⟨ANS, hANS⟩ : ∃ ANS, Lx.isLine s.data.toList = ANS := ⟨_, rfl⟩
  rw [hANS]
  by_cases hv : Lib.validD s.data.toList = true
  · have e1 : Sc.charsOf s.data.toList = some (Sc.rns s.data.toList) := by unfold Sc.charsOf; rw [if_pos hv]
    rw [e1] at cC
    have HA : Hid ((Sc.rns s.data.toList).all Lx.lineR = ANS) := by
      show _ = _
      rw [← hANS]; unfold Lx.isLine; rw [hv]; rfl
    generalize Sc.rns s.data.toList = rs at *
    have CC := Lib.hid cC
    clear cC hANS e1 hv
    go_enter Tryz.func16, Tryz.ntmps16
    go_wp2_with (go_at_call 35; refine CC.out.mono ?_; rintro e w1 ⟨v, rfl, hv, hb1⟩; obtain ⟨va, vc, rfl, hvc, hvm, hrd⟩ := hv.form; have HR := Lib.hid hrd; clear hv hrd)
    change rs.length ≤ vc at hvc
    unfold maxLen at hvm
    go_loop [5] (fun i => ∃ j : Nat, j ≤ rs.length ∧ i = .int .i64 j ∧ Hid ((rs.drop j).all Lx.lineR = ANS)) (fun i => rs.length - (intOf i).toNat)
    case atStart => exact ⟨0, by omega, rfl, HA⟩
    case round =>
      obtain ⟨j, hj, rfl, HK⟩ := hrel
      by_cases hlt : j < rs.length
      · obtain ⟨g, off, rfl, hg, hc⟩ := HR.out (show 0 < rs.length by omega)
        have c0 := hc j hlt
        have hst := all_at rs j hlt
        clear hc
        change w1.cell? ⟨g, off + j, none⟩ = some (.int .i64 ((rs[j]'hlt : Nat) : Int)) at c0
        have hK := HK.out
        rw [hst] at hK
        clear hst HK HA
        generalize (rs[j]'hlt) = r at *
        have cM := mayR_any (r : Int)
        have hlr : Lx.lineR r = (!decide (r = 10) && Sc.mayB r) := rfl
        rw [hlr] at hK
        have h10 : ((r : Int) == 10) = decide (r = 10) := by rw [Bool.eq_iff_iff]; simp; omega
        have hi0 : (0 : Int) ≤ (j : Int) := Int.natCast_nonneg _
        have hi1 : (j : Int) < (rs.length : Int) := by omega
        cases hm : Sc.mayB (r : Int) with
        | false =>
          rw [hm] at cM
          have hA : ANS = false := by rw [← hK]; simp [hm]
          have CM := Lib.hid cM
          clear cM hlr hK h10 hm
          subst hA
          go_wp2_with (go_at_call 36; refine (CM.out _).mono ?_; rintro e w' ⟨rfl, rfl⟩)
          go_ret
          exact ⟨rfl, hb1⟩
        | true =>
          rw [hm] at cM
          have CM := Lib.hid cM
          cases hd : decide (r = 10) with
          | true =>
            rw [hd] at h10
            have hA : ANS = false := by rw [← hK, hd]; rfl
            clear cM hlr hK hm hd
            subst hA
            go_wp2_with (go_at_call 36; refine (CM.out _).mono ?_; rintro e w' ⟨rfl, rfl⟩)
            go_ret
            exact ⟨rfl, hb1⟩
          | false =>
            rw [hd] at h10
            have HN : Hid ((rs.drop (j + 1)).all Lx.lineR = ANS) := by
              show _ = _
              rw [← hK, hd, hm]; rfl
            clear cM hlr hK hm hd
            go_wp2_with (go_at_call 36; refine (CM.out _).mono ?_; rintro e w' ⟨rfl, rfl⟩)
            go_round
            case rel => exact ⟨j + 1, by omega, by go_num, HN⟩
            case measure => simp [intOf]; omega
      · obtain rfl : j = rs.length := by omega
        have hA : ANS = true := by rw [← HK.out, List.drop_length]; rfl
        subst hA
        clear HK HA
        go_wp2
        go_ret
        exact ⟨rfl, hb1⟩
  · have e1 : Sc.charsOf s.data.toList = none := by unfold Sc.charsOf; rw [if_neg hv]
    rw [e1] at cC
    have hA : ANS = false := by rw [← hANS]; unfold Lx.isLine; rw [Bool.eq_false_iff.2 hv]; rfl
    subst hA
    have CC := Lib.hid cC
    clear cC hANS e1 hv
    go_enter Tryz.func16, Tryz.ntmps16
    go_wp2_with (go_at_call 35; refine CC.out.mono ?_; rintro e w1 ⟨v, rfl, hv, hb1⟩; obtain ⟨va, vc, rfl, hvc, hvm, hrd⟩ := hv.form; clear hv hrd)
    refine wp_loop_rounds 1 ?_
    rw [rounds_succ]
    go_wp2
    go_ret
    exact ⟨rfl, hb1⟩

theorem mem_enc2 (r : Nat) (b : UInt8) (hc : Sc.isCh r) (h : b ∈ Sc.enc r) (hb : b.toNat < 128) : r = b.toNat := by
  unfold Sc.isCh at hc
  by_cases h1 : r ≤ 127
  · rw [Sc.enc1 r h1] at h
    have : b = UInt8.ofNat r := by simpa using h
    rw [this, Sc.toNat_of r (by omega)]
  · exfalso
    by_cases h2 : r ≤ 2047
    · rw [Sc.enc2 r (by omega) h2] at h
      simp only [List.mem_cons, List.not_mem_nil, or_false] at h
      rcases h with rfl | rfl <;> rw [Sc.toNat_of _ (by omega)] at hb <;> omega
    · by_cases h3 : r ≤ 65535
      · rw [Sc.enc3 r (by omega)] at h
        simp only [List.mem_cons, List.not_mem_nil, or_false] at h
        rcases h with rfl | rfl | rfl <;> rw [Sc.toNat_of _ (by omega)] at hb <;> omega
      · rw [Sc.enc4 r (by omega) (by omega)] at h
        simp only [List.mem_cons, List.not_mem_nil, or_false] at h
        rcases h with rfl | rfl | rfl | rfl <;> rw [Sc.toNat_of _ (by omega)] at hb <;> omega

namespace Lx
theorem rep_add (a b : Nat) : Lib.repeatL [32] a ++ Lib.repeatL [32] b = Lib.repeatL [32] (a + b) := by
  induction a with
  | zero => simp [Lib.repeatL]
  | succ n ih =>
    have e : Lib.repeatL [32] (n + 1) ++ Lib.repeatL [32] b = 32 :: (Lib.repeatL [32] n ++ Lib.repeatL [32] b) := rfl
    rw [e, ih, show n + 1 + b = (n + b) + 1 by omega]; rfl
theorem isLine_no10 (l : List UInt8) (h : isLine l = true) : ∀ b ∈ l, b ≠ 10 := by
  unfold isLine at h
  obtain ⟨hv, ha⟩ := Bool.and_eq_true_iff.1 h
  intro b hb e
  subst e
  have hen := Sc.encs_rns l hv
  rw [← hen] at hb
  unfold Sc.encs at hb
  obtain ⟨r, hr, hbr⟩ := List.mem_flatMap.1 hb
  have hlr := List.all_eq_true.1 ha r hr
  unfold lineR at hlr
  have h10 := of_decide_eq_false (by simpa using (Bool.and_eq_true_iff.1 hlr).1 : decide (r = 10) = false)
  exact h10 (mem_enc2 r 10 (Sc.ch_rns l r hr) hbr (by decide))
end Lx
theorem app4 (a b : ByteArray) : (a ++ b).data.toList = a.data.toList ++ b.data.toList := Tag.app_data _ _
theorem byts_snoc2 (l : List ByteArray) (j : Nat) (h : j < l.length) : byts (l.take (j + 1)) = byts (l.take j) ++ [l[j].data.toList] := by
  rw [List.take_succ_eq_append_getElem h]; unfold byts; rw [List.map_append]; rfl
/-- texts that stand below a bar -/
def Below0 (l : List ByteArray) : Prop := ∀ s ∈ l, Lx.Firm s.data.toList ∧ Lx.isLine s.data.toList = true
theorem OwnL.form2 {w : World} {B : Nat} {v : Value} {ls : List Lx.Ln} (h : OwnL w B v ls) : ∃ a c, v = .slice a ls.length c := by
  obtain ⟨ps, h1, h2, h3⟩ := h
  exact own_slice h2
/-- what is read of the whole text -/
def LitR (B i : Nat) (F : List UInt8) (e : Ending) (w' : World) : Prop := ∃ g c a k, e = .returned (.tuple #[.slice (some ⟨g, 0, none⟩) 2 c, .int .i64 0]) ∧ 2 ≤ c ∧ g < w'.heap.size ∧ w'.cell? ⟨g, 1, none⟩ = some (.int .i64 i) ∧ w'.cell? ⟨g, 3, none⟩ = some (.string (str F)) ∧ w'.cell? ⟨g, 6, none⟩ = some (.slice a 3 k) ∧ w'.cell? ⟨g, 7, none⟩ = some (.string ⟨#[]⟩) ∧ B ≤ w'.heap.size
theorem lit_read (X : ByteArray) (i : Nat) (F : List UInt8) (w : World) (hE : Env w) (hX : X.size ≤ 50000) (hr : Lx.read X.data.toList = .ok [⟨0, i, [⟨0, [97], i⟩, ⟨11, [], i + 1⟩, ⟨13, [], i + 3⟩], F⟩, ⟨0, i, [⟨0, [98], i⟩, ⟨11, [], i + 1⟩, ⟨0, [99], i + 3⟩], []⟩]) :
    Calls Tryz.prog 10 #[.string X] w fun e w' => LitR w.heap.size i F e w' ∧ Below w.heap.size w w' := by
  have c1 := readLoop X w hX hE
  rw [hr] at c1
  refine c1.mono ?_
  rintro e w1 ⟨⟨v, rfl, hv⟩, hb1⟩
  refine ⟨?_, hb1⟩
  obtain ⟨g, c, rfl, hc, hg, hcl⟩ := hv.cells (by simp)
  obtain ⟨_, d1, _, d3⟩ := hcl 0 (by simp)
  obtain ⟨_, _, ⟨a, k, e2, _⟩, e3⟩ := hcl 1 (by simp)
  exact ⟨g, c, a, k, rfl, hc, hg, d1, d3, e2, e3, hb1.size⟩
/-! ### the law -/

set_option maxHeartbeats 4000000 in
set_option maxRecDepth 100000 in
theorem lit_some (b o c m n : Nat) (ls : List ByteArray) (w : World) (hE : Env w) (hb : b < w.heap.size) (hne : 0 < ls.length) (hc : ls.length ≤ c) (hcm : c ≤ 9223372036854775807) (hm : m < 256) (hn : n < 256)
    (hcells : ∀ (j : Nat) x, ls[j]? = some x → w.cell? ⟨b, o + j, none⟩ = some (.string x)) (hsz : ∀ s ∈ ls, s.size ≤ 1100000) (hl : ls.length ≤ 1100000) :
    Calls Tryz.prog 5 #[.slice (some ⟨b, o, none⟩) ls.length c, .int .u8 m, .int .u8 n] w fun e w' => e = .returned (.bool true) ∧ Below w.heap.size w w' := by
  have cA := Lib.hid (alive_any w hE)
  have HE := Lib.hid hE
  have hrem : (m : Int).tmod 6 = ((m % 6 : Nat) : Int) := by rw [Int.tmod_eq_emod_of_nonneg (by omega)]; omega
  have hrem2 : (n : Int).tmod 6 = ((n % 6 : Nat) : Int) := by rw [Int.tmod_eq_emod_of_nonneg (by omega)]; omega
  have hi6 : m % 6 < 6 := Nat.mod_lt m (by omega)
  have hz6 : n % 6 < 6 := Nat.mod_lt n (by omega)
  generalize m % 6 = i at *
  generalize n % 6 = z at *
  have cR1 := Lib.hid (fun w => Tryz.strings_Repeat ⟨#[32]⟩ i w (by omega) (by show 1 * i ≤ _; omega))
  have cR2 := fun w => Tryz.strings_Repeat ⟨#[32]⟩ (1 + z) w (by omega) (by show 1 * (1 + z) ≤ _; omega)
  rw [show ((1 + z : Nat) : Int) = 1 + (z : Int) by omega] at cR2
  obtain ⟨AH, hAH⟩ : ∃ R : ByteArray, R = ⟨(Lib.repeatL (⟨#[32]⟩ : ByteArray).data.toList i).toArray⟩ := ⟨_, rfl⟩
  obtain ⟨R2, hR2⟩ : ∃ R : ByteArray, R = ⟨(Lib.repeatL (⟨#[32]⟩ : ByteArray).data.toList (1 + z)).toArray⟩ := ⟨_, rfl⟩
  rw [← hAH] at cR1
  rw [← hR2] at cR2
  have CR2 := Lib.hid cR2
  have HAd : Hid (AH.data.toList = Lib.repeatL [32] i) := by show _ = _; rw [hAH]
  have HRd : Hid (R2.data.toList = Lib.repeatL [32] (1 + z)) := by show _ = _; rw [hR2]
  have hAs : AH.size = i := by rw [Lib.size_eq, HAd.out, Lx.rep_len]
  have hRs : R2.size = 1 + z := by rw [Lib.size_eq, HRd.out, Lx.rep_len]
  have hAs6 : AH.size ≤ 6 := by omega
  have hRs7 : R2.size ≤ 7 := by omega
  have bi : ((i : Int) == (AH.size : Int)) = true := beq_iff_eq.2 (by omega)
  have HB : Hid ((AH ++ R2).data.toList = Lib.repeatL [32] (i + (1 + z))) := by show _ = _; rw [app4, HAd.out, HRd.out, Lx.rep_add]
  have hBs : (AH ++ R2).size ≤ 13 := by rw [Lib.size_eq, app4, List.length_append, ba_len, ba_len]; omega
  have HX0 : Hid ((AH ++ (⟨#[97, 58, 32, 124, 10]⟩ : ByteArray)).data.toList = Lib.repeatL [32] i ++ (Lx.barL ++ [10])) := by show _ = _; rw [app4, HAd.out]; rfl
  have hX0s : (AH ++ (⟨#[97, 58, 32, 124, 10]⟩ : ByteArray)).size ≤ 100 := by rw [Lib.size_eq, app4, List.length_append, ba_len]; show AH.size + 5 ≤ _; omega
  have HC := Lib.hid hcells
  have HS := Lib.hid hsz
  clear hcells hsz hE hAH hR2 hRs cR2
  go_enter Tryz.func5, Tryz.ntmps5
  go_wp2_with (first
    | (go_at_call 8; refine cA.out.mono ?_; rintro e w1 ⟨rfl, hb1⟩)
    | (go_at_call 15; go_fit (cR1.out _); rintro e w2 ⟨rfl, hb2⟩)
    | (go_at_call 15; go_fit (CR2.out _); rintro e w3 ⟨rfl, hb3⟩))
  have hbw3 := bthen (bthen hb1 hb2) hb3
  clear cA cR1 CR2
  generalize AH ++ R2 = BK at *
  generalize AH ++ (⟨#[97, 58, 32, 124, 10]⟩ : ByteArray) = X0 at *
  go_loopw [9, 10, 32] (fun t y k wr => ∃ (j : Nat) (X Y : ByteArray), j ≤ ls.length ∧ k = .int .i64 j ∧ t = .string X ∧ y = .string Y ∧ X.size ≤ 100 + j * 1100014 ∧ Y.size ≤ j * 1100001 ∧ Below w.heap.size w wr ∧ Hid (X.data.toList = X0.data.toList ++ Lx.flat ((byts (ls.take j)).map (Lib.repeatL [32] (i + (1 + z)) ++ ·))) ∧ Hid (Y.data.toList = Lx.flat (byts (ls.take j))) ∧ Hid (Below0 (ls.take j))) (fun _ _ k _ => ls.length - (intOf k).toNat)
  case atStart => exact ⟨0, X0, ⟨#[]⟩, by omega, rfl, rfl, rfl, by omega, by decide, hbw3, by show _ = _; simp [byts, Lx.flat], rfl, fun s hs => by cases hs⟩
  case round =>
    obtain ⟨j, X, Y, hj, rfl, rfl, rfl, hXs, hYs, hbw, HT, HY, HF⟩ := hrel
    by_cases hlt : j < ls.length
    · have c0 := (hbw.cell (p := ⟨b, o + j, none⟩) hb).trans (HC.out j ls[j] (List.getElem?_eq_getElem hlt))
      have hs := HS.out _ (List.getElem_mem hlt)
      have cS := strange_any ls[j] wr hs
      have cT := Lib.hid (fun w => Tryz.strings_TrimLeft_one ls[j] 32 (by decide) w)
      have HB1 := Lib.hid (byts_snoc2 ls j hlt)
      have HB2 := Lib.hid (List.take_succ_eq_append_getElem hlt)
      have hi0 : (0 : Int) ≤ (j : Int) := Int.natCast_nonneg _
      have hi1 : (j : Int) < (ls.length : Int) := by omega
      generalize ls[j] = s at *
      cases hst : Lx.isLine s.data.toList with
      | false =>
        rw [hst] at cS
        have CS := Lib.hid cS
        clear cS hst
        go_wp2_with (go_at_call 16; refine CS.out.mono ?_; rintro e w4 ⟨rfl, hb4⟩)
        go_ret
        exact ⟨rfl, hbw.trans (hb4.mono hbw.size)⟩
      | true =>
        rw [hst] at cS
        have CS := Lib.hid cS
        clear cS
        have htr := Lx.blanks_trim s.data.toList
        rw [ba_len] at htr
        obtain ⟨TR, hTR⟩ : ∃ TR : ByteArray, TR = ⟨(Lib.trimLeftB s.data.toList 32).toArray⟩ := ⟨_, rfl⟩
        rw [← hTR] at cT
        have hTs : TR.size = (Lib.trimLeftB s.data.toList 32).length := by rw [hTR]; rfl
        rw [← hTs] at htr
        clear hTR hTs
        rcases Nat.eq_zero_or_pos TR.size with ht0 | ht0
        · have e1 : TR.toList.isEmpty = true := by rw [Lib.toList_data, ba_zero TR ht0]; rfl
          have e2 : TR.toList = [] := by rw [Lib.toList_data, ba_zero TR ht0]
          clear hst htr ht0
          go_wp2_with (first
            | (go_at_call 16; refine CS.out.mono ?_; rintro e w4 ⟨rfl, hb4⟩)
            | (go_at_call 17; refine (cT.out _).mono ?_; rintro e w' ⟨rfl, rfl⟩))
          go_ret
          exact ⟨rfl, hbw.trans (hb4.mono hbw.size)⟩
        · have e1 := ba_isEmpty TR ht0
          have e2 := ba_notnil TR ht0
          have hs0 : 0 < s.size := by omega
          have hi2 : (0 : Int) < (s.size : Int) := by omega
          cases hsp : ((s[0].toNat : Int) == 32) with
          | true =>
            clear hst htr
            go_wp2_with (first
              | (go_at_call 16; refine CS.out.mono ?_; rintro e w4 ⟨rfl, hb4⟩)
              | (go_at_call 17; refine (cT.out _).mono ?_; rintro e w' ⟨rfl, rfl⟩))
            go_ret
            exact ⟨rfl, hbw.trans (hb4.mono hbw.size)⟩
          | false =>
            have HFi : Hid (Lx.Firm s.data.toList ∧ Lx.isLine s.data.toList = true) := ⟨⟨s[0], s.data.toList.drop 1, by have := Sc.drop_cons s 0 hs0; rw [List.drop_zero] at this; exact this, fun e => by rw [e] at hsp; exact absurd hsp (by decide)⟩, hst⟩
            clear hst htr
            go_wp2_with (first
              | (go_at_call 16; refine CS.out.mono ?_; rintro e w4 ⟨rfl, hb4⟩)
              | (go_at_call 17; refine (cT.out _).mono ?_; rintro e w' ⟨rfl, rfl⟩))
            go_roundw
            case rel =>
              refine ⟨j + 1, X ++ (BK ++ s ++ ⟨#[10]⟩), Y ++ (s ++ ⟨#[10]⟩), by omega, by go_num, rfl, rfl, ?_, ?_, hbw.trans (hb4.mono hbw.size), ?_, ?_, ?_⟩
              · rw [Lib.size_eq]; simp only [app4, List.length_append, ba_len]; show X.size + (BK.size + s.size + 1) ≤ _; omega
              · rw [Lib.size_eq]; simp only [app4, List.length_append, ba_len]; show Y.size + (s.size + 1) ≤ _; omega
              · show _ = _
                rw [HB1.out, List.map_append, List.map_cons, List.map_nil, Lx.flat_snoc, app4, app4, app4, HT.out, HB.out]; simp
              · show _ = _
                rw [HB1.out, Lx.flat_snoc, app4, app4, HY.out]
              · show Below0 _
                rw [HB2.out]
                intro q hq
                rcases List.mem_append.1 hq with hq | hq
                · exact HF.out q hq
                · simp only [List.mem_cons, List.not_mem_nil, or_false] at hq
                  subst hq
                  exact HFi.out
            case measure => simp [intOf]; omega
    · obtain rfl : j = ls.length := by omega
      rw [List.take_of_length_le (Nat.le_refl _)] at HT HF HY
      by_cases hbig : 2000 < X.size
      · have b1 : decide ((2000 : Int) < (X.size : Int)) = true := decide_eq_true (by omega)
        clear HT HF HY
        go_wp2
        go_ret
        exact ⟨rfl, hbw⟩
      · have b1 : decide ((2000 : Int) < (X.size : Int)) = false := decide_eq_false (by omega)
        have hread : Lx.read (X ++ (⟨#[10, 10]⟩ : ByteArray) ++ AH ++ (⟨#[98, 58, 32, 99, 10]⟩ : ByteArray)).data.toList = .ok [⟨0, i, [⟨0, [97], i⟩, ⟨11, [], i + 1⟩, ⟨13, [], i + 3⟩], Lx.flat (byts ls)⟩, ⟨0, i, [⟨0, [98], i⟩, ⟨11, [], i + 1⟩, ⟨0, [99], i + 3⟩], []⟩] := by
          rw [← Lx.read_literal i (i + (1 + z)) hi6 (by omega) (byts ls) (fun q hq => by obtain ⟨t, ht, rfl⟩ := List.mem_map.1 hq; exact HF.out t ht) (fun q hq => by obtain ⟨t, ht, rfl⟩ := List.mem_map.1 hq; exact Lx.isLine_no10 _ (HF.out t ht).2)]
          rw [app4, app4, app4, HT.out, HX0.out, HAd.out]
          simp [Lx.barL, Lx.endL]
        have hXX : (X ++ (⟨#[10, 10]⟩ : ByteArray) ++ AH ++ (⟨#[98, 58, 32, 99, 10]⟩ : ByteArray)).size ≤ 50000 := by
          rw [Lib.size_eq]
          simp only [app4, List.length_append, ba_len]
          show X.size + 2 + AH.size + 5 ≤ 50000
          omega
        have R1 := Lib.hid (fun w hE => lit_read _ i _ w hE hXX hread)
        obtain rfl : Y = str (Lx.flat (byts ls)) := by rw [← HY.out, str_self]
        clear hread hXX HY HF HT HX0 HAd hAs
        generalize Lx.flat (byts ls) = F at *
        go_wp2_with (go_at_call 10; refine (R1.out _ (HE.out.below hbw)).mono ?_; rintro e w6 ⟨⟨g, gc, ga, gk, rfl, hg1, hg2, d1, d3, d6, d7, _⟩, hb6⟩)
        go_ret
        exact ⟨rfl, hbw.trans (hb6.mono hbw.size)⟩

set_option maxHeartbeats 4000000 in
set_option maxRecDepth 100000 in
theorem lit_nil (a : Option Addr) (c m n : Nat) (w : World) (hE : Env w) (_ : (a = none ∧ c = 0) ∨ ∃ A, a = some A) (_ : c ≤ 9223372036854775807) (hm : m < 256) (hn : n < 256) :
    Calls Tryz.prog 5 #[.slice a 0 c, .int .u8 m, .int .u8 n] w fun e w' => e = .returned (.bool true) ∧ Below w.heap.size w w' := by
  have cA := Lib.hid (alive_any w hE)
  have HE := Lib.hid hE
  have hrem : (m : Int).tmod 6 = ((m % 6 : Nat) : Int) := by rw [Int.tmod_eq_emod_of_nonneg (by omega)]; omega
  have hrem2 : (n : Int).tmod 6 = ((n % 6 : Nat) : Int) := by rw [Int.tmod_eq_emod_of_nonneg (by omega)]; omega
  have hi6 : m % 6 < 6 := Nat.mod_lt m (by omega)
  have hz6 : n % 6 < 6 := Nat.mod_lt n (by omega)
  generalize m % 6 = i at *
  generalize n % 6 = z at *
  have cR1 := Lib.hid (fun w => Tryz.strings_Repeat ⟨#[32]⟩ i w (by omega) (by show 1 * i ≤ _; omega))
  have cR2 := fun w => Tryz.strings_Repeat ⟨#[32]⟩ (1 + z) w (by omega) (by show 1 * (1 + z) ≤ _; omega)
  rw [show ((1 + z : Nat) : Int) = 1 + (z : Int) by omega] at cR2
  obtain ⟨AH, hAH⟩ : ∃ R : ByteArray, R = ⟨(Lib.repeatL (⟨#[32]⟩ : ByteArray).data.toList i).toArray⟩ := ⟨_, rfl⟩
  obtain ⟨R2, hR2⟩ : ∃ R : ByteArray, R = ⟨(Lib.repeatL (⟨#[32]⟩ : ByteArray).data.toList (1 + z)).toArray⟩ := ⟨_, rfl⟩
  rw [← hAH] at cR1
  rw [← hR2] at cR2
  have CR2 := Lib.hid cR2
  have HAd : Hid (AH.data.toList = Lib.repeatL [32] i) := by show _ = _; rw [hAH]
  have HRd : Hid (R2.data.toList = Lib.repeatL [32] (1 + z)) := by show _ = _; rw [hR2]
  have hAs : AH.size = i := by rw [Lib.size_eq, HAd.out, Lx.rep_len]
  have hRs : R2.size = 1 + z := by rw [Lib.size_eq, HRd.out, Lx.rep_len]
  have hAs6 : AH.size ≤ 6 := by omega
  have hRs7 : R2.size ≤ 7 := by omega
  have bi : ((i : Int) == (AH.size : Int)) = true := beq_iff_eq.2 (by omega)
  have HB : Hid ((AH ++ R2).data.toList = Lib.repeatL [32] (i + (1 + z))) := by show _ = _; rw [app4, HAd.out, HRd.out, Lx.rep_add]
  have hBs : (AH ++ R2).size ≤ 13 := by rw [Lib.size_eq, app4, List.length_append, ba_len, ba_len]; omega
  have HX0 : Hid ((AH ++ (⟨#[97, 58, 32, 124, 10]⟩ : ByteArray)).data.toList = Lib.repeatL [32] i ++ (Lx.barL ++ [10])) := by show _ = _; rw [app4, HAd.out]; rfl
  have hX0s : (AH ++ (⟨#[97, 58, 32, 124, 10]⟩ : ByteArray)).size ≤ 100 := by rw [Lib.size_eq, app4, List.length_append, ba_len]; show AH.size + 5 ≤ _; omega
  clear hE hAH hR2 hRs cR2
  go_enter Tryz.func5, Tryz.ntmps5
  go_wp2_with (first
    | (go_at_call 8; refine cA.out.mono ?_; rintro e w1 ⟨rfl, hb1⟩)
    | (go_at_call 15; go_fit (cR1.out _); rintro e w2 ⟨rfl, hb2⟩)
    | (go_at_call 15; go_fit (CR2.out _); rintro e w3 ⟨rfl, hb3⟩))
  have hbw3 := bthen (bthen hb1 hb2) hb3
  clear cA cR1 CR2
  clear HB hBs
  generalize AH ++ (⟨#[97, 58, 32, 124, 10]⟩ : ByteArray) = X0 at *
  refine wp_loop_rounds 1 ?_
  rw [rounds_succ]
  obtain ⟨Y, hY⟩ : ∃ Y : ByteArray, Y = ⟨#[]⟩ := ⟨_, rfl⟩
  have HY : Hid (Y.data.toList = Lx.flat (byts [])) := by show _ = _; rw [hY]; rfl
  have HT : Hid (X0.data.toList = X0.data.toList ++ Lx.flat ((byts []).map (Lib.repeatL [32] (i + (1 + z)) ++ ·))) := by show _ = _; simp [byts, Lx.flat]
  have HF : Hid (Below0 []) := fun s hs => by cases hs
  have hbw : Below w.heap.size w w3 := hbw3
  have b1 : decide ((2000 : Int) < (X0.size : Int)) = false := decide_eq_false (by omega)
  generalize X0 = X at *
  have hread : Lx.read (X ++ (⟨#[10, 10]⟩ : ByteArray) ++ AH ++ (⟨#[98, 58, 32, 99, 10]⟩ : ByteArray)).data.toList = .ok [⟨0, i, [⟨0, [97], i⟩, ⟨11, [], i + 1⟩, ⟨13, [], i + 3⟩], Lx.flat (byts [])⟩, ⟨0, i, [⟨0, [98], i⟩, ⟨11, [], i + 1⟩, ⟨0, [99], i + 3⟩], []⟩] := by
    rw [← Lx.read_literal i (i + (1 + z)) hi6 (by omega) (byts []) (fun q hq => by obtain ⟨t, ht, rfl⟩ := List.mem_map.1 hq; exact HF.out t ht) (fun q hq => by obtain ⟨t, ht, rfl⟩ := List.mem_map.1 hq; exact Lx.isLine_no10 _ (HF.out t ht).2)]
    rw [app4, app4, app4, HT.out, HX0.out, HAd.out]
    simp [Lx.barL, Lx.endL]
  have hXX : (X ++ (⟨#[10, 10]⟩ : ByteArray) ++ AH ++ (⟨#[98, 58, 32, 99, 10]⟩ : ByteArray)).size ≤ 50000 := by
    rw [Lib.size_eq]
    simp only [app4, List.length_append, ba_len]
    show X.size + 2 + AH.size + 5 ≤ 50000
    omega
  have R1 := Lib.hid (fun w hE => lit_read _ i _ w hE hXX hread)
  obtain rfl : Y = str (Lx.flat (byts [])) := by rw [← HY.out, str_self]
  clear hread hXX HY HF HT HX0 HAd hAs
  generalize Lx.flat (byts []) = F at *
  go_wp2_with (go_at_call 10; refine (R1.out _ (HE.out.below hbw)).mono ?_; rintro e w6 ⟨⟨g, gc, ga, gk, rfl, hg1, hg2, d1, d3, d6, d7, _⟩, hb6⟩)
  go_ret
  exact ⟨rfl, hbw.trans (hb6.mono hbw.size)⟩
end Go.Proofs.YtmhakkahclbbjaaGreatDoor
