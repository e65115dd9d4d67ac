/-
  Walk of the document's Single.
-/
import Derived.Test.YtlfmaeodkghbbaaDoorRh
import Derived.Test.YtlfmaeodkghbbaaDoorWl
namespace Go.Proofs.YtlfmaeodkghbbaaDoor
open Go.RowKit

/-- each quote twice, by characters -/
def dblN (l : List Nat) : List Nat := l.flatMap fun r => if r = 39 then [39, 39] else [r]
theorem dblN_snoc (l : List Nat) (r : Nat) : dblN (l ++ [r]) = dblN l ++ if r = 39 then [39, 39] else [r] := by
  unfold dblN; rw [List.flatMap_append]; simp
theorem dblN_len (l : List Nat) : (dblN l).length ≤ 2 * l.length := by
  induction l with
  | nil => simp [dblN]
  | cons r t ih =>
    unfold dblN at ih ⊢
    rw [List.flatMap_cons, List.length_append, List.length_cons]
    split
    · simp only [List.length_cons, List.length_nil]; omega
    · simp only [List.length_cons, List.length_nil]; omega
theorem dblN_ch (l : List Nat) (h : ∀ r ∈ l, Sc.isCh r) : ∀ r ∈ dblN l, Sc.isCh r := by
  intro r hr
  unfold dblN at hr
  rw [List.mem_flatMap] at hr
  obtain ⟨x, hx, hr⟩ := hr
  split at hr
  · have : r = 39 := by simpa using hr
    rw [this]; unfold Sc.isCh; omega
  · have : r = x := by simpa using hr
    rw [this]; exact h x hx
theorem dbl_id (l : List UInt8) (h : ∀ b ∈ l, b.toNat ≠ 39) : Sc.dbl l = l := by
  induction l with
  | nil => rfl
  | cons b t ih =>
    have hb : ¬ b = 39 := fun e => h b (by simp) (by rw [e]; rfl)
    simp only [Sc.dbl, if_neg hb]
    rw [ih fun x hx => h x (by simp [hx])]
theorem encs_dblN (l : List Nat) (h : ∀ r ∈ l, Sc.isCh r) : Sc.encs (dblN l) = Sc.dbl (Sc.encs l) := by
  induction l with
  | nil => rfl
  | cons r t ih =>
    have e : dblN (r :: t) = (if r = 39 then [39, 39] else [r]) ++ dblN t := by unfold dblN; rw [List.flatMap_cons]
    rw [e, Sc.encs_append, ih fun x hx => h x (by simp [hx]), Sc.encs_cons, Sc.dbl_append]
    congr 1
    by_cases hr : r = 39
    · subst hr; decide
    · rw [if_neg hr, Sc.encs_cons, Sc.encs_nil, List.append_nil, dbl_id]
      intro b hb h39
      have := mem_enc r b (h r (by simp)) hb (by omega)
      omega
theorem sq_encs (l : List Nat) (h : ∀ r ∈ l, Sc.isCh r) : Sc.encs (39 :: dblN l ++ [39]) = Sc.sq (Sc.encs l) := by
  rw [Sc.encs_append, Sc.encs_cons, encs_dblN l h]
  have e : Sc.enc 39 = [39] := by decide
  rw [Sc.encs_cons, e]
  simp [Sc.sq, Sc.encs]

set_option maxHeartbeats 2000000 in
set_option maxRecDepth 100000 in
/-- the document's Single is the program's -/
theorem singleR_any (s : ByteArray) (w : World) (hs : s.size ≤ 10000) :
    Calls Tryd.prog 12 #[.string s] w fun e w' => e = txtR (singleOf s.data.toList) ∧ Below w.heap.size w w' := by
  have CC := Lib.hid (fun w1 => chars_any s w1 (by omega))
  unfold singleOf oneLineB
  by_cases hv : Lib.validD s.data.toList = true
  · rw [hv, Bool.true_and]
    have hco : Sc.charsOf s.data.toList = some (Sc.rns s.data.toList) := by unfold Sc.charsOf; rw [if_pos hv]
    rw [hco] at CC
    have HC := Lib.hid (Sc.ch_rns s.data.toList)
    have hrl := rns_len s.data.toList.length s.data.toList (Nat.le_refl _)
    rw [← Lib.size_eq] at hrl
    obtain ⟨Z, hZ⟩ : ∃ Z, Sc.sq s.data.toList = Z := ⟨_, rfl⟩
    have HZ : Hid (Sc.encs (39 :: dblN (Sc.rns s.data.toList) ++ [39]) = Z) := by
      show _ = _
      rw [sq_encs _ HC.out, Sc.encs_rns _ hv, hZ]
    rw [hZ]
    clear hv hco hZ
    generalize Sc.rns s.data.toList = l at *
    obtain ⟨ANS, hANS⟩ : ∃ ANS, lineB l = ANS := ⟨_, rfl⟩
    have HA : Hid (lineB (l.drop 0) = ANS) := hANS
    rw [hANS]
    clear hANS
    go_enter Tryd.func12, Tryd.ntmps12
    go_wp2_with fail
    refine (CC.out _).mono ?_
    rintro e w1 ⟨v, rfl, ho, hb⟩
    clear CC
    obtain ⟨a, cap, hv, hc1, hc2, hrd⟩ := ho.form
    simp only [Option.getD_some] at hv hc1 hrd
    subst hv
    have HR := Lib.hid hrd
    clear ho hrd
    go_wp2
    go_loopw [6, 7] (fun v i wr => ∃ (k : Nat), k ≤ l.length ∧ i = .int .i64 k ∧ OwnI wr w1.heap.size v (39 :: dblN (l.take k)) ∧ Below w1.heap.size w1 wr ∧ Hid (lineB (l.drop k) = ANS)) (fun _ i _ => l.length - (intOf i).toNat)
    case atStart => exact ⟨0, by omega, rfl, World.ownsRow_lit (base := w1.heap.size) (e := 3) (size := 1) w1 #[Value.int IntKind.i64 39] 1 (Nat.le_refl _) (by decide) rfl, (Below.refl _ _).alloc (Nat.le_refl _) _, HA⟩
    case round =>
      obtain ⟨k, hk, rfl, hown, hbw, HK⟩ := hrel
      clear HA
      have hsz := hbw.size
      have hdl := dblN_len (l.take k)
      rw [List.length_take] at hdl
      have hdl2 : (dblN (l.take k)).length ≤ 20000 := by omega
      clear hdl
      by_cases hlt : k < l.length
      · obtain ⟨g, off, rfl, hg, hcb⟩ := HR.out (by omega)
        have ck := (hbw.cell (p := ⟨g, off + k, none⟩) hg).trans (hcb k hlt)
        have HS : Hid ((lineR l[k] && lineB (l.drop (k + 1))) = ANS) := by
          have := HK.out
          rw [List.drop_eq_getElem_cons hlt] at this
          unfold lineB at this ⊢; rw [List.all_cons] at this
          exact this
        have HT : Hid (dblN (l.take (k + 1)) = dblN (l.take k) ++ if l[k] = 39 then [39, 39] else [l[k]]) := by
          show _ = _
          rw [take_snoc l k hlt, dblN_snoc]
        clear HK hcb
        generalize l[k] = y at *
        have cM := Lib.hid (fun w1 => mayR_any (y : Int) w1)
        obtain ⟨b, hb1⟩ : ∃ b, Sc.mayB (y : Int) = b := ⟨_, rfl⟩
        by_cases hbad : lineR y = false
        · have hA : ANS = false := by have := HS.out; rw [hbad] at this; exact this.symm
          subst hA
          unfold lineR at hbad
          rw [hb1] at hbad cM
          clear HS HT hb1
          cases b
          · clear hbad
            go_wp2_with (go_at_call 30; refine (cM.out _).mono ?_; rintro e w' ⟨rfl, rfl⟩)
            go_ret2
            exact ⟨rfl, hb.trans (hbw.mono hb.size)⟩
          · have hor : y = 10 ∨ y = 13 := by
              simp at hbad; omega
            clear hbad
            rcases hor with rfl | rfl
            · go_wp2_with (go_at_call 30; refine (cM.out _).mono ?_; rintro e w' ⟨rfl, rfl⟩)
              go_ret2
              exact ⟨rfl, hb.trans (hbw.mono hb.size)⟩
            · go_wp2_with (go_at_call 30; refine (cM.out _).mono ?_; rintro e w' ⟨rfl, rfl⟩)
              go_ret2
              exact ⟨rfl, hb.trans (hbw.mono hb.size)⟩
        · have hgood : lineR y = true := by simpa using hbad
          have HN : Hid (lineB (l.drop (k + 1)) = ANS) := by have := HS.out; rw [hgood, Bool.true_and] at this; exact this
          unfold lineR at hgood
          rw [hb1] at hgood cM
          simp only [Bool.and_eq_true, Bool.not_eq_true', decide_eq_false_iff_not] at hgood
          obtain ⟨⟨rfl, h10⟩, h13⟩ := hgood
          have b10 : ((y : Int) == 10) = false := beq_eq_false_iff_ne.2 (by omega)
          have b13 : ((y : Int) == 13) = false := beq_eq_false_iff_ne.2 (by omega)
          clear HS hbad hb1 h10 h13
          by_cases h39 : y = 39
          · have HT2 : Hid (39 :: dblN (l.take (k + 1)) = 39 :: dblN (l.take k) ++ [39] ++ [y]) := by
              show _ = _
              rw [HT.out, if_pos h39, h39]; simp
            have b39 : ((y : Int) == 39) = true := beq_iff_eq.2 (by omega)
            clear HT h39
            generalize dblN (l.take k) = D at *
            go_wp2_with (first | (go_at_call 30; refine (cM.out _).mono ?_; rintro e w' ⟨rfl, rfl⟩) | (at_builtin; refine wpList_pushI rfl (.tmp 45) (.tmp 46) rfl w1.heap.size _ (39 :: D) [39] wr _ _ _ rfl _ rfl rfl rfl rfl hown (by simp; omega) hsz ?_; intro v' w' ho' hk' hB'; have ck2 := (hk'.cell (p := ⟨g, off + k, none⟩) hg).trans ck) | (at_builtin; refine wpList_pushI rfl (.tmp 48) (.tmp 53) rfl w1.heap.size _ (39 :: D ++ [39]) [y] w' _ _ _ rfl _ rfl rfl rfl rfl ho' (by simp; omega) hB' ?_; intro v2 w2 ho2 hk2 hB2))
            go_roundw
            case rel => exact ⟨k + 1, by omega, by go_num, by rw [HT2.out]; exact ho2, hbw.trans (hk'.trans hk2), HN⟩
            case measure => simp [intOf]; omega
          · have HT2 : Hid (39 :: dblN (l.take (k + 1)) = 39 :: dblN (l.take k) ++ [y]) := by
              show _ = _
              rw [HT.out, if_neg h39]; simp
            have b39 : ((y : Int) == 39) = false := beq_eq_false_iff_ne.2 (by omega)
            clear HT h39
            generalize dblN (l.take k) = D at *
            go_wp2_with (first | (go_at_call 30; refine (cM.out _).mono ?_; rintro e w' ⟨rfl, rfl⟩) | (at_builtin; refine wpList_pushI rfl (.tmp 48) (.tmp 53) rfl w1.heap.size _ (39 :: D) [y] wr _ _ _ rfl _ rfl rfl rfl rfl hown (by simp; omega) hsz ?_; intro v' w' ho' hk' hB'))
            go_roundw
            case rel => exact ⟨k + 1, by omega, by go_num, by rw [HT2.out]; exact ho', hbw.trans hk', HN⟩
            case measure => simp [intOf]; omega
      · have hk2 : l.take k = l := List.take_of_length_le (by omega)
        rw [hk2] at hown hdl2
        have hA : ANS = true := by
          have := HK.out; rw [List.drop_eq_nil_of_le (by omega)] at this; exact this.symm
        subst hA
        have hch2 : ∀ r ∈ 39 :: dblN l ++ [39], Sc.isCh r := by
          intro r hr
          simp only [List.cons_append, List.mem_cons, List.mem_append, List.not_mem_nil, or_false] at hr
          rcases hr with rfl | hr | rfl
          · unfold Sc.isCh; omega
          · exact dblN_ch l HC.out r hr
          · unfold Sc.isCh; omega
        have hll : (39 :: dblN l ++ [39]).length ≤ 100000 := by simp; omega
        generalize dblN l = D at *
        have HH := Lib.hid hch2
        clear HK hk2 hch2
        go_wp2_with (at_builtin; refine wpList_pushI rfl (.tmp 57) (.tmp 58) rfl w1.heap.size _ (39 :: D) [39] wr _ _ _ rfl _ rfl rfl rfl rfl hown (by simp; omega) hsz ?_; intro v' w' ho' hk' hB')
        obtain ⟨a', cap', hv', hc1', hc2', hrd'⟩ := ho'.form
        subst hv'
        have CT := Lib.hid (text_any a' (39 :: D ++ [39]) cap' w' hrd' HH.out hll)
        rw [HZ.out] at CT
        clear ho' hrd' hc1' hc2'
        go_wp2_with fail
        refine CT.out.mono ?_
        rintro e w2 ⟨rfl, h2⟩
        clear CT
        go_wp2
        go_ret2
        exact ⟨rfl, hb.trans (((hbw.trans hk').trans (h2.mono hB')).mono hb.size)⟩
  · have hvf : Lib.validD s.data.toList = false := Bool.eq_false_iff.2 hv
    rw [hvf, Bool.false_and, if_neg (by decide)]
    have hco : Sc.charsOf s.data.toList = none := by unfold Sc.charsOf; rw [if_neg hv]
    rw [hco] at CC
    clear hv hvf hco
    go_enter Tryd.func12, Tryd.ntmps12
    go_wp2_with fail
    refine (CC.out _).mono ?_
    rintro e w1 ⟨v, rfl, ho, hb⟩
    clear CC
    obtain ⟨a, cap, hv, hc1, hc2, hrd⟩ := ho.form
    simp only [Option.getD_none, List.length_nil] at hv
    subst hv
    clear ho hrd
    go_wp2
    go_loop [7] (fun i => i = .int .i64 0) (fun _ => 0)
    case atStart => rfl
    case round =>
      subst hrel
      go_wp2
      go_ret2
      exact ⟨rfl, hb.trans (((Below.refl _ _).alloc (Nat.le_refl _) _).mono hb.size)⟩
end Go.Proofs.YtlfmaeodkghbbaaDoor
