/-
  Plain mathematics: Quote and Unquote.
-/
import Derived.Test.YtnlbnnnhmdjciaaDoorWq
namespace Go.Proofs.YtnlbnnnhmdjciaaDoor
theorem mem_enc (r : Nat) (b : UInt8) (hc : Sc.isCh r) (h : b ∈ Sc.enc r) (hb : b.toNat < 128) : r = b.toNat := by
  unfold Sc.isCh at hc
  by_cases h1 : r ≤ 127
  · rw [Sc.enc1 r h1] at h
    have : b = UInt8.ofNat r := by simpa using h
    rw [this, Sc.toNat_of r (by omega)]
  · exfalso
    by_cases h2 : r ≤ 2047
    · rw [Sc.enc2 r (by omega) h2] at h
      simp only [List.mem_cons, List.not_mem_nil, or_false] at h
      rcases h with rfl | rfl <;> rw [Sc.toNat_of _ (by omega)] at hb <;> omega
    · by_cases h3 : r ≤ 65535
      · rw [Sc.enc3 r (by omega)] at h
        simp only [List.mem_cons, List.not_mem_nil, or_false] at h
        rcases h with rfl | rfl | rfl <;> rw [Sc.toNat_of _ (by omega)] at hb <;> omega
      · rw [Sc.enc4 r (by omega) (by omega)] at h
        simp only [List.mem_cons, List.not_mem_nil, or_false] at h
        rcases h with rfl | rfl | rfl | rfl <;> rw [Sc.toNat_of _ (by omega)] at hb <;> omega
/-- a byte of ASCII in a text is a character of it -/
theorem mem_text (l : List UInt8) (hv : Lib.validD l = true) (b : UInt8) (h : b ∈ l) (hb : b.toNat < 128) : b.toNat ∈ Sc.rns l := by
  rw [← Sc.encs_rns l hv] at h
  obtain ⟨r, hr, hm⟩ := List.mem_flatMap.1 h
  have := mem_enc r b (Sc.ch_rns l r hr) hm hb
  rwa [← this]
open Go.Lib
theorem take_high (l : List UInt8) (h : 128 ≤ (l.getD 0 0).toNat) : ∀ b ∈ l.take (Lib.decodeL l).2, 128 ≤ b.toNat := by
  have hN := Lib.decodeL_N l
  intro b hb
  obtain ⟨j, hj, rfl⟩ := List.getElem_of_mem hb
  rw [List.length_take] at hj
  rw [List.getElem_take]
  have hg : l[j] = l.getD j 0 := by simp [List.getD, (show j < l.length by omega)]
  rw [hg]
  rcases Lib.decodeN_shape l.length (l.getD 0 0).toNat (l.getD 1 0).toNat (l.getD 2 0).toNat (l.getD 3 0).toNat with ⟨h1, e⟩ | ⟨h1, h2, h3, h4, e⟩ | ⟨h1, h2, h3, h4, h5, h6, e⟩ | ⟨h1, h2, h3, h4, h5, h6, h7, e⟩ | e
  all_goals rw [hN, e] at hj; simp only at hj
  · omega
  · match j, hj with
    | 0, _ => exact h
    | 1, _ => omega
    | _ + 2, hj => exact absurd hj (by omega)
  · match j, hj with
    | 0, _ => exact h
    | 1, _ => omega
    | 2, _ => omega
    | _ + 3, hj => exact absurd hj (by omega)
  · match j, hj with
    | 0, _ => exact h
    | 1, _ => omega
    | 2, _ => omega
    | 3, _ => omega
    | _ + 4, hj => exact absurd hj (by omega)
  · match j, hj with
    | 0, _ => exact h
    | _ + 1, hj => exact absurd hj (by omega)


theorem valid_app (a b : List UInt8) (h : Lib.validD a = true) : Lib.validD (a ++ b) = Lib.validD b := by
  rw [← Sc.encs_rns a h]
  have : ∀ rs : List Nat, (∀ r ∈ rs, Sc.isCh r) → Lib.validD (Sc.encs rs ++ b) = Lib.validD b := by
    intro rs
    induction rs with
    | nil => intro _; rfl
    | cons r t ih =>
      intro hc
      rw [Sc.encs_cons, List.append_assoc, Sc.valid_enc r _ (hc r (by simp)), ih fun x hx => hc x (by simp [hx])]
  exact this _ (Sc.ch_rns a)
theorem valid_asc (l : List UInt8) (h : ∀ b ∈ l, b.toNat < 128) : Lib.validD l = true := by
  have := Lib.validD_ascii l.length l (by simpa using h)
  rw [this]; simp [Lib.validD_nil]
theorem unq_raw (m : List UInt8) : ∀ bs : List UInt8, (∀ b ∈ bs, b.toNat ≠ 34 ∧ b.toNat ≠ 10 ∧ b.toNat ≠ 92) → unq (bs ++ m) = (unq m).map (bs ++ ·)
  | [], _ => by simp
  | b :: t, h => by
    obtain ⟨h1, h2, h3⟩ := h b (by simp)
    rw [List.cons_append, unq_cons, if_neg (by omega), if_neg h3, unq_raw m t fun x hx => h x (by simp [hx]), Option.map_map]
    congr 1
theorem digB_asc (b : UInt8) (d : Nat) (h : Sc.digB b = some d) : b.toNat < 128 := by
  unfold Sc.digB at h
  repeat' split at h
  all_goals first | omega | cases h
theorem hexNum_asc : ∀ (l : List UInt8) (n m : Nat), hexNum l n = some m → ∀ b ∈ l, b.toNat < 128
  | [], _, _, _, b, hb => by cases hb
  | c :: t, n, m, h, b, hb => by
    cases hd : Sc.digB c with
    | none => simp [hexNum, hd] at h
    | some d =>
      simp only [hexNum, hd] at h
      rcases List.mem_cons.1 hb with rfl | hb
      · exact digB_asc _ d hd
      · exact hexNum_asc t _ m h b hb
/-- what numOf tells -/
theorem numOf_good (c : UInt8) (t : List UInt8) (d r z : Nat) (hc : c.toNat < 128) (h : numOf (c :: t) d = (r, z)) (hz : z ≠ 0) :
    Sc.isCh r ∧ z ≤ (c :: t).length ∧ ∀ b ∈ (c :: t).take z, b.toNat < 128 := by
  unfold numOf at h
  split at h
  · cases h; exact absurd rfl hz
  · rename_i hl
    cases hn : hexNum (((c :: t).drop 1).take d) 0 with
    | none => rw [hn] at h; cases h; exact absurd rfl hz
    | some n =>
      rw [hn] at h
      simp only at h
      split at h
      · rename_i hi
        cases h
        refine ⟨hi, by omega, fun b hb => ?_⟩
        rw [Nat.add_comm, List.take_succ_cons] at hb
        rcases List.mem_cons.1 hb with rfl | hb
        · exact hc
        · exact hexNum_asc _ _ _ hn b (by simpa using hb)
      · cases h; exact absurd rfl hz
theorem escOf_good (l : List UInt8) (r z : Nat) (h : escOf l = (r, z)) (hz : z ≠ 0) : Sc.isCh r ∧ z ≤ l.length ∧ ∀ b ∈ l.take z, b.toNat < 128 := by
  cases l with
  | nil => simp only [escOf] at h; cases h; exact absurd rfl hz
  | cons c t =>
    simp only [escOf] at h
    split at h
    · rename_i hc
      cases h
      exact ⟨by decide, by simp, fun b hb => by have : b = c := by simpa using hb
                                                rw [this]; omega⟩
    · split at h
      · exact numOf_good c t 2 r z (by omega) h hz
      · split at h
        · exact numOf_good c t 4 r z (by omega) h hz
        · split at h
          · exact numOf_good c t 8 r z (by omega) h hz
          · cases hn : charFrom 0 c.toNat with
            | none => rw [hn] at h; cases h; exact absurd rfl hz
            | some x =>
              rw [hn] at h
              cases h
              unfold charFrom at hn
              obtain ⟨p, hp, rfl⟩ := Option.map_eq_some_iff.1 hn
              have hm : p ∈ namedTab := List.mem_of_find?_eq_some hp
              have he : p.2 = c.toNat := by simpa using List.find?_some hp
              have : ∀ q ∈ namedTab, Sc.isCh q.1 ∧ q.2 < 128 := by decide
              have h2 := this p hm
              exact ⟨h2.1, by simp, fun b hb => by have : b = c := by simpa using hb
                                                   rw [this]; omega⟩
/-- WHAT IS READ FROM A TEXT IS A TEXT -/
theorem valid_unq : ∀ (n : Nat) (l t : List UInt8), l.length ≤ n → Lib.validD l = true → unq l = some t → Lib.validD t = true ∧ t.length ≤ 4 * l.length
  | 0, l, t, h, _, ht => by
    have : l = [] := List.eq_nil_of_length_eq_zero (by omega)
    subst this
    rw [unq_nil] at ht; cases ht; exact ⟨rfl, by simp⟩
  | n + 1, [], t, _, _, ht => by rw [unq_nil] at ht; cases ht; exact ⟨rfl, by simp⟩
  | n + 1, b :: l, t, h, hv, ht => by
    simp only [List.length_cons] at h
    by_cases hb : b.toNat < 128
    · have hvl : Lib.validD l = true := by rw [← Lib.validD_cons b l hb]; exact hv
      rw [unq_cons] at ht
      split at ht
      · cases ht
      · split at ht
        · split at ht
          · cases ht
          · rename_i hz
            obtain ⟨t', ht', rfl⟩ := Option.map_eq_some_iff.1 ht
            obtain ⟨g1, g2, g3⟩ := escOf_good l (escOf l).1 (escOf l).2 rfl hz
            have hvd : Lib.validD (l.drop (escOf l).2) = true := by rw [← Lib.validD_ascii _ l g3]; exact hvl
            have ih := valid_unq n _ t' (by rw [List.length_drop]; omega) hvd ht'
            refine ⟨by rw [Sc.valid_enc _ _ g1]; exact ih.1, ?_⟩
            have := Sc.enc_len (escOf l).1
            rw [List.length_drop] at ih
            simp only [List.length_append, List.length_cons]
            omega
        · obtain ⟨t', ht', rfl⟩ := Option.map_eq_some_iff.1 ht
          have ih := valid_unq n l t' (by omega) hvl ht'
          refine ⟨by rw [List.singleton_append, Lib.validD_cons b t' hb]; exact ih.1, ?_⟩
          simp only [List.length_append, List.length_cons, List.length_nil]
          omega
    · have hne : (b :: l) ≠ [] := by simp
      have hg : 128 ≤ ((b :: l).getD 0 0).toNat := by simp; omega
      have hth := take_high (b :: l) hg
      have hle := Lib.decodeL_le (b :: l) hne
      have hwd := Lib.decodeL_width (b :: l)
      rw [Lib.validD_step _ hne] at hv
      split at hv
      · cases hv
      · rename_i hbad
        have hed := Lib.encode_decode (b :: l) hne hbad
        have hch := Sc.decode_ch (b :: l)
        generalize Lib.decodeL (b :: l) = D at *
        have hsplit := List.take_append_drop D.2 (b :: l)
        rw [← hsplit, unq_raw _ _ (fun x hx => by have := hth x hx; omega)] at ht
        obtain ⟨t', ht', rfl⟩ := Option.map_eq_some_iff.1 ht
        have ih := valid_unq n _ t' (by rw [List.length_drop]; simp only [List.length_cons]; omega) hv ht'
        refine ⟨?_, ?_⟩
        · rw [← hed]; exact (Sc.valid_enc D.1 t' hch).trans ih.1
        · rw [List.length_append, List.length_take]
          rw [List.length_drop] at ih
          simp only [List.length_cons] at *
          omega
theorem valid_inner (l : List UInt8) (hv : Lib.validD l = true) (h2 : 2 ≤ l.length) (hh : l.head? = some 34) (hl : l.getLast? = some 34) : Lib.validD ((l.drop 1).take (l.length - 2)) = true := by
  obtain ⟨t, ht⟩ : ∃ t, l = 34 :: t := by
    cases l with
    | nil => simp at hh
    | cons a t => simp at hh; subst hh; exact ⟨t, rfl⟩
  subst ht
  rw [Lib.validD_cons 34 t (by decide)] at hv
  have ht : t ≠ [] := by intro e; subst e; simp at h2
  have hlt : t.getLast? = some 34 := by
    cases t with
    | nil => exact absurd rfl ht
    | cons a u => rw [List.getLast?_cons_cons] at hl; exact hl
  obtain ⟨u, hu⟩ := List.getLast?_eq_some_iff.1 hlt
  have e : ((34 :: t).drop 1).take ((34 :: t).length - 2) = u := by
    rw [hu]; simp
  rw [e]
  rw [hu] at hv
  -- a text with a byte of ASCII behind it: without that it is one, too
  have : ∀ (n : Nat) (u : List UInt8), u.length ≤ n → Lib.validD (u ++ [34]) = true → Lib.validD u = true := by
    intro n
    induction n with
    | zero => intro u h _; have : u = [] := List.eq_nil_of_length_eq_zero (by omega)
              subst this; rfl
    | succ n ih =>
      intro u h hv
      cases u with
      | nil => rfl
      | cons b u =>
        simp only [List.length_cons] at h
        by_cases hb : b.toNat < 128
        · rw [List.cons_append, Lib.validD_cons b _ hb] at hv
          rw [Lib.validD_cons b _ hb]
          exact ih u (by omega) hv
        · have hne : (b :: u) ++ [34] ≠ [] := by simp
          have hg : 128 ≤ (((b :: u) ++ [34]).getD 0 0).toNat := by simp; omega
          have hth := take_high _ hg
          have hle := Lib.decodeL_le _ hne
          have hwd := Lib.decodeL_width ((b :: u) ++ [34])
          rw [Lib.validD_step _ hne] at hv
          split at hv
          · cases hv
          · rename_i hbad
            have hed := Lib.encode_decode _ hne hbad
            have hch := Sc.decode_ch ((b :: u) ++ [34])
            generalize Lib.decodeL ((b :: u) ++ [34]) = D at *
            have hD : D.2 ≤ (b :: u).length := by
              rcases Nat.lt_or_ge (b :: u).length D.2 with hlt | hge
              · exfalso
                have hm : (34 : UInt8) ∈ ((b :: u) ++ [34]).take D.2 := by
                  rw [List.take_of_length_le (by simp only [List.length_append, List.length_cons, List.length_nil] at *; omega)]; simp
                have := hth 34 hm
                revert this; decide
              · exact hge
            have ed : ((b :: u) ++ [34]).drop D.2 = (b :: u).drop D.2 ++ [34] := List.drop_append_of_le_length hD
            have et : ((b :: u) ++ [34]).take D.2 = (b :: u).take D.2 := List.take_append_of_le_length hD
            rw [ed] at hv
            rw [et] at hed
            have := ih _ (by rw [List.length_drop]; simp only [List.length_cons]; omega) hv
            rw [← List.take_append_drop D.2 (b :: u), ← hed]
            exact (Sc.valid_enc D.1 _ hch).trans this
  exact this u.length u (Nat.le_refl _) hv
/-- what Unquote tells is a text -/
theorem unquote_valid (l t : List UInt8) (h : unquoteOf l = some t) : Lib.validD t = true ∧ t.length ≤ 4 * l.length := by
  unfold unquoteOf at h
  split at h
  · rename_i hc
    obtain ⟨hv, h2, hh, hl⟩ := hc
    have := valid_unq _ _ t (Nat.le_refl _) (valid_inner l hv h2 hh hl) h
    refine ⟨this.1, ?_⟩
    have h3 := this.2
    rw [List.length_take, List.length_drop] at h3
    omega
  · cases h

theorem digB_hexd : ∀ x : Fin 16, Sc.digB (Sc.hexd x.val) = some x.val := by decide
theorem hexNum_hexL (r : Nat) : ∀ d n : Nat, hexNum (Sc.hexL r d) n = some (n * 16 ^ d + r % 16 ^ d)
  | 0, n => by simp [Sc.hexL, hexNum, Nat.mod_one]
  | d + 1, n => by
    have h := digB_hexd ⟨r / 16 ^ d % 16, Nat.mod_lt _ (by decide)⟩
    simp only at h
    simp only [Sc.hexL, hexNum, h]
    rw [hexNum_hexL r d]
    congr 1
    have e : r % 16 ^ (d + 1) = 16 ^ d * (r / 16 ^ d % 16) + r % 16 ^ d := by
      rw [Nat.pow_succ, Nat.mod_mul, Nat.add_comm]
    rw [e, Nat.add_mul, Nat.pow_succ]
    have e2 : n * 16 * 16 ^ d = n * (16 ^ d * 16) := by rw [Nat.mul_assoc, Nat.mul_comm 16]
    rw [e2, Nat.mul_comm (r / 16 ^ d % 16)]
    omega
theorem numOf_hex (c : UInt8) (r d : Nat) (m : List UInt8) (hc : Sc.isCh r) (hd : r < 16 ^ d) : numOf (c :: (Sc.hexL r d ++ m)) d = (r, 1 + d) := by
  unfold numOf
  rw [if_neg (by simp [Sc.hexL_len]; omega)]
  have e : ((c :: (Sc.hexL r d ++ m)).drop 1).take d = Sc.hexL r d := by
    simp only [List.drop_succ_cons, List.drop_zero]
    rw [List.take_append_of_le_length (by rw [Sc.hexL_len]; exact Nat.le_refl _), List.take_of_length_le (by rw [Sc.hexL_len]; exact Nat.le_refl _)]
  rw [e, hexNum_hexL, Nat.zero_mul, Nat.zero_add, Nat.mod_eq_of_lt hd]
  simp only
  rw [if_pos hc]
theorem nameOf_mem (r b : Nat) (h : nameOf r = some b) : (r, b) ∈ namedTab := by
  unfold nameOf nameFrom at h
  obtain ⟨p, hp, rfl⟩ := Option.map_eq_some_iff.1 h
  have hm : p ∈ namedTab := List.mem_of_find?_eq_some hp
  have he : p.1 = r := by simpa using List.find?_some hp
  rw [← he]; exact hm
theorem named_back : ∀ p ∈ namedTab, p.2 < 128 ∧ p.2 ≠ 47 ∧ p.2 ≠ 120 ∧ p.2 ≠ 117 ∧ p.2 ≠ 85 ∧ p.2 ≠ 10 ∧ p.2 ≠ 9 ∧ charFrom 0 p.2 = some p.1 := by decide
theorem nameOf_none (r : Nat) (h : nameOf r = none) : r ≠ 34 ∧ r ≠ 92 ∧ r ≠ 10 ∧ r ≠ 9 := by
  refine ⟨?_, ?_, ?_, ?_⟩ <;> rintro rfl <;> revert h <;> decide
/-- a character comes back from its form between double quotes -/
theorem unq_esc (r : Nat) (m : List UInt8) (hc : Sc.isCh r) : unq (esc r ++ m) = (unq m).map (Sc.enc r ++ ·) := by
  have hes : ∀ (x : List UInt8) (z : Nat), escOf (x ++ m) = (r, z) → z ≠ 0 → z = x.length → unq (92 :: (x ++ m)) = (unq m).map (Sc.enc r ++ ·) := by
    intro x z h hz hl
    rw [unq_cons, if_neg (by decide), if_pos (by decide), h]
    simp only
    rw [if_neg hz, hl, List.drop_left]
  unfold esc
  cases hn : nameOf r with
  | some b =>
    have hm := named_back _ (nameOf_mem r b hn)
    simp only at hm
    obtain ⟨h1, h2, h3, h4, h5, _, _, h6⟩ := hm
    simp only
    refine hes [UInt8.ofNat b] 1 ?_ (by decide) rfl
    have e : (UInt8.ofNat b).toNat = b := Sc.toNat_of b (by omega)
    simp only [List.singleton_append, escOf, e, if_neg h2, if_neg h3, if_neg h4, if_neg h5, h6, nmR]
  | none =>
    obtain ⟨n1, n2, n3, n4⟩ := nameOf_none r hn
    simp only
    split
    · refine unq_raw m _ fun b hb => ?_
      by_cases hb' : b.toNat < 128
      · have := mem_enc r b hc hb hb'; omega
      · omega
    · split
      · rename_i h256
        rw [List.append_assoc]
        refine hes (120 :: Sc.hexL r 2) 3 ?_ (by decide) rfl
        show escOf (120 :: (Sc.hexL r 2 ++ m)) = _
        have := numOf_hex 120 r 2 m hc (by omega)
        simp only [escOf, show (120 : UInt8).toNat = 120 from rfl]
        exact this
      · split
        · rename_i h65
          rw [List.append_assoc]
          refine hes (117 :: Sc.hexL r 4) 5 ?_ (by decide) rfl
          show escOf (117 :: (Sc.hexL r 4 ++ m)) = _
          have := numOf_hex 117 r 4 m hc (by omega)
          simp only [escOf, show (117 : UInt8).toNat = 117 from rfl]
          exact this
        · rw [List.append_assoc]
          refine hes (85 :: Sc.hexL r 8) 9 ?_ (by decide) rfl
          show escOf (85 :: (Sc.hexL r 8 ++ m)) = _
          have := numOf_hex 85 r 8 m hc (by unfold Sc.isCh at hc; omega)
          simp only [escOf, show (85 : UInt8).toNat = 85 from rfl]
          exact this
theorem unq_escs : ∀ rs : List Nat, (∀ r ∈ rs, Sc.isCh r) → unq (rs.flatMap esc) = some (Sc.encs rs)
  | [], _ => rfl
  | r :: t, h => by
    rw [List.flatMap_cons, unq_esc r _ (h r (by simp)), unq_escs t fun x hx => h x (by simp [hx]), Sc.encs_cons]; rfl
theorem hexL_asc (r : Nat) : ∀ d : Nat, ∀ b ∈ Sc.hexL r d, b.toNat < 128 ∧ b.toNat ≠ 9 ∧ b.toNat ≠ 10
  | 0, b, h => by cases h
  | d + 1, b, h => by
    simp only [Sc.hexL] at h
    rcases List.mem_cons.1 h with rfl | h
    · have : ∀ x : Fin 16, (Sc.hexd x.val).toNat < 128 ∧ (Sc.hexd x.val).toNat ≠ 9 ∧ (Sc.hexd x.val).toNat ≠ 10 := by decide
      exact this ⟨_, Nat.mod_lt _ (by decide)⟩
    · exact hexL_asc r d b h
theorem esc_valid (r : Nat) (hc : Sc.isCh r) : Lib.validD (esc r) = true ∧ ∀ b ∈ esc r, b.toNat ≠ 9 ∧ b.toNat ≠ 10 := by
  unfold esc
  cases hn : nameOf r with
  | some b =>
    have hm := named_back _ (nameOf_mem r b hn)
    simp only at hm
    have e : (UInt8.ofNat b).toNat = b := Sc.toNat_of b (by omega)
    simp only
    refine ⟨valid_asc _ fun x hx => ?_, fun x hx => ?_⟩
    all_goals
      simp only [List.mem_cons, List.not_mem_nil, or_false] at hx
      rcases hx with rfl | rfl
      · decide
      · omega
  | none =>
    obtain ⟨n1, n2, n3, n4⟩ := nameOf_none r hn
    have key : ∀ (x : UInt8) (d : Nat), x.toNat < 128 → x.toNat ≠ 9 → x.toNat ≠ 10 → Lib.validD ([92, x] ++ Sc.hexL r d) = true ∧ ∀ b ∈ [92, x] ++ Sc.hexL r d, b.toNat ≠ 9 ∧ b.toNat ≠ 10 := by
      intro x d h1 h2 h3
      refine ⟨valid_asc _ fun b hb => ?_, fun b hb => ?_⟩
      all_goals
        simp only [List.cons_append, List.nil_append, List.mem_cons] at hb
        rcases hb with rfl | rfl | hb
        · decide
        · omega
        · have := hexL_asc r d b hb; omega
    simp only
    split
    · refine ⟨by have := Sc.valid_enc r [] hc; rw [List.append_nil] at this; exact this, fun b hb => ?_⟩
      by_cases hb' : b.toNat < 128
      · have := mem_enc r b hc hb hb'; omega
      · omega
    · split
      · exact key 120 2 (by decide) (by decide) (by decide)
      · split
        · exact key 117 4 (by decide) (by decide) (by decide)
        · exact key 85 8 (by decide) (by decide) (by decide)
theorem escs_valid : ∀ rs : List Nat, (∀ r ∈ rs, Sc.isCh r) → Lib.validD (rs.flatMap esc) = true ∧ ∀ b ∈ rs.flatMap esc, b.toNat ≠ 9 ∧ b.toNat ≠ 10
  | [], _ => ⟨rfl, fun b hb => by cases hb⟩
  | r :: t, h => by
    have h1 := esc_valid r (h r (by simp))
    have h2 := escs_valid t fun x hx => h x (by simp [hx])
    rw [List.flatMap_cons]
    refine ⟨by rw [valid_app _ _ h1.1]; exact h2.1, fun b hb => ?_⟩
    rcases List.mem_append.1 hb with hb | hb
    · exact h1.2 b hb
    · exact h2.2 b hb
theorem escs_len (rs : List Nat) : (rs.flatMap esc).length ≤ 10 * rs.length := by
  induction rs with
  | nil => simp
  | cons r t ih =>
    have := esc_len r
    rw [List.flatMap_cons, List.length_append, List.length_cons]; omega
theorem rns_len : ∀ (n : Nat) (l : List UInt8), l.length ≤ n → (Sc.rns l).length ≤ l.length
  | 0, l, h => by
    have : l = [] := List.eq_nil_of_length_eq_zero (by omega)
    subst this; simp [Sc.rns_nil]
  | n + 1, l, h => by
    by_cases hl : l = []
    · subst hl; simp [Sc.rns_nil]
    · have hp : 0 < l.length := List.length_pos_iff.2 hl
      have hw := Lib.decodeL_width l
      have := rns_len n (l.drop (Lib.decodeL l).2) (by rw [List.length_drop]; omega)
      rw [Sc.rns_step l hl, List.length_cons]
      rw [List.length_drop] at this
      omega
theorem quote_len (l : List UInt8) : (quoteOf l).length ≤ 10 * l.length + 2 := by
  unfold quoteOf
  split
  · have h1 := escs_len (Sc.rns l)
    have h2 := rns_len l.length l (Nat.le_refl _)
    simp only [List.length_cons, List.length_append, List.length_nil]
    omega
  · simp
/-- TEXTS COME BACK FROM DOUBLE QUOTES -/
theorem unquote_quote (l : List UInt8) (hv : Lib.validD l = true) : unquoteOf (quoteOf l) = some l := by
  have hq : quoteOf l = 34 :: ((Sc.rns l).flatMap esc ++ [34]) := by unfold quoteOf; rw [if_pos hv]
  have hes := escs_valid (Sc.rns l) (Sc.ch_rns l)
  have hcond : Lib.validD (34 :: ((Sc.rns l).flatMap esc ++ [34])) = true ∧ 2 ≤ (34 :: ((Sc.rns l).flatMap esc ++ [34])).length ∧ (34 :: ((Sc.rns l).flatMap esc ++ [34])).head? = some 34 ∧ (34 :: ((Sc.rns l).flatMap esc ++ [34])).getLast? = some 34 := by
    refine ⟨?_, by simp, rfl, ?_⟩
    · rw [Lib.validD_cons 34 _ (by decide), valid_app _ _ hes.1]; decide
    · rw [← List.cons_append, List.getLast?_append]; rfl
  rw [hq]
  unfold unquoteOf
  rw [if_pos hcond]
  have e : ((34 :: ((Sc.rns l).flatMap esc ++ [34])).drop 1).take ((34 :: ((Sc.rns l).flatMap esc ++ [34])).length - 2) = (Sc.rns l).flatMap esc := by simp
  rw [e, unq_escs _ (Sc.ch_rns l), Sc.encs_rns l hv]
/-- the form between double quotes has no break, and no tab -/
theorem quote_none (l : List UInt8) (c : UInt8) (hc : c.toNat = 9 ∨ c.toNat = 10) : c ∉ quoteOf l := by
  unfold quoteOf
  split
  · have hes := escs_valid (Sc.rns l) (Sc.ch_rns l)
    intro hm
    simp only [List.mem_cons, List.mem_append, List.not_mem_nil, or_false] at hm
    rcases hm with rfl | hm | rfl
    · revert hc; decide
    · have := hes.2 c hm; omega
    · revert hc; decide
  · simp
theorem contains_one (c : UInt8) : ∀ l : List UInt8, c ∉ l → Lib.contains l [c] = false
  | [], _ => rfl
  | x :: t, h => by
    have ih := contains_one c t fun e => h (by simp [e])
    have hx : ¬ c = x := fun e => h (by simp [e])
    unfold Lib.contains at ih ⊢
    have hge := Lib.index_ge t [c]
    have st : Lib.index (x :: t) [c] = if List.isPrefixOf [c] (x :: t) then 0 else if Lib.index t [c] == -1 then -1 else Lib.index t [c] + 1 := rfl
    have hp : List.isPrefixOf [c] (x :: t) = false := by simp [List.isPrefixOf, hx]
    rw [st, hp]
    simp only [decide_eq_false_iff_not] at ih
    have : (Lib.index t [c] == -1) = true := beq_iff_eq.2 (by omega)
    rw [this]; rfl
end Go.Proofs.YtnlbnnnhmdjciaaDoor
