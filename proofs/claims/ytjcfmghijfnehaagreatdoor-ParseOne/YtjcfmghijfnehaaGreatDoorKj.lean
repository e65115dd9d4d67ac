/-
  Plain mathematics: a line that is one node tells a document of just that.
-/
import Derived.Test.YtjcfmghijfnehaaGreatDoorKe
namespace Go.Proofs.YtjcfmghijfnehaaGreatDoor
namespace Lx
theorem blanks_at (q : List UInt8) : ∀ i, i < blanks q → q.getD i 0 = 32 := by
  induction q with
  | nil => intro i h; simp [blanks] at h
  | cons b t ih =>
    intro i h
    unfold blanks at h
    split at h
    · rename_i hb
      cases i with
      | zero =>
        unfold isB at hb
        simp at hb
        simp only [List.getD_cons_zero]
        exact UInt8.toNat_inj.1 (by rw [show (32 : UInt8).toNat = 32 from rfl]; omega)
      | succ i => simpa using ih i (by omega)
    · omega
theorem upTo_at (f : Nat → Bool) (n j : Nat) (hj : j ≤ n) (hf : j = n ∨ f j = true) : ∀ m k, k ≤ j → n ≤ m + k → (∀ i, k ≤ i → i < j → f i = false) → upTo f n m k = j
  | 0, k, h1, h2, _ => by unfold upTo; omega
  | m + 1, k, h1, h2, h3 => by
    unfold upTo
    by_cases hk : k < n
    · rw [if_pos hk]
      by_cases he : k = j
      · subst he
        rcases hf with hf | hf
        · omega
        · rw [if_pos hf]
      · rw [if_neg (by rw [h3 k (Nat.le_refl _) (by omega)]; decide)]
        exact upTo_at f n j hj hf m (k + 1) (by omega) (by omega) fun i hi hi' => h3 i (by omega) hi'
    · rw [if_neg hk]; omega
theorem over_first (b : UInt8) (t : List UInt8) (h : isB b 35 = false) : over (b :: t) 0 = false := by
  unfold over remarkAt
  simp [h]
/-- the first word of a line that begins so is a plain one -/
theorem words_first_plain (b : UInt8) (t : List UInt8) (hb : b = 45 ∨ b = 46) (hd : dash (b :: t) = false)
    (hx : plainB ((b :: t).take (Lib.trimRightB ((b :: t).take (upTo (endP (b :: t)) (b :: t).length (b :: t).length 1)) 32).length) = false) : ∃ e, words (b :: t) = .error e := by
  unfold words
  split
  · have hp : past (b :: t) 0 = 0 := by
      unfold past blanks
      rcases hb with rfl | rfl <;> simp [isB]
    have ho : over (b :: t) 0 = false := over_first b t (by rcases hb with rfl | rfl <;> simp [isB])
    have hk : kindOf (b :: t) true = 0 := by
      unfold kindOf
      rw [hd]
      unfold bar colonAt
      rcases hb with rfl | rfl <;> simp [isB]
    have hw : wordAt (b :: t) 0 true = .error 5 := by
      unfold wordAt
      simp only [List.drop_zero]
      rw [if_neg (by rcases hb with rfl | rfl <;> simp [isB]), hk]
      have hs : sizeOf (b :: t) 0 = ((Lib.trimRightB ((b :: t).take (upTo (endP (b :: t)) (b :: t).length (b :: t).length 1)) 32).length, 0) := by
        unfold sizeOf; simp
      rw [hs, if_pos rfl]
      have ht : wtext ((b :: t).take (Lib.trimRightB ((b :: t).take (upTo (endP (b :: t)) (b :: t).length (b :: t).length 1)) 32).length) 0 = ([], 5) := by
        unfold wtext
        rw [if_neg (by decide), if_neg (by decide), if_neg (by decide), if_neg (by decide), if_pos rfl]
        unfold chk
        rw [hx]; rfl
      simp only
      rw [ht]
      rfl
    rw [hp]
    unfold wordsGo
    rw [ho, hw]
    exact ⟨5, rfl⟩
  · exact ⟨5, rfl⟩
theorem badFirst_dash : badFirst 45 = true := by decide
theorem mark_words (p : List UInt8) (h : markOf p ≠ 0) : ∃ e, words p = .error e := by
  have pre : ∀ c, Lib.hasPrefix p [c, c, c] = true → ∃ q, p = c :: c :: c :: q ∧ Lib.trimPrefix p [c, c, c] = q := by
    intro c hc
    have hc' := hc
    unfold Lib.hasPrefix at hc
    rw [List.isPrefixOf_iff_prefix] at hc
    obtain ⟨q, rfl⟩ := hc
    exact ⟨q, rfl, by unfold Lib.trimPrefix; rw [if_pos hc']; rfl⟩
  unfold markOf at h
  split at h
  · rename_i hm
    unfold isMark at hm
    rw [Bool.and_eq_true] at hm
    obtain ⟨q, rfl, _⟩ := pre 45 hm.1
    refine words_first_plain 45 (45 :: 45 :: q) (.inl rfl) (by unfold dash Lib.hasPrefix; simp [List.isPrefixOf]) ?_
    generalize (Lib.trimRightB ((45 :: 45 :: 45 :: q).take (upTo (endP (45 :: 45 :: 45 :: q)) (45 :: 45 :: 45 :: q).length (45 :: 45 :: 45 :: q).length 1)) 32).length = z
    cases z with
    | zero => rfl
    | succ z =>
      rw [List.take_succ_cons]
      unfold plainB
      simp [badFirst_dash]
  · split at h
    · rename_i hm
      unfold isMark at hm
      rw [Bool.and_eq_true] at hm
      obtain ⟨q, rfl, hq⟩ := pre 46 hm.1
      rw [hq] at hm
      refine words_first_plain 46 (46 :: 46 :: q) (.inr rfl) (by unfold dash Lib.hasPrefix; simp [List.isPrefixOf]) ?_
      have hbl := blanks_le q
      have hlen : (46 :: 46 :: 46 :: q : List UInt8).length = q.length + 3 := rfl
      have hat : ∀ i, (46 :: 46 :: 46 :: q : List UInt8).getD (i + 3) 0 = q.getD i 0 := fun i => by simp
      have hge : ∀ i, 1 ≤ i → i < 3 + blanks q → endP (46 :: 46 :: 46 :: q) i = false := by
        intro i hi hi2
        have hv : (46 :: 46 :: 46 :: q : List UInt8).getD i 0 = 46 ∨ (46 :: 46 :: 46 :: q : List UInt8).getD i 0 = 32 := by
          by_cases h3 : i < 3
          · left
            have : i = 1 ∨ i = 2 := by omega
            rcases this with rfl | rfl <;> rfl
          · right
            obtain ⟨k, rfl⟩ : ∃ k, i = k + 3 := ⟨i - 3, by omega⟩
            rw [hat]; exact blanks_at q k (by omega)
        unfold endP flow colonAt remarkAt
        rcases hv with hv | hv <;> rw [hv] <;> simp [isB]
      have hup : upTo (endP (46 :: 46 :: 46 :: q)) (46 :: 46 :: 46 :: q).length (46 :: 46 :: 46 :: q).length 1 = 3 + blanks q := by
        refine upTo_at _ _ _ (by rw [hlen]; omega) ?_ _ _ (by omega) (by omega) hge
        rcases Bool.or_eq_true _ _ ▸ hm.2 with hb | hb
        · left
          unfold blank at hb
          have := beq_iff_eq.1 hb
          rw [hlen]; omega
        · right
          rw [Bool.and_eq_true] at hb
          have hb0 : 0 < blanks q := by
            cases q with
            | nil => simp [isB] at hb
            | cons c t => unfold blanks; rw [if_pos (by simpa using hb.1)]; omega
          unfold endP remarkAt
          have e1 : (46 :: 46 :: 46 :: q : List UInt8).getD (3 + blanks q) 0 = q.getD (blanks q) 0 := by rw [Nat.add_comm]; exact hat _
          have e2 : (46 :: 46 :: 46 :: q : List UInt8).getD (3 + blanks q - 1) 0 = 32 := by
            rw [show 3 + blanks q - 1 = (blanks q - 1) + 3 by omega, hat]; exact blanks_at q _ (by omega)
          rw [e1, e2, hb.2]
          simp [isB]
      rw [hup]
      have htr : Lib.trimRightB ((46 :: 46 :: 46 :: q).take (3 + blanks q)) 32 = ((46 :: 46 :: 46 :: q).take (3 + blanks q)).take 3 := by
        refine Lib.trimRightB_take _ _ 3 (by rw [List.length_take, hlen]; omega) ?_ ?_
        · intro j b hj hb
          rw [List.getElem?_take] at hb
          split at hb
          · rename_i hlt
            obtain ⟨k, rfl⟩ : ∃ k, j = k + 3 := ⟨j - 3, by omega⟩
            have := blanks_at q k (by omega)
            rw [← hat k, List.getD_eq_getElem?_getD, hb] at this
            simpa using this
          · cases hb
        · intro b _ hb
          rw [List.getElem?_take, if_pos (by omega)] at hb
          simp at hb
          rw [← hb]; decide
      rw [htr, List.length_take, List.length_take, hlen]
      have : min 3 (min (3 + blanks q) (q.length + 3)) = 3 := by omega
      rw [this]
      rfl
    · exact absurd rfl h
end Lx
namespace Px
open Lx (Wd Ln)
theorem cutP_isKey (ws : List Wd) : ∀ p q r, cutP p ws = .ok (q, r) → isKeyGo ws = isKeyGo r := by
  induction ws with
  | nil => intro p q r h; cases h; rfl
  | cons w t ih =>
    intro p q r h
    unfold cutP at h
    split at h
    · rename_i hk
      split at h
      · rw [← ih _ _ _ h]; conv => lhs; unfold isKeyGo
        rw [if_pos (.inl hk)]
      · cases h
    · split at h
      · rename_i hk
        split at h
        · rw [← ih _ _ _ h]; conv => lhs; unfold isKeyGo
          rw [if_pos (.inr hk)]
        · cases h
      · cases h; rfl
/-- what words are that are one node -/
theorem flow_form (ws : List Wd) (es : List Ev.E) (h : flowOf ws 0 = .ok es) :
    (∃ x xs, es = x :: xs) ∧ (∃ w t, ws = w :: t ∧ w.kind ≠ 12) ∧ isKeyGo ws = false ∧ ∃ p r, cutP nop ws = .ok (p, r) ∧ r.length ≠ 0 ∧ ¬ (r.length = 1 ∧ bk r 13 = true) := by
  have hlen := flowOf_len ws 0 es h
  have hes : ∃ x xs, es = x :: xs := by
    cases es with
    | nil => simp at hlen
    | cons x xs => exact ⟨x, xs, rfl⟩
  unfold flowOf at h
  rw [show 40 - 0 = 39 + 1 from rfl] at h
  cases hn : node (39 + 1) ws with
  | error e => rw [hn] at h; cases h
  | ok y =>
    obtain ⟨left, es'⟩ := y
    rw [hn] at h
    cases left with
    | cons w t => cases h
    | nil =>
      unfold node at hn
      unfold nodeWith at hn
      cases hc : cutP nop ws with
      | error e => rw [hc] at hn; cases hn
      | ok z =>
        obtain ⟨p, r⟩ := z
        rw [hc] at hn
        simp only at hn
        have hr : ∃ w t, r = w :: t ∧ (w.kind = 6 ∨ w.kind = 8 ∨ ((w.kind ≤ 2 ∨ w.kind = 4) ∧ t = [])) := by
          cases r with
          | nil => simp [bk, leafW] at hn
          | cons w t =>
            refine ⟨w, t, rfl, ?_⟩
            split at hn
            · rename_i hb; unfold bk at hb; exact .inl (by simpa using hb)
            · split at hn
              · rename_i hb; unfold bk at hb; exact .inr (.inl (by simpa using hb))
              · unfold leafW at hn
                simp only at hn
                cases hl : leaf w p with
                | error e => rw [hl] at hn; cases hn
                | ok x =>
                  rw [hl] at hn
                  have ht : t = [] := by cases hn; rfl
                  refine .inr (.inr ⟨?_, ht⟩)
                  unfold leaf at hl
                  split at hl
                  · rename_i hk; exact .inl hk
                  · split at hl
                    · rename_i hk; exact .inr hk
                    · cases hl
        obtain ⟨w, t, rfl, hk⟩ := hr
        refine ⟨hes, ?_, ?_, p, w :: t, rfl, by simp, ?_⟩
        · cases ws with
          | nil => have h1 := hlen.1; have h2 := hlen.2; simp only [List.length_nil] at h2; omega
          | cons v u =>
            refine ⟨v, u, rfl, fun hv => ?_⟩
            unfold cutP at hc
            rw [if_neg (by omega), if_neg (by omega)] at hc
            cases hc
            omega
        · rw [cutP_isKey ws _ _ _ hc]
          unfold isKeyGo
          rcases hk with hk | hk | ⟨hk, rfl⟩
          · simp [hk]
          · simp [hk]
          · rw [if_neg (by omega), if_pos hk]; rfl
        · rintro ⟨_, hb⟩
          unfold bk at hb
          have : w.kind = 13 := by simpa using hb
          omega
theorem text_one (l : List UInt8) (ws : List Wd) (es : List Ev.E) (hl : ∀ b ∈ l, b ≠ 10) (hw : Lx.words l = .ok ws) (hf : flowOf ws 0 = .ok es) : text l = .ok (ev 0 :: (es ++ [ev 1])) := by
  obtain ⟨⟨x, xs, hes⟩, ⟨w, t, hwt, h12⟩, hkey, p, r, hc, hr0, hr1⟩ := flow_form ws es hf
  have hm : Lx.markOf l = 0 := by
    rcases Nat.eq_zero_or_pos (Lx.markOf l) with h | h
    · exact h
    · obtain ⟨e, he⟩ := Lx.mark_words l (by omega)
      rw [hw] at he; cases he
  have hline : Lx.lineOf l = .ok ⟨0, Lx.blanks l, ws, []⟩ := by
    unfold Lx.lineOf
    rw [if_pos hm, hw]
  have hread : Lx.read l = .ok [⟨0, Lx.blanks l, ws, []⟩] := by
    rw [Lx.read_rd, Lx.pieces_one l hl, Lx.rd_cons, hline]
    simp only
    split
    · rfl
    · have : Lx.says ⟨0, Lx.blanks l, ws, []⟩ = true := by unfold Lx.says; rw [hwt]; simp
      rw [if_pos this]; rfl
  unfold text
  rw [hread]
  simp only
  unfold events docsGo lineIn
  rw [if_neg (by simp), if_neg (by simp)]
  have hop : opened st0 = ⟨[doc], nop, [ev 0]⟩ := rfl
  have hpl : place (opened st0) ⟨0, Lx.blanks l, ws, []⟩ = .ok ⟨[doc], nop, [ev 0]⟩ := by
    rw [hop]
    unfold place dropTo
    have hd : ∀ i : Int, dropGo i 1 ⟨[doc], nop, [ev 0]⟩ = ⟨[doc], nop, [ev 0]⟩ := fun i => rfl
    simp only [List.length_cons, List.length_nil, Nat.zero_add]
    rw [hd]
    unfold placeAt doc
    simp only
    rw [if_pos (by omega)]
    rfl
  rw [hpl]
  simp only
  have hwo : wordsOf ⟨[doc], nop, [ev 0]⟩ ⟨0, Lx.blanks l, ws, []⟩ = .ok ⟨[doc.still], nop, [ev 0] ++ x :: xs⟩ := by
    unfold wordsOf
    simp only
    have hda : dashes ⟨[doc], nop, [ev 0]⟩ ws = .ok (⟨[doc], nop, [ev 0]⟩, ws) := by
      rw [hwt]
      unfold dashes
      rw [if_neg h12]
    rw [hda]
    simp only
    rw [hkey, if_neg (by decide)]
    have hbe : behind [] (.ok (⟨[doc], nop, [ev 0]⟩, ws)) = value ⟨[doc], nop, [ev 0]⟩ ws [] := by rw [hwt]; rfl
    rw [hbe]
    unfold value
    rw [hc]
    simp only
    rw [if_neg hr0, if_neg hr1]
    simp only [List.length_cons, List.length_nil, Nat.zero_add, Nat.sub_self]
    rw [hf, hes]
    rfl
  rw [hwo]
  rw [hes]
  show Except.ok _ = Except.ok _
  congr 1
end Px
end Go.Proofs.YtjcfmghijfnehaaGreatDoor
