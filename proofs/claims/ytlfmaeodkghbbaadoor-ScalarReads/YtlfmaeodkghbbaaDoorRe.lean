/-
  Walks of the document's Runes (of bytes with the mark of Utf8) and Chars.
-/
import Derived.Test.YtlfmaeodkghbbaaDoorRd
import Derived.Lib.AppendStr
namespace Go.Proofs.YtlfmaeodkghbbaaDoor
open Go.RowKit

def RuR (B : Nat) (w : World) (o : Option (List Nat)) (e : Ending) (w' : World) : Prop :=
  ∃ v, e = .returned (.tuple #[v, .int .i64 (if o.isSome then 0 else 6)]) ∧ OwnI w' B v (o.getD []) ∧ Below B w w'

theorem OwnI.mono {w : World} {B B' : Nat} {v : Value} {l : List Nat} (h : OwnI w B v l) (hB : B' ≤ B) : OwnI w B' v l := by
  obtain ⟨h1, h2⟩ := h
  refine ⟨h1, ?_⟩
  rcases h2 with h2 | ⟨g, cap, cur, hv, hB2, hr⟩
  · exact .inl h2
  · exact .inr ⟨g, cap, cur, hv, by omega, hr⟩

set_option maxHeartbeats 1000000 in
set_option maxRecDepth 100000 in
theorem runes_utf8 (a : Option Addr) (t : List UInt8) (cap : Nat) (w : World) (hb : RdB w w.heap.size a (239 :: 187 :: 191 :: t)) (hc : (239 :: 187 :: 191 :: t : List UInt8).length ≤ cap) (hcm : cap ≤ maxLen) (hL : t.length ≤ 100000) :
    Calls Tryd.prog 42 #[.slice a (239 :: 187 :: 191 :: t).length cap] w (RuR w.heap.size w (Sc.charsOf t)) := by
  have cD := detect_utf8 a t cap w hb hL
  have hlen : (239 :: 187 :: 191 :: t : List UInt8).length = t.length + 3 := by simp
  rw [hlen] at hc cD ⊢
  obtain ⟨g, off, rfl, hg, hcb⟩ := hb (by rw [hlen]; omega)
  have hbt : RdB w w.heap.size (if cap = 3 then some ⟨g, off, none⟩ else some ⟨g, off + 3, none⟩) t := by
    intro h0
    rw [if_neg (by omega)]
    refine ⟨g, off + 3, rfl, hg, fun j hj => ?_⟩
    have := hcb (j + 3) (by rw [hlen]; omega)
    rw [Nat.add_assoc, Nat.add_comm 3 j]
    exact this
  unfold maxLen at hcm
  have CP := Lib.hid (fun (w1 : World) (h : Below w.heap.size w w1) => plainR_any (if cap = 3 then some ⟨g, off, none⟩ else some ⟨g, off + 3, none⟩) t (cap - 3) w1 ((hbt.below h).more h.size) (by omega) (by unfold maxLen; omega) hL)
  have hch : ∀ rs, Sc.charsOf t = some rs → ∀ r ∈ rs, Sc.isCh r := by
    intro rs h
    unfold Sc.charsOf at h
    split at h
    · cases h; exact Sc.ch_rns t
    · cases h
  have hrl : ∀ rs, Sc.charsOf t = some rs → rs.length ≤ 100000 := by
    intro rs h
    unfold Sc.charsOf at h
    split at h
    · cases h
      have : ∀ (n : Nat) (l : List UInt8), l.length ≤ n → (Sc.rns l).length ≤ l.length := by
        intro n
        induction n with
        | zero => intro l h; have : l = [] := List.eq_nil_of_length_eq_zero (by omega)
                  subst this; simp [Sc.rns_nil]
        | succ n ih =>
          intro l h
          by_cases hl : l = []
          · subst hl; simp [Sc.rns_nil]
          · have hp : 0 < l.length := List.length_pos_iff.2 hl
            have hw := Lib.decodeL_width l
            have := ih (l.drop (Lib.decodeL l).2) (by rw [List.length_drop]; omega)
            rw [Sc.rns_step l hl, List.length_cons]
            rw [List.length_drop] at this
            omega
      have := this t.length t (Nat.le_refl _)
      omega
    · cases h
  clear hb hcb hbt
  by_cases hck : cap = 3
  · subst hck
    have ht : t = [] := List.eq_nil_of_length_eq_zero (by omega)
    subst ht
    have ho : Sc.charsOf [] = some [] := rfl
    rw [ho] at CP ⊢
    clear hch hrl ho hlen hc
    go_enter Tryd.func42, Tryd.ntmps42
    go_wp2_with fail
    refine cD.mono ?_
    rintro e w1 ⟨rfl, h1⟩
    go_wp2_with fail
    refine (CP.out w1 h1).mono ?_
    rintro e w2 ⟨v, rfl, ho, h2⟩
    obtain ⟨a', cap', hv, hc1, hc2, hrd⟩ := ho.form
    have HO := Lib.hid (ho.mono h1.size)
    clear CP cD hrd ho
    subst hv
    go_wp2
    refine wp_loop_rounds 1 ?_
    rw [rounds_succ]
    go_wp2
    go_ret2
    exact ⟨_, rfl, HO.out, h1.trans (h2.mono h1.size)⟩
  · rw [if_neg hck] at CP
    cases ho : Sc.charsOf t with
    | none =>
      rw [ho] at CP
      clear hch hrl ho
      go_enter Tryd.func42, Tryd.ntmps42
      go_wp2_with fail
      refine cD.mono ?_
      rintro e w1 ⟨rfl, h1⟩
      go_wp2_with fail
      refine (CP.out w1 h1).mono ?_
      rintro e w2 ⟨v, rfl, ho, h2⟩
      clear CP cD ho
      go_wp2
      go_ret2
      exact ⟨_, rfl, ownI_nil _ _, h1.trans (h2.mono h1.size)⟩
    | some rs =>
      rw [ho] at CP
      have HCH := Lib.hid (hch rs ho)
      have hrs := hrl rs ho
      clear hch hrl ho
      go_enter Tryd.func42, Tryd.ntmps42
      go_wp2_with fail
      refine cD.mono ?_
      rintro e w1 ⟨rfl, h1⟩
      go_wp2_with fail
      refine (CP.out w1 h1).mono ?_
      rintro e w2 ⟨v, rfl, ho, h2⟩
      obtain ⟨a', cap', hv, hc1, hc2, hrd⟩ := ho.form
      have HO := Lib.hid (ho.mono h1.size)
      have HR := Lib.hid hrd
      clear CP cD hrd ho
      unfold maxLen at hc2
      simp only [Option.getD_some] at hv hc1 HO HR
      subst hv
      go_wp2
      go_loop [10] (fun i => ∃ k : Nat, k ≤ rs.length ∧ i = .int .i64 k) (fun i => rs.length - (intOf i).toNat)
      case atStart => exact ⟨0, by omega, rfl⟩
      case round =>
        obtain ⟨k, hk, rfl⟩ := hrel
        by_cases hlt : k < rs.length
        · obtain ⟨g2, off2, rfl, hg2, hcell⟩ := HR.out (by omega)
          have ck := hcell k hlt
          have b6 : chI (rs[k] : Int) = true := by rw [chI_nat]; exact decide_eq_true (HCH.out _ (List.getElem_mem hlt))
          generalize rs[k] = y at *
          clear hcell
          go_wp2_with (go_at_call 49; refine (character_any _ _).mono ?_; rintro e w' ⟨rfl, rfl⟩)
          go_round
          case rel => exact ⟨k + 1, by omega, by go_num⟩
          case measure => simp [intOf]; omega
        · go_wp2
          go_ret2
          exact ⟨_, rfl, HO.out, h1.trans (h2.mono h1.size)⟩

set_option maxHeartbeats 1000000 in
set_option maxRecDepth 100000 in
/-- THE CONTRACT of Chars -/
theorem chars_any (s : ByteArray) (w : World) (hs : s.size ≤ 100000) : Calls Tryd.prog 23 #[.string s] w (ChR w.heap.size w (Sc.charsOf s.data.toList)) := by
  obtain ⟨i0, hi, hz0, hz1, hz2⟩ := info_parts info5
  have ho0 : (w.alloc (.cells #[.int .u8 239, .int .u8 187, .int .u8 191] 5)).ownsRow w.heap.size 5 1 (.slice (some ⟨w.heap.size, 0, none⟩) 3 3) 3 (Lib.byteCells [239, 187, 191]) := World.ownsRow_lit (base := w.heap.size) (e := 5) (size := 1) w #[.int .u8 239, .int .u8 187, .int .u8 191] 3 (Nat.le_refl _) (by decide) rfl
  have hal : Below w.heap.size w (w.alloc (.cells #[.int .u8 239, .int .u8 187, .int .u8 191] 5)) := (Below.refl _ _).alloc (Nat.le_refl _) _
  obtain ⟨ANS, hANS⟩ : ∃ ANS, Sc.charsOf s.data.toList = ANS := ⟨_, rfl⟩
  have CR := Lib.hid (fun a cap (w1 : World) hb hc hcm => runes_utf8 a s.data.toList cap w1 hb hc hcm (by rw [← Lib.size_eq]; exact hs))
  rw [hANS] at CR ⊢
  clear hANS
  have HO := Lib.hid ho0
  clear ho0
  go_enter Tryd.func23, Tryd.ntmps23
  go_wp2_with (at_builtin; refine Lib.wpList_append_own_string _ rfl (.tmp 7) (.tmp 8) 43 9 rfl w.heap.size 5 i0 Tryd.underlying43 Tryd.underlying9 hi hz0 hz1 hz2 _ 3 _ rfl HO.out s rfl (by simp only [maxLen]; omega) (by omega) (by rw [World.size_alloc]; omega) ?_; intro v' w' ho' hg' _)
  have hown : Own w' w.heap.size v' (239 :: 187 :: 191 :: s.data.toList) := by
    have e : (239 :: 187 :: 191 :: s.data.toList : List UInt8) = [239, 187, 191] ++ s.data.toList := rfl
    rw [e]
    refine own_of_append ho' ?_ ?_
    · rw [List.length_append, ← Lib.size_eq]; rfl
    · rw [Lib.byteCells_append]; rfl
  have hb1 : Below w.heap.size w w' := hal.grown hg' (by rw [World.size_alloc]; omega) (fun k hk => (HO.out.lt k hk).1)
  obtain ⟨a', cap', hv, hc1, hc2, hrd⟩ := hown.form
  clear ho' hg' hown HO hal
  subst hv
  go_wp2_with fail
  refine (CR.out a' cap' w' hrd hc1 hc2).mono ?_
  rintro e w2 ⟨v, rfl, ho, h2⟩
  clear CR hrd
  have HO := Lib.hid (ho.mono hb1.size)
  clear ho
  cases ANS with
  | none =>
    go_wp2
    go_ret2
    exact ⟨_, rfl, HO.out, hb1.trans (h2.mono hb1.size)⟩
  | some rs =>
    go_wp2
    go_ret2
    exact ⟨_, rfl, HO.out, hb1.trans (h2.mono hb1.size)⟩
end Go.Proofs.YtlfmaeodkghbbaaDoor
