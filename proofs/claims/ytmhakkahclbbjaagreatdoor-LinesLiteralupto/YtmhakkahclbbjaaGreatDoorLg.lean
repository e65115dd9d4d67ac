/-
  Walks of lines over pieces: textSize, withoutTail, slices.IndexFunc, firstIndent.
-/
import Derived.Test.YtmhakkahclbbjaaGreatDoorLf
import Derived.Shelf.Abstract
namespace Go.Proofs.YtmhakkahclbbjaaGreatDoor
open Go.RowKit

/-- the bytes of pieces -/
def byts (ps : List ByteArray) : List (List UInt8) := ps.map (·.data.toList)
/-- a slice of texts that is read: it lies below block B -/
def RdS (w : World) (B : Nat) (a : Option Addr) (ps : List ByteArray) : Prop :=
  0 < ps.length → ∃ g off, a = some ⟨g, off, none⟩ ∧ g < B ∧ ∀ (j : Nat) (h : j < ps.length), w.cell? ⟨g, off + j, none⟩ = some (.string (ps[j]'h))
theorem RdS.below {w w' : World} {B : Nat} {a : Option Addr} {l : List ByteArray} (h : RdS w B a l) (hb : Below B w w') : RdS w' B a l := fun h0 => by
  obtain ⟨g, off, e, hg, hc⟩ := h h0
  exact ⟨g, off, e, hg, fun j hj => (hb.cell (p := ⟨g, off + j, none⟩) hg).trans (hc j hj)⟩
theorem RdS.more {w : World} {B B' : Nat} {a : Option Addr} {l : List ByteArray} (h : RdS w B a l) (hB : B ≤ B') : RdS w B' a l := fun h0 => by
  obtain ⟨g, off, e, hg, hc⟩ := h h0
  exact ⟨g, off, e, by omega, hc⟩
theorem RdS.take {w : World} {B : Nat} {a : Option Addr} {l : List ByteArray} (h : RdS w B a l) (k : Nat) : RdS w B a (l.take k) := fun h0 => by
  rw [List.length_take] at h0
  obtain ⟨g, off, e, hg, hc⟩ := h (by omega)
  refine ⟨g, off, e, hg, fun j hj => ?_⟩
  rw [List.length_take] at hj
  rw [hc j (by omega), List.getElem_take]
/-- no piece is too long -/
def Short (ps : List ByteArray) : Prop := ∀ p ∈ ps, p.size ≤ 1000000
theorem Short.at {ps : List ByteArray} (h : Short ps) (k : Nat) (hk : k < ps.length) : ps[k].size ≤ 1000000 := h _ (List.getElem_mem hk)
theorem Short.take {ps : List ByteArray} (h : Short ps) (k : Nat) : Short (ps.take k) := fun p hp => h p (List.mem_of_mem_take hp)
theorem Short.drop {ps : List ByteArray} (h : Short ps) (k : Nat) : Short (ps.drop k) := fun p hp => h p (List.mem_of_mem_drop hp)
theorem byts_drop (ps : List ByteArray) (k : Nat) (hk : k < ps.length) : (byts ps).drop k = ps[k].data.toList :: (byts ps).drop (k + 1) := by
  unfold byts
  rw [List.drop_eq_getElem_cons (by simpa using hk)]; simp
theorem byts_len (ps : List ByteArray) : (byts ps).length = ps.length := by simp [byts]
theorem byts_getD (ps : List ByteArray) (k : Nat) (hk : k < ps.length) : (byts ps).getD k [] = ps[k].data.toList := by
  simp [byts, List.getD, hk]
theorem byts_nil (ps : List ByteArray) (k : Nat) (hk : ps.length ≤ k) : (byts ps).drop k = [] := List.drop_eq_nil_of_le (by rw [byts_len]; exact hk)

set_option maxHeartbeats 1000000 in
theorem textSize_any (a : Option Addr) (cap B ind : Nat) (ps : List ByteArray) (w : World) (hr : RdS w B a ps) (hsh : Short ps) (hn : ps.length ≤ 1000000) :
    Calls Tryz.prog 23 #[.slice a ps.length cap, .int .i64 ind] w fun e w' => e = .returned (.int .i64 (Lx.textSize ind (byts ps) : Nat)) ∧ w = w' := by
  obtain ⟨ANS, hANS⟩ : ∃ ANS, Lx.textSize ind (byts ps) = ANS := ⟨_, rfl⟩
  rw [hANS]
  have HA := Lib.hid hANS
  have HR := Lib.hid hr
  have HS := Lib.hid hsh
  clear hANS hr hsh
  go_enter Tryz.func23, Tryz.ntmps23
  go_wp2
  go_loop [9] (fun i => ∃ j : Nat, j ≤ ps.length ∧ i = .int .i64 j ∧ Hid (j + Lx.textSize ind ((byts ps).drop j) = ANS)) (fun i => ps.length - (intOf i).toNat)
  case atStart => exact ⟨0, by omega, rfl, by have := HA.out; show 0 + _ = _; rw [Nat.zero_add]; exact this⟩
  case round =>
    obtain ⟨j, hj, rfl, HK⟩ := hrel
    clear HA
    by_cases hlt : j < ps.length
    · obtain ⟨g, off, rfl, hg, hc⟩ := HR.out (by omega)
      have hcj := hc j hlt
      have hd := byts_drop ps j hlt
      have hps := HS.out.at j hlt
      obtain ⟨p, hp⟩ : ∃ p, ps[j] = p := ⟨_, rfl⟩
      rw [hp] at hcj hd hps
      clear hc hp
      have hK := HK.out
      rw [hd] at hK
      unfold Lx.textSize at hK
      clear HK hd
      have cB := fun w => blank_any p w (by omega)
      have cI := fun w => indent_any p w (by omega)
      generalize Lx.blank p.data.toList = X at *
      have hbl := Lx.blanks_le p.data.toList
      rw [ba_len] at hbl
      generalize Lx.blanks p.data.toList = Y at *
      have HB := Lib.hid cB
      have HI := Lib.hid cI
      clear cB cI
      cases X
      · by_cases hY : Y ≤ ind
        · have HN : Hid (j = ANS) := by
            have := hK; simp [hY] at this; exact this
          have b1 : decide (Y ≤ ind) = true := decide_eq_true hY
          clear hK
          go_wp2_with (first
            | (go_at_call 44; refine (HB.out _).mono ?_; rintro e w' ⟨rfl, rfl⟩)
            | (go_at_call 18; refine (HI.out _).mono ?_; rintro e w' ⟨rfl, rfl⟩))
          go_ret
          exact ⟨by rw [← HN.out]; rfl, rfl⟩
        · have HN : Hid (j + 1 + Lx.textSize ind ((byts ps).drop (j + 1)) = ANS) := by
            have := hK; simp [hY] at this; show j + 1 + _ = _; omega
          have b1 : decide (Y ≤ ind) = false := decide_eq_false hY
          clear hK
          go_wp2_with (first
            | (go_at_call 44; refine (HB.out _).mono ?_; rintro e w' ⟨rfl, rfl⟩)
            | (go_at_call 18; refine (HI.out _).mono ?_; rintro e w' ⟨rfl, rfl⟩))
          go_round
          case rel => exact ⟨j + 1, by omega, by go_num, HN⟩
          case measure => simp [intOf]; omega
      · have HN : Hid (j + 1 + Lx.textSize ind ((byts ps).drop (j + 1)) = ANS) := by
          have := hK; simp at this; show j + 1 + _ = _; omega
        clear hK
        go_wp2_with (first
          | (go_at_call 44; refine (HB.out _).mono ?_; rintro e w' ⟨rfl, rfl⟩)
          | (go_at_call 18; refine (HI.out _).mono ?_; rintro e w' ⟨rfl, rfl⟩))
        go_round
        case rel => exact ⟨j + 1, by omega, by go_num, HN⟩
        case measure => simp [intOf]; omega
    · have HN : Hid (j = ANS) := by
        have := HK.out; rw [byts_nil ps j (by omega)] at this; exact this
      have hje : j = ps.length := by omega
      clear HK
      go_wp2
      go_ret
      exact ⟨by rw [← HN.out, hje]; rfl, rfl⟩

set_option maxHeartbeats 1000000 in
theorem tail_any (a : Option Addr) (cap B : Nat) (ps : List ByteArray) (w : World) (hr : RdS w B a ps) (hsh : Short ps) (hn : ps.length ≤ 1000000) :
    Calls Tryz.prog 45 #[.slice a ps.length cap] w fun e w' => e = .returned (.int .i64 (Lx.withoutTail (byts ps) : Nat)) ∧ w = w' := by
  obtain ⟨ANS, hANS⟩ : ∃ ANS, Lx.withoutTail (byts ps) = ANS := ⟨_, rfl⟩
  rw [hANS]
  have HA : Hid (Lx.tailGo (byts ps) ps.length = ANS) := by
    show Lx.tailGo (byts ps) ps.length = ANS
    rw [← byts_len]; exact hANS
  have HR := Lib.hid hr
  have HS := Lib.hid hsh
  clear hANS hr hsh
  go_enter Tryz.func45, Tryz.ntmps45
  go_wp2
  go_loop [3] (fun i => ∃ j : Nat, j ≤ ps.length ∧ i = .int .i64 j ∧ Hid (Lx.tailGo (byts ps) j = ANS)) (fun i => (intOf i).toNat)
  case atStart => exact ⟨ps.length, Nat.le_refl _, rfl, HA⟩
  case round =>
    obtain ⟨j, hj, rfl, HK⟩ := hrel
    clear HA
    by_cases h0 : j = 0
    · subst h0
      have HN : Hid (0 = ANS) := HK
      clear HK
      go_wp2
      go_ret
      exact ⟨by rw [← HN.out]; rfl, rfl⟩
    · obtain ⟨k, rfl⟩ : ∃ k, j = k + 1 := ⟨j - 1, by omega⟩
      obtain ⟨g, off, rfl, hg, hc⟩ := HR.out (by omega)
      have hcj := hc k (by omega)
      have hd := byts_getD ps k (by omega)
      have hps := HS.out.at k (by omega)
      obtain ⟨p, hp⟩ : ∃ p, ps[k] = p := ⟨_, rfl⟩
      rw [hp] at hcj hd hps
      clear hc hp
      have hK := HK.out
      unfold Lx.tailGo at hK
      rw [hd] at hK
      clear HK hd
      have cB := fun w => blank_any p w (by omega)
      generalize Lx.blank p.data.toList = X at *
      have HB := Lib.hid cB
      clear cB h0
      have e1 : ((k + 1 : Nat) : Int) - 1 = (k : Int) := by omega
      cases X
      · have HN : Hid (k + 1 = ANS) := Lib.hid (by simpa using hK)
        clear hK
        go_wp2_with (go_at_call 44; refine (HB.out _).mono ?_; rintro e w' ⟨rfl, rfl⟩)
        go_ret
        exact ⟨by rw [← HN.out]; rfl, rfl⟩
      · have HN : Hid (Lx.tailGo (byts ps) k = ANS) := Lib.hid (by simpa using hK)
        clear hK
        go_wp2_with (go_at_call 44; refine (HB.out _).mono ?_; rintro e w' ⟨rfl, rfl⟩)
        go_round
        case rel => exact ⟨k, by omega, by go_num, HN⟩
        case measure => simp [intOf]

set_option maxHeartbeats 1000000 in
theorem notBlank_any (s : ByteArray) (w : World) (hs : s.size ≤ 1000000000) :
    Calls Tryz.prog 68 #[.string s] w fun e w' => e = .returned (.bool (!Lx.blank s.data.toList)) ∧ w = w' := by
  have cB := fun w => blank_any s w hs
  generalize Lx.blank s.data.toList = X at *
  have HB := Lib.hid cB
  clear cB
  go_enter Tryz.func68, Tryz.ntmps68
  go_wp2_with (go_at_call 44; refine (HB.out _).mono ?_; rintro e w' ⟨rfl, rfl⟩)
  go_ret
  exact ⟨rfl, rfl⟩

def idxR (o : Option Nat) : Int := match o with
  | some k => (k : Int)
  | none => -1

set_option maxHeartbeats 1000000 in
theorem first_any (a : Option Addr) (cap B : Nat) (ps : List ByteArray) (w : World) (hr : RdS w B a ps) (hsh : Short ps) (hn : ps.length ≤ 1000000) :
    Calls Tryz.prog 67 #[.slice a ps.length cap, .func (.func 68) #[] #[]] w fun e w' => e = .returned (.int .i64 (idxR (Lx.firstFrom (byts ps) 0))) ∧ w = w' := by
  obtain ⟨ANS, hANS⟩ : ∃ ANS, Lx.firstFrom (byts ps) 0 = ANS := ⟨_, rfl⟩
  rw [hANS]
  have HA := Lib.hid hANS
  have HR := Lib.hid hr
  have HS := Lib.hid hsh
  clear hANS hr hsh
  go_enter Tryz.func67, Tryz.ntmps67
  go_wp2
  go_loop [8] (fun i => ∃ j : Nat, j ≤ ps.length ∧ i = .int .i64 j ∧ Hid (Lx.firstFrom ((byts ps).drop j) j = ANS)) (fun i => ps.length - (intOf i).toNat)
  case atStart => exact ⟨0, by omega, rfl, HA⟩
  case round =>
    obtain ⟨j, hj, rfl, HK⟩ := hrel
    clear HA
    by_cases hlt : j < ps.length
    · obtain ⟨g, off, rfl, hg, hc⟩ := HR.out (by omega)
      have hcj := hc j hlt
      have hd := byts_drop ps j hlt
      have hps := HS.out.at j hlt
      obtain ⟨p, hp⟩ : ∃ p, ps[j] = p := ⟨_, rfl⟩
      rw [hp] at hcj hd hps
      clear hc hp
      have hK := HK.out
      rw [hd] at hK
      unfold Lx.firstFrom at hK
      clear HK hd
      have cB := fun w => notBlank_any p w (by omega)
      generalize Lx.blank p.data.toList = X at *
      have HB := Lib.hid cB
      clear cB
      cases X
      · have HN : Hid (some j = ANS) := Lib.hid (by simpa using hK)
        clear hK
        go_wp2_with (go_at_call 68; refine (HB.out _).mono ?_; rintro e w' ⟨rfl, rfl⟩)
        go_ret
        exact ⟨by rw [← HN.out]; rfl, rfl⟩
      · have HN : Hid (Lx.firstFrom ((byts ps).drop (j + 1)) (j + 1) = ANS) := Lib.hid (by simpa using hK)
        clear hK
        go_wp2_with (go_at_call 68; refine (HB.out _).mono ?_; rintro e w' ⟨rfl, rfl⟩)
        go_round
        case rel => exact ⟨j + 1, by omega, by go_num, HN⟩
        case measure => simp [intOf]; omega
    · have HN : Hid (none = ANS) := by
        have := HK.out; rw [byts_nil ps j (by omega)] at this; exact this
      clear HK
      go_wp2
      go_ret
      exact ⟨by rw [← HN.out]; rfl, rfl⟩

set_option maxHeartbeats 1000000 in
theorem firstIndent_any (a : Option Addr) (cap B : Nat) (ps : List ByteArray) (w : World) (hr : RdS w B a ps) (hsh : Short ps) (hn : ps.length ≤ 1000000) :
    Calls Tryz.prog 46 #[.slice a ps.length cap] w fun e w' => e = .returned (.int .i64 (Lx.firstIndent (byts ps) : Nat)) ∧ w = w' := by
  have cF := first_any a cap B ps w hr hsh hn
  unfold Lx.firstIndent
  cases h : Lx.firstFrom (byts ps) 0 with
  | none =>
    rw [h] at cF
    have HF : Hid (Calls Tryz.prog 67 #[.slice a ps.length cap, .func (.func 68) #[] #[]] w fun e w' => e = .returned (.int .i64 (-1)) ∧ w = w') := cF
    clear cF
    go_enter Tryz.func46, Tryz.ntmps46
    go_wp2_with (go_at_call 67; refine HF.out.mono ?_; rintro e w' ⟨rfl, rfl⟩)
    go_ret
    exact ⟨rfl, rfl⟩
  | some k =>
    rw [h] at cF
    have hk := Lx.firstFrom_lt _ _ _ h
    rw [byts_len] at hk
    have hkl : k < ps.length := by omega
    have HF : Hid (Calls Tryz.prog 67 #[.slice a ps.length cap, .func (.func 68) #[] #[]] w fun e w' => e = .returned (.int .i64 (k : Int)) ∧ w = w') := cF
    clear cF h
    obtain ⟨g, off, rfl, hg, hc⟩ := hr (by omega)
    have hcj := hc k hkl
    have hps := hsh.at k hkl
    simp only
    rw [byts_getD ps k hkl]
    obtain ⟨p, hp⟩ : ∃ p, ps[k] = p := ⟨_, rfl⟩
    rw [hp] at hcj hps ⊢
    clear hc hp hr hsh
    have cI := fun w => indent_any p w (by omega)
    generalize Lx.blanks p.data.toList = Y at *
    have HI := Lib.hid cI
    clear cI
    go_enter Tryz.func46, Tryz.ntmps46
    go_wp2_with (first
      | (go_at_call 67; refine HF.out.mono ?_; rintro e w' ⟨rfl, rfl⟩)
      | (go_at_call 18; refine (HI.out _).mono ?_; rintro e w' ⟨rfl, rfl⟩))
    go_ret
    exact ⟨rfl, rfl⟩
end Go.Proofs.YtmhakkahclbbjaaGreatDoor
