/-
  Walks of lines: Indent, isBlank, isMark, markOf.
  Walks of lines over pieces: textSize, withoutTail, slices.IndexFunc, firstIndent.
  Walks of lex: kindOf, upTo with its two ends, sizeOf's closures.
  Walks of scalar.End: where a quoted text ends.
  Walk of lex.sizeOf.
  utf8.ValidString's contract, laid at this program (the shelf's own command; no walk).
  What the package-level variables hold: the word 'Env', carried from world to world.
-/
import Derived.Test.YtjcfmghijfnehaaGreatDoorLe
import Derived.Test.YtjcfmghijfnehaaGreatDoorSa
import Derived.Shelf.Abstract
import Derived.Lib.Strings
import Derived.Shelf.Unicode.ValidAny
import Derived.Test.YtjcfmghijfnehaaGreatDoorProg
import Derived.Lib.OthersKept
namespace Go.Proofs.YtjcfmghijfnehaaGreatDoor
open Go.RowKit

set_option maxHeartbeats 1000000 in
theorem indent_any (s : ByteArray) (w : World) (hs : s.size ≤ 1000000000) :
    Calls Tryz.prog 88 #[.string s] w fun e w' => e = .returned (.int .i64 (Lx.blanks s.data.toList : Nat)) ∧ w = w' := by
  have cT := fun w => Tryz.strings_TrimLeft_one s 32 (by decide) w
  have hl := Lx.blanks_trim s.data.toList
  rw [ba_len] at hl
  generalize Lib.trimLeftB s.data.toList 32 = Y at *
  have hY : (⟨Y.toArray⟩ : ByteArray).size = Y.length := by show Y.toArray.size = _; simp
  have HT := Lib.hid cT
  generalize Lx.blanks s.data.toList = B at *
  clear cT
  go_enter Tryz.func88, Tryz.ntmps88
  go_wp2_with (go_at_call 154; refine (HT.out _).mono ?_; rintro e w' ⟨rfl, rfl⟩)
  go_ret
  exact ⟨ret_int (by first | omega | (rw [hY]; omega) | (simp [hY]; omega)), rfl⟩

set_option maxHeartbeats 1000000 in
theorem blank_any (s : ByteArray) (w : World) (hs : s.size ≤ 1000000000) :
    Calls Tryz.prog 89 #[.string s] w fun e w' => e = .returned (.bool (Lx.blank s.data.toList)) ∧ w = w' := by
  have cI := fun w => indent_any s w hs
  unfold Lx.blank
  rw [ba_len]
  generalize Lx.blanks s.data.toList = B at *
  have HI := Lib.hid cI
  clear cI
  go_enter Tryz.func89, Tryz.ntmps89
  go_wp2_with (go_at_call 88; refine (HI.out _).mono ?_; rintro e w' ⟨rfl, rfl⟩)
  go_ret
  exact ⟨ret_bool (by rw [Bool.eq_iff_iff]; simp; omega), rfl⟩

theorem trim_len (l p : List UInt8) : (Lib.trimPrefix l p).length ≤ l.length := by
  unfold Lib.trimPrefix
  split
  · rw [List.length_drop]; omega
  · exact Nat.le_refl _

set_option maxHeartbeats 1000000 in
theorem mark1_any (s p : ByteArray) (w : World) (hs : s.size ≤ 1000000000) :
    Calls Tryz.prog 153 #[.string s, .string p] w fun e w' => e = .returned (.bool (Lx.isMark s.data.toList p.data.toList)) ∧ w = w' := by
  have cC := fun w => Tryz.strings_CutPrefix s p w
  unfold Lx.isMark
  have hle := trim_len s.data.toList p.data.toList
  rw [ba_len] at hle
  generalize Lib.trimPrefix s.data.toList p.data.toList = R at *
  generalize Lib.hasPrefix s.data.toList p.data.toList = F at *
  obtain ⟨r, hr⟩ : ∃ r : ByteArray, r = ⟨R.toArray⟩ := ⟨_, rfl⟩
  have hR : R = r.data.toList := by rw [hr]
  rw [← hr] at cC
  subst hR
  clear hr
  rw [ba_len] at hle
  have cB := fun w => blank_any r w (by omega)
  have cI := fun w => indent_any r w (by omega)
  have HC := Lib.hid cC
  have HB := Lib.hid cB
  have HI := Lib.hid cI
  clear cC cB cI
  cases F
  · go_enter Tryz.func153, Tryz.ntmps153
    go_wp2_with (go_at_call 207; refine (HC.out _).mono ?_; rintro e w' ⟨rfl, rfl⟩)
    go_ret
    exact ⟨rfl, rfl⟩
  · rw [Bool.true_and]
    by_cases hb : Lx.blank r.data.toList = true
    · have HB' := HB
      rw [hb] at HB'
      rw [hb, Bool.true_or]
      clear HB
      go_enter Tryz.func153, Tryz.ntmps153
      go_wp2_with (first
        | (go_at_call 207; refine (HC.out _).mono ?_; rintro e w' ⟨rfl, rfl⟩)
        | (go_at_call 89; refine (HB'.out _).mono ?_; rintro e w' ⟨rfl, rfl⟩))
      go_ret
      exact ⟨rfl, rfl⟩
    · have hb' : Lx.blank r.data.toList = false := by simpa using hb
      have hlt : Lx.blanks r.data.toList < r.size := by
        have h1 := Lx.blanks_le r.data.toList
        rw [ba_len] at h1
        unfold Lx.blank at hb'
        rw [ba_len] at hb'
        have := beq_eq_false_iff_ne.1 hb'
        omega
      generalize Lx.blanks r.data.toList = K at *
      rw [hb', Bool.false_or, Lx.getD_at r 0 (by omega), Lx.getD_at r K hlt]
      have HB' := HB
      rw [hb'] at HB'
      clear HB hb hb'
      unfold Lx.isB
      have h0 : 0 < r.size := by omega
      go_enter Tryz.func153, Tryz.ntmps153
      go_wp2_with (first
        | (go_at_call 207; refine (HC.out _).mono ?_; rintro e w' ⟨rfl, rfl⟩)
        | (go_at_call 89; refine (HB'.out _).mono ?_; rintro e w' ⟨rfl, rfl⟩)
        | (go_at_call 88; refine (HI.out _).mono ?_; rintro e w' ⟨rfl, rfl⟩))
      all_goals go_ret
      all_goals exact ⟨ret_bool (by clear HC HB' HI; simp_all), rfl⟩

set_option maxHeartbeats 1000000 in
theorem mark_any (s : ByteArray) (w : World) (hs : s.size ≤ 1000000000) :
    Calls Tryz.prog 87 #[.string s] w fun e w' => e = .returned (.int .i64 (Lx.markOf s.data.toList : Nat)) ∧ w = w' := by
  unfold Lx.markOf
  go_enter Tryz.func87, Tryz.ntmps87
  go_wp2_with (go_at_call 153; refine (mark1_any _ _ _ hs).mono ?_; rintro e w' ⟨rfl, rfl⟩)
  all_goals go_ret
  all_goals exact ⟨ret_int (by simp_all), rfl⟩
end Go.Proofs.YtjcfmghijfnehaaGreatDoor
namespace Go.Proofs.YtjcfmghijfnehaaGreatDoor
open Go.RowKit

/-- the bytes of pieces -/
def byts (ps : List ByteArray) : List (List UInt8) := ps.map (·.data.toList)
/-- a slice of texts that is read: it lies below block B -/
def RdS (w : World) (B : Nat) (a : Option Addr) (ps : List ByteArray) : Prop :=
  0 < ps.length → ∃ g off, a = some ⟨g, off, none⟩ ∧ g < B ∧ ∀ (j : Nat) (h : j < ps.length), w.cell? ⟨g, off + j, none⟩ = some (.string (ps[j]'h))
theorem RdS.below {w w' : World} {B : Nat} {a : Option Addr} {l : List ByteArray} (h : RdS w B a l) (hb : Below B w w') : RdS w' B a l := fun h0 => by
  obtain ⟨g, off, e, hg, hc⟩ := h h0
  exact ⟨g, off, e, hg, fun j hj => (hb.cell (p := ⟨g, off + j, none⟩) hg).trans (hc j hj)⟩
theorem RdS.more {w : World} {B B' : Nat} {a : Option Addr} {l : List ByteArray} (h : RdS w B a l) (hB : B ≤ B') : RdS w B' a l := fun h0 => by
  obtain ⟨g, off, e, hg, hc⟩ := h h0
  exact ⟨g, off, e, by omega, hc⟩
theorem RdS.take {w : World} {B : Nat} {a : Option Addr} {l : List ByteArray} (h : RdS w B a l) (k : Nat) : RdS w B a (l.take k) := fun h0 => by
  rw [List.length_take] at h0
  obtain ⟨g, off, e, hg, hc⟩ := h (by omega)
  refine ⟨g, off, e, hg, fun j hj => ?_⟩
  rw [List.length_take] at hj
  rw [hc j (by omega), List.getElem_take]
/-- no piece is too long -/
def Short (ps : List ByteArray) : Prop := ∀ p ∈ ps, p.size ≤ 1000000
theorem Short.at {ps : List ByteArray} (h : Short ps) (k : Nat) (hk : k < ps.length) : ps[k].size ≤ 1000000 := h _ (List.getElem_mem hk)
theorem Short.take {ps : List ByteArray} (h : Short ps) (k : Nat) : Short (ps.take k) := fun p hp => h p (List.mem_of_mem_take hp)
theorem Short.drop {ps : List ByteArray} (h : Short ps) (k : Nat) : Short (ps.drop k) := fun p hp => h p (List.mem_of_mem_drop hp)
theorem byts_drop (ps : List ByteArray) (k : Nat) (hk : k < ps.length) : (byts ps).drop k = ps[k].data.toList :: (byts ps).drop (k + 1) := by
  unfold byts
  rw [List.drop_eq_getElem_cons (by simpa using hk)]; simp
theorem byts_len (ps : List ByteArray) : (byts ps).length = ps.length := by simp [byts]
theorem byts_getD (ps : List ByteArray) (k : Nat) (hk : k < ps.length) : (byts ps).getD k [] = ps[k].data.toList := by
  simp [byts, List.getD, hk]
theorem byts_nil (ps : List ByteArray) (k : Nat) (hk : ps.length ≤ k) : (byts ps).drop k = [] := List.drop_eq_nil_of_le (by rw [byts_len]; exact hk)

set_option maxHeartbeats 1000000 in
theorem textSize_any (a : Option Addr) (cap B ind : Nat) (ps : List ByteArray) (w : World) (hr : RdS w B a ps) (hsh : Short ps) (hn : ps.length ≤ 1000000) :
    Calls Tryz.prog 56 #[.slice a ps.length cap, .int .i64 ind] w fun e w' => e = .returned (.int .i64 (Lx.textSize ind (byts ps) : Nat)) ∧ w = w' := by
  obtain ⟨ANS, hANS⟩ : ∃ ANS, Lx.textSize ind (byts ps) = ANS := ⟨_, rfl⟩
  rw [hANS]
  have HA := Lib.hid hANS
  have HR := Lib.hid hr
  have HS := Lib.hid hsh
  clear hANS hr hsh
  go_enter Tryz.func56, Tryz.ntmps56
  go_wp2
  go_loop [9] (fun i => ∃ j : Nat, j ≤ ps.length ∧ i = .int .i64 j ∧ Hid (j + Lx.textSize ind ((byts ps).drop j) = ANS)) (fun i => ps.length - (intOf i).toNat)
  case atStart => exact ⟨0, by omega, rfl, by have := HA.out; show 0 + _ = _; rw [Nat.zero_add]; exact this⟩
  case round =>
    obtain ⟨j, hj, rfl, HK⟩ := hrel
    clear HA
    by_cases hlt : j < ps.length
    · obtain ⟨g, off, rfl, hg, hc⟩ := HR.out (by omega)
      have hcj := hc j hlt
      have hd := byts_drop ps j hlt
      have hps := HS.out.at j hlt
      obtain ⟨p, hp⟩ : ∃ p, ps[j] = p := ⟨_, rfl⟩
      rw [hp] at hcj hd hps
      clear hc hp
      have hK := HK.out
      rw [hd] at hK
      unfold Lx.textSize at hK
      clear HK hd
      have cB := fun w => blank_any p w (by omega)
      have cI := fun w => indent_any p w (by omega)
      generalize Lx.blank p.data.toList = X at *
      have hbl := Lx.blanks_le p.data.toList
      rw [ba_len] at hbl
      generalize Lx.blanks p.data.toList = Y at *
      have HB := Lib.hid cB
      have HI := Lib.hid cI
      clear cB cI
      cases X
      · by_cases hY : Y ≤ ind
        · have HN : Hid (j = ANS) := by
            have := hK; simp [hY] at this; exact this
          have b1 : decide (Y ≤ ind) = true := decide_eq_true hY
          clear hK
          go_wp2_with (first
            | (go_at_call 89; refine (HB.out _).mono ?_; rintro e w' ⟨rfl, rfl⟩)
            | (go_at_call 88; refine (HI.out _).mono ?_; rintro e w' ⟨rfl, rfl⟩))
          go_ret
          exact ⟨by rw [← HN.out]; rfl, rfl⟩
        · have HN : Hid (j + 1 + Lx.textSize ind ((byts ps).drop (j + 1)) = ANS) := by
            have := hK; simp [hY] at this; show j + 1 + _ = _; omega
          have b1 : decide (Y ≤ ind) = false := decide_eq_false hY
          clear hK
          go_wp2_with (first
            | (go_at_call 89; refine (HB.out _).mono ?_; rintro e w' ⟨rfl, rfl⟩)
            | (go_at_call 88; refine (HI.out _).mono ?_; rintro e w' ⟨rfl, rfl⟩))
          go_round
          case rel => exact ⟨j + 1, by omega, by go_num, HN⟩
          case measure => simp [intOf]; omega
      · have HN : Hid (j + 1 + Lx.textSize ind ((byts ps).drop (j + 1)) = ANS) := by
          have := hK; simp at this; show j + 1 + _ = _; omega
        clear hK
        go_wp2_with (first
          | (go_at_call 89; refine (HB.out _).mono ?_; rintro e w' ⟨rfl, rfl⟩)
          | (go_at_call 88; refine (HI.out _).mono ?_; rintro e w' ⟨rfl, rfl⟩))
        go_round
        case rel => exact ⟨j + 1, by omega, by go_num, HN⟩
        case measure => simp [intOf]; omega
    · have HN : Hid (j = ANS) := by
        have := HK.out; rw [byts_nil ps j (by omega)] at this; exact this
      have hje : j = ps.length := by omega
      clear HK
      go_wp2
      go_ret
      exact ⟨by rw [← HN.out, hje]; rfl, rfl⟩

set_option maxHeartbeats 1000000 in
theorem tail_any (a : Option Addr) (cap B : Nat) (ps : List ByteArray) (w : World) (hr : RdS w B a ps) (hsh : Short ps) (hn : ps.length ≤ 1000000) :
    Calls Tryz.prog 90 #[.slice a ps.length cap] w fun e w' => e = .returned (.int .i64 (Lx.withoutTail (byts ps) : Nat)) ∧ w = w' := by
  obtain ⟨ANS, hANS⟩ : ∃ ANS, Lx.withoutTail (byts ps) = ANS := ⟨_, rfl⟩
  rw [hANS]
  have HA : Hid (Lx.tailGo (byts ps) ps.length = ANS) := by
    show Lx.tailGo (byts ps) ps.length = ANS
    rw [← byts_len]; exact hANS
  have HR := Lib.hid hr
  have HS := Lib.hid hsh
  clear hANS hr hsh
  go_enter Tryz.func90, Tryz.ntmps90
  go_wp2
  go_loop [3] (fun i => ∃ j : Nat, j ≤ ps.length ∧ i = .int .i64 j ∧ Hid (Lx.tailGo (byts ps) j = ANS)) (fun i => (intOf i).toNat)
  case atStart => exact ⟨ps.length, Nat.le_refl _, rfl, HA⟩
  case round =>
    obtain ⟨j, hj, rfl, HK⟩ := hrel
    clear HA
    by_cases h0 : j = 0
    · subst h0
      have HN : Hid (0 = ANS) := HK
      clear HK
      go_wp2
      go_ret
      exact ⟨by rw [← HN.out]; rfl, rfl⟩
    · obtain ⟨k, rfl⟩ : ∃ k, j = k + 1 := ⟨j - 1, by omega⟩
      obtain ⟨g, off, rfl, hg, hc⟩ := HR.out (by omega)
      have hcj := hc k (by omega)
      have hd := byts_getD ps k (by omega)
      have hps := HS.out.at k (by omega)
      obtain ⟨p, hp⟩ : ∃ p, ps[k] = p := ⟨_, rfl⟩
      rw [hp] at hcj hd hps
      clear hc hp
      have hK := HK.out
      unfold Lx.tailGo at hK
      rw [hd] at hK
      clear HK hd
      have cB := fun w => blank_any p w (by omega)
      generalize Lx.blank p.data.toList = X at *
      have HB := Lib.hid cB
      clear cB h0
      have e1 : ((k + 1 : Nat) : Int) - 1 = (k : Int) := by omega
      cases X
      · have HN : Hid (k + 1 = ANS) := Lib.hid (by simpa using hK)
        clear hK
        go_wp2_with (go_at_call 89; refine (HB.out _).mono ?_; rintro e w' ⟨rfl, rfl⟩)
        go_ret
        exact ⟨by rw [← HN.out]; rfl, rfl⟩
      · have HN : Hid (Lx.tailGo (byts ps) k = ANS) := Lib.hid (by simpa using hK)
        clear hK
        go_wp2_with (go_at_call 89; refine (HB.out _).mono ?_; rintro e w' ⟨rfl, rfl⟩)
        go_round
        case rel => exact ⟨k, by omega, by go_num, HN⟩
        case measure => simp [intOf]

set_option maxHeartbeats 1000000 in
theorem notBlank_any (s : ByteArray) (w : World) (hs : s.size ≤ 1000000000) :
    Calls Tryz.prog 156 #[.string s] w fun e w' => e = .returned (.bool (!Lx.blank s.data.toList)) ∧ w = w' := by
  have cB := fun w => blank_any s w hs
  generalize Lx.blank s.data.toList = X at *
  have HB := Lib.hid cB
  clear cB
  go_enter Tryz.func156, Tryz.ntmps156
  go_wp2_with (go_at_call 89; refine (HB.out _).mono ?_; rintro e w' ⟨rfl, rfl⟩)
  go_ret
  exact ⟨rfl, rfl⟩

def idxR (o : Option Nat) : Int := match o with
  | some k => (k : Int)
  | none => -1

set_option maxHeartbeats 1000000 in
theorem first_any (a : Option Addr) (cap B : Nat) (ps : List ByteArray) (w : World) (hr : RdS w B a ps) (hsh : Short ps) (hn : ps.length ≤ 1000000) :
    Calls Tryz.prog 155 #[.slice a ps.length cap, .func (.func 156) #[] #[]] w fun e w' => e = .returned (.int .i64 (idxR (Lx.firstFrom (byts ps) 0))) ∧ w = w' := by
  obtain ⟨ANS, hANS⟩ : ∃ ANS, Lx.firstFrom (byts ps) 0 = ANS := ⟨_, rfl⟩
  rw [hANS]
  have HA := Lib.hid hANS
  have HR := Lib.hid hr
  have HS := Lib.hid hsh
  clear hANS hr hsh
  go_enter Tryz.func155, Tryz.ntmps155
  go_wp2
  go_loop [8] (fun i => ∃ j : Nat, j ≤ ps.length ∧ i = .int .i64 j ∧ Hid (Lx.firstFrom ((byts ps).drop j) j = ANS)) (fun i => ps.length - (intOf i).toNat)
  case atStart => exact ⟨0, by omega, rfl, HA⟩
  case round =>
    obtain ⟨j, hj, rfl, HK⟩ := hrel
    clear HA
    by_cases hlt : j < ps.length
    · obtain ⟨g, off, rfl, hg, hc⟩ := HR.out (by omega)
      have hcj := hc j hlt
      have hd := byts_drop ps j hlt
      have hps := HS.out.at j hlt
      obtain ⟨p, hp⟩ : ∃ p, ps[j] = p := ⟨_, rfl⟩
      rw [hp] at hcj hd hps
      clear hc hp
      have hK := HK.out
      rw [hd] at hK
      unfold Lx.firstFrom at hK
      clear HK hd
      have cB := fun w => notBlank_any p w (by omega)
      generalize Lx.blank p.data.toList = X at *
      have HB := Lib.hid cB
      clear cB
      cases X
      · have HN : Hid (some j = ANS) := Lib.hid (by simpa using hK)
        clear hK
        go_wp2_with (go_at_call 156; refine (HB.out _).mono ?_; rintro e w' ⟨rfl, rfl⟩)
        go_ret
        exact ⟨by rw [← HN.out]; rfl, rfl⟩
      · have HN : Hid (Lx.firstFrom ((byts ps).drop (j + 1)) (j + 1) = ANS) := Lib.hid (by simpa using hK)
        clear hK
        go_wp2_with (go_at_call 156; refine (HB.out _).mono ?_; rintro e w' ⟨rfl, rfl⟩)
        go_round
        case rel => exact ⟨j + 1, by omega, by go_num, HN⟩
        case measure => simp [intOf]; omega
    · have HN : Hid (none = ANS) := by
        have := HK.out; rw [byts_nil ps j (by omega)] at this; exact this
      clear HK
      go_wp2
      go_ret
      exact ⟨by rw [← HN.out]; rfl, rfl⟩

set_option maxHeartbeats 1000000 in
theorem firstIndent_any (a : Option Addr) (cap B : Nat) (ps : List ByteArray) (w : World) (hr : RdS w B a ps) (hsh : Short ps) (hn : ps.length ≤ 1000000) :
    Calls Tryz.prog 91 #[.slice a ps.length cap] w fun e w' => e = .returned (.int .i64 (Lx.firstIndent (byts ps) : Nat)) ∧ w = w' := by
  have cF := first_any a cap B ps w hr hsh hn
  unfold Lx.firstIndent
  cases h : Lx.firstFrom (byts ps) 0 with
  | none =>
    rw [h] at cF
    have HF : Hid (Calls Tryz.prog 155 #[.slice a ps.length cap, .func (.func 156) #[] #[]] w fun e w' => e = .returned (.int .i64 (-1)) ∧ w = w') := cF
    clear cF
    go_enter Tryz.func91, Tryz.ntmps91
    go_wp2_with (go_at_call 155; refine HF.out.mono ?_; rintro e w' ⟨rfl, rfl⟩)
    go_ret
    exact ⟨rfl, rfl⟩
  | some k =>
    rw [h] at cF
    have hk := Lx.firstFrom_lt _ _ _ h
    rw [byts_len] at hk
    have hkl : k < ps.length := by omega
    have HF : Hid (Calls Tryz.prog 155 #[.slice a ps.length cap, .func (.func 156) #[] #[]] w fun e w' => e = .returned (.int .i64 (k : Int)) ∧ w = w') := cF
    clear cF h
    obtain ⟨g, off, rfl, hg, hc⟩ := hr (by omega)
    have hcj := hc k hkl
    have hps := hsh.at k hkl
    simp only
    rw [byts_getD ps k hkl]
    obtain ⟨p, hp⟩ : ∃ p, ps[k] = p := ⟨_, rfl⟩
    rw [hp] at hcj hps ⊢
    clear hc hp hr hsh
    have cI := fun w => indent_any p w (by omega)
    generalize Lx.blanks p.data.toList = Y at *
    have HI := Lib.hid cI
    clear cI
    go_enter Tryz.func91, Tryz.ntmps91
    go_wp2_with (first
      | (go_at_call 155; refine HF.out.mono ?_; rintro e w' ⟨rfl, rfl⟩)
      | (go_at_call 88; refine (HI.out _).mono ?_; rintro e w' ⟨rfl, rfl⟩))
    go_ret
    exact ⟨rfl, rfl⟩
end Go.Proofs.YtjcfmghijfnehaaGreatDoor
namespace Go.Proofs.YtjcfmghijfnehaaGreatDoor
open Go.RowKit

set_option maxHeartbeats 2000000 in
theorem kind_any (s : ByteArray) (d : Bool) (w : World) (hs : s.size ≤ 1000000) (h0 : 0 < s.size) :
    Calls Tryz.prog 82 #[.string s, .bool d] w fun e w' => e = .returned (.int .i64 (Lx.kindOf s.data.toList d : Nat)) ∧ w = w' := by
  have hb := s[0].toNat_lt
  unfold Lx.kindOf
  rw [Lx.getD_at s 0 h0]
  have cD := fun w => dash_any s w
  have cC := fun w => colon_any s 0 w hs h0
  have cB := fun w => bar_any s w hs h0
  generalize Lx.dash s.data.toList = D at *
  generalize Lx.colonAt s.data.toList 0 = C at *
  generalize Lx.bar s.data.toList = B at *
  unfold Lx.isB
  have HD := Lib.hid cD
  have HC := Lib.hid cC
  have HB := Lib.hid cB
  clear cD cC cB
  cases d
  all_goals
    go_enter Tryz.func82, Tryz.ntmps82
    go_wp2_with (first
      | (go_at_call 130; refine (HD.out _).mono ?_; rintro e w' ⟨rfl, rfl⟩)
      | (go_at_call 131; refine (HC.out _).mono ?_; rintro e w' ⟨rfl, rfl⟩)
      | (go_at_call 132; refine (HB.out _).mono ?_; rintro e w' ⟨rfl, rfl⟩))
    all_goals go_ret
    all_goals exact ⟨ret_int (by clear HD HC HB; simp_all), rfl⟩

set_option maxHeartbeats 1000000 in
theorem endW_any (s : ByteArray) (b k : Nat) (w : World) (hs : s.size ≤ 1000000) (hk : k < s.size) (hc : w.cell? ⟨b, 0, none⟩ = some (.string s)) :
    Calls Tryz.prog 135 #[.int .i64 k, .pointer (some ⟨b, 0, none⟩)] w fun e w' => e = .returned (.bool (Lx.endW s.data.toList k)) ∧ w = w' := by
  unfold Lx.endW
  rw [Lx.getD_at s k hk]
  have cC := fun w => colon_any s k w hs hk
  have cF := fun w => flow_any s[k] w
  generalize Lx.colonAt s.data.toList k = C at *
  generalize Lx.flow s[k] = F at *
  unfold Lx.isB
  have HC := Lib.hid cC
  have HF := Lib.hid cF
  clear cC cF
  go_enter Tryz.func135, Tryz.ntmps135
  go_wp2_with (first
    | (go_at_call 136; refine (HF.out _).mono ?_; rintro e w' ⟨rfl, rfl⟩)
    | (go_at_call 131; refine (HC.out _).mono ?_; rintro e w' ⟨rfl, rfl⟩))
  all_goals go_ret
  all_goals exact ⟨ret_bool (by clear HC HF; simp_all), rfl⟩

set_option maxHeartbeats 1000000 in
theorem endP_any (s : ByteArray) (b k : Nat) (w : World) (hs : s.size ≤ 1000000) (hk : k < s.size) (hc : w.cell? ⟨b, 0, none⟩ = some (.string s)) :
    Calls Tryz.prog 137 #[.int .i64 k, .pointer (some ⟨b, 0, none⟩)] w fun e w' => e = .returned (.bool (Lx.endP s.data.toList k)) ∧ w = w' := by
  unfold Lx.endP
  rw [Lx.getD_at s k hk]
  have cC := fun w => colon_any s k w hs hk
  have cF := fun w => flow_any s[k] w
  have cR := fun w => remark_any s k w hs hk
  generalize Lx.colonAt s.data.toList k = C at *
  generalize Lx.flow s[k] = F at *
  generalize Lx.remarkAt s.data.toList k = R at *
  have HC := Lib.hid cC
  have HF := Lib.hid cF
  have HR := Lib.hid cR
  clear cC cF cR
  go_enter Tryz.func137, Tryz.ntmps137
  go_wp2_with (first
    | (go_at_call 136; refine (HF.out _).mono ?_; rintro e w' ⟨rfl, rfl⟩)
    | (go_at_call 131; refine (HC.out _).mono ?_; rintro e w' ⟨rfl, rfl⟩)
    | (go_at_call 81; refine (HR.out _).mono ?_; rintro e w' ⟨rfl, rfl⟩))
  all_goals go_ret
  all_goals exact ⟨ret_bool (by clear HC HF HR; simp_all), rfl⟩

/-- upTo, whatever the function value is, if it answers so -/
theorem upTo_any (g : Nat) (lb : Array Value) (f : Nat → Bool) (s : ByteArray) (w : World) (hs : s.size ≤ 1000000) (h0 : 0 < s.size)
    (eg : ∀ args w, (callFunc g args).run Tryz.prog w = .ok (.enter g args) w)
    (hf : ∀ k : Nat, k < s.size → Calls Tryz.prog g (#[.int .i64 k] ++ lb) w fun e w' => e = .returned (.bool (f k)) ∧ w = w') :
    Calls Tryz.prog 134 #[.string s, .func (.func g) #[] lb] w fun e w' => e = .returned (.int .i64 (Lx.upTo f s.size s.size 1 : Nat)) ∧ w = w' := by
  obtain ⟨ANS, hANS⟩ : ∃ ANS, Lx.upTo f s.size s.size 1 = ANS := ⟨_, rfl⟩
  rw [hANS]
  have HA := Lib.hid hANS
  have HF := Lib.hid hf
  clear hANS hf
  go_enter Tryz.func134, Tryz.ntmps134
  go_wp2
  go_loop [5] (fun i => ∃ j : Nat, 1 ≤ j ∧ j ≤ s.size ∧ i = .int .i64 j ∧ Hid (Lx.upTo f s.size (s.size + 1 - j) j = ANS)) (fun i => s.size - (intOf i).toNat)
  case atStart => exact ⟨1, by omega, by omega, rfl, HA⟩
  case round =>
    obtain ⟨j, hj1, hj, rfl, HK⟩ := hrel
    clear HA
    by_cases hlt : j < s.size
    · have HS : Hid (Lx.upTo f s.size (s.size + 1 - j) j = if f j then j else Lx.upTo f s.size (s.size - j) (j + 1)) := by
        have := Lx.upTo_step f s.size (s.size - j) j hlt
        rw [show s.size - j + 1 = s.size + 1 - j by omega] at this
        exact this
      have cF := HF.out j hlt
      cases hfj : f j
      · have HN : Hid (Lx.upTo f s.size (s.size + 1 - (j + 1)) (j + 1) = ANS) := by
          have := HS.out; rw [hfj] at this
          show Lx.upTo f s.size (s.size + 1 - (j + 1)) (j + 1) = ANS
          rw [show s.size + 1 - (j + 1) = s.size - j by omega]
          exact this.symm.trans HK.out
        rw [hfj] at cF
        clear HS HK hfj
        go_wp2_with (go_at_fn g; refine cF.mono ?_; rintro e w' ⟨rfl, rfl⟩)
        go_round
        case rel => exact ⟨j + 1, by omega, by omega, by go_num, HN⟩
        case measure => simp [intOf]; omega
      · have HN : Hid (j = ANS) := by
          have := HS.out; rw [hfj] at this; exact this.symm.trans HK.out
        rw [hfj] at cF
        clear HS HK hfj
        go_wp2_with (go_at_fn g; refine cF.mono ?_; rintro e w' ⟨rfl, rfl⟩)
        go_ret
        exact ⟨by rw [← HN.out]; rfl, rfl⟩
    · have HN : Hid (s.size = ANS) := by
        have := HK.out; rw [Lx.upTo_end _ _ _ _ (by omega)] at this; exact this
      clear HK
      go_wp2
      go_ret
      exact ⟨by rw [← HN.out]; rfl, rfl⟩
end Go.Proofs.YtjcfmghijfnehaaGreatDoor
namespace Go.Proofs.YtjcfmghijfnehaaGreatDoor
open Go.RowKit

theorem ba_isEmpty (s : ByteArray) (h : 0 < s.size) : s.toList.isEmpty = false := by
  rw [Lib.toList_data]
  cases hl : s.data.toList with
  | nil => have := Lib.size_eq s; rw [hl] at this; rw [List.length_nil] at this; omega
  | cons _ _ => rfl
theorem ba_notnil (s : ByteArray) (h : 0 < s.size) : ¬ s.toList = [] := by
  intro e; have := ba_isEmpty s h; rw [e] at this; simp at this
theorem ba_list (s : ByteArray) (h : 0 < s.size) : s.data.toList = s[0] :: s.data.toList.drop 1 := Sc.drop_cons s 0 h

/-- End's answer as Go gives it -/
def endR (o : Option Nat) : Ending := .returned (.tuple #[.int .i64 (o.getD 0 : Nat), .int .i64 (if o.isSome then 0 else 10)])

set_option maxHeartbeats 400000 in
theorem endD_any (s : ByteArray) (w : World) (hs : s.size ≤ 1000000) (h0 : 0 < s.size) (hq : (s[0].toNat : Int) = 34) :
    Calls Tryz.prog 133 #[.string s] w fun e w' => e = endR (Sc.endD (s.data.toList.drop 1) 1) ∧ w = w' := by
  have hemp := ba_isEmpty s h0
  have hnil := ba_notnil s h0
  obtain ⟨ANS, hANS⟩ : ∃ ANS, Sc.endD (s.data.toList.drop 1) 1 = ANS := ⟨_, rfl⟩
  rw [hANS]
  have HA : Hid (Sc.endD (s.data.toList.drop 1) 1 = ANS) := hANS
  clear hANS
  go_enter Tryz.func133, Tryz.ntmps133
  go_wp2
  go_loop [5] (fun i => ∃ k : Nat, k ≤ s.size + 1 ∧ i = .int .i64 k ∧ Hid (Sc.endD (s.data.toList.drop k) k = ANS)) (fun i => s.size + 1 - (intOf i).toNat)
  case atStart => exact ⟨1, by omega, rfl, HA⟩
  case round =>
    obtain ⟨k, hk, rfl, HK⟩ := hrel
    clear HA
    by_cases hlt : k < s.size
    · have HS : Hid (_ = _) := Sc.endD_at s k hlt
      by_cases c1 : (s[k].toNat : Int) = 92
      · have HN : Hid (Sc.endD (s.data.toList.drop (k + 2)) (k + 2) = ANS) := by
          have := HS.out; rw [if_pos c1] at this; exact this.symm.trans HK.out
        have b1 : ((s[k].toNat : Int) == 92) = true := beq_iff_eq.2 c1
        clear HS HK c1
        go_wp2
        go_round
        case rel => exact ⟨k + 2, by omega, by go_num, HN⟩
        case measure => simp [intOf]; omega
      · have b1 : ((s[k].toNat : Int) == 92) = false := beq_eq_false_iff_ne.2 c1
        by_cases c2 : (s[k].toNat : Int) = 34
        · have HN : Hid (some (k + 1) = ANS) := by
            have := HS.out; rw [if_neg c1, if_pos c2] at this; exact this.symm.trans HK.out
          have b2 : ((s[k].toNat : Int) == 34) = true := beq_iff_eq.2 c2
          clear HS HK c1 c2
          go_wp2
          go_ret2
          exact ⟨by rw [← HN.out]; rfl, rfl⟩
        · have HN : Hid (Sc.endD (s.data.toList.drop (k + 1)) (k + 1) = ANS) := by
            have := HS.out; rw [if_neg c1, if_neg c2] at this; exact this.symm.trans HK.out
          have b2 : ((s[k].toNat : Int) == 34) = false := beq_eq_false_iff_ne.2 c2
          clear HS HK c1 c2
          go_wp2
          go_round
          case rel => exact ⟨k + 1, by omega, by go_num, HN⟩
          case measure => simp [intOf]; omega
    · have HN : Hid (none = ANS) := by
        have := HK.out; rw [Sc.drop_nil s k (by omega)] at this; exact this
      clear HK
      go_wp2
      go_ret2
      exact ⟨by rw [← HN.out]; rfl, rfl⟩

/-- behind a single quote, at a place: as HasPrefix tells it -/
theorem endS_at (s : ByteArray) (k : Nat) (h : k < s.size) :
    Sc.endS (s.data.toList.drop k) k = if Lib.hasPrefix (s.data.toList.drop k) [39, 39] = true then Sc.endS (s.data.toList.drop (k + 2)) (k + 2) else if (s[k].toNat : Int) = 39 then some (k + 1) else Sc.endS (s.data.toList.drop (k + 1)) (k + 1) := by
  have e2 : s.data.toList.drop (k + 2) = (s.data.toList.drop (k + 1)).drop 1 := by rw [List.drop_drop]
  rw [e2, Sc.drop_cons s k h]
  generalize s.data.toList.drop (k + 1) = t
  by_cases h2 : (s[k].toNat : Int) = 39
  · have e : s[k] = 39 := Sc.u8_eq 39 (by omega)
    rw [if_pos h2, e]
    cases t with
    | nil => simp [Lib.hasPrefix, Sc.endS]
    | cons c t =>
      by_cases hc : c = 39
      · subst hc; simp [Lib.hasPrefix, Sc.endS]
      · have hc' : ¬ (39 : UInt8) = c := fun e => hc e.symm
        simp [Lib.hasPrefix, Sc.endS, hc, hc']
  · have e : s[k] ≠ 39 := fun e => h2 (by rw [e]; rfl)
    have e' : ¬ (39 : UInt8) = s[k] := fun x => e x.symm
    rw [if_neg h2, Sc.endS_other _ _ _ e]
    simp [Lib.hasPrefix, e']

theorem pre_at (s : ByteArray) (p : ByteArray) (k : Nat) (w : World) (b : Bool) (h : Hid (Lib.hasPrefix (s.data.toList.drop k) p.data.toList = b)) :
    Calls Tryz.prog 41 #[.string (s.extract k s.size), .string p] w fun e w' => e = .returned (.bool b) ∧ w = w' := by
  refine (Tryz.strings_HasPrefix (s.extract k s.size) p w).mono ?_
  rintro e w' ⟨rfl, rfl⟩
  refine ⟨ret_bool ?_, rfl⟩
  rw [← h.out, Lib.extract_data]
  congr 1
  rw [List.take_of_length_le (by rw [List.length_drop, ← Lib.size_eq]; exact Nat.le_refl _)]

set_option maxHeartbeats 400000 in
theorem endS_any (s : ByteArray) (w : World) (hs : s.size ≤ 1000000) (h0 : 0 < s.size) (hq : (s[0].toNat : Int) = 39) :
    Calls Tryz.prog 133 #[.string s] w fun e w' => e = endR (Sc.endS (s.data.toList.drop 1) 1) ∧ w = w' := by
  have hemp := ba_isEmpty s h0
  have hnil := ba_notnil s h0
  obtain ⟨ANS, hANS⟩ : ∃ ANS, Sc.endS (s.data.toList.drop 1) 1 = ANS := ⟨_, rfl⟩
  rw [hANS]
  have HA : Hid (Sc.endS (s.data.toList.drop 1) 1 = ANS) := hANS
  clear hANS
  go_enter Tryz.func133, Tryz.ntmps133
  go_wp2
  go_loop [5] (fun i => ∃ k : Nat, k ≤ s.size + 1 ∧ i = .int .i64 k ∧ Hid (Sc.endS (s.data.toList.drop k) k = ANS)) (fun i => s.size + 1 - (intOf i).toNat)
  case atStart => exact ⟨1, by omega, rfl, HA⟩
  case round =>
    obtain ⟨k, hk, rfl, HK⟩ := hrel
    clear HA
    by_cases hlt : k < s.size
    · have HS : Hid (_ = _) := endS_at s k hlt
      by_cases c1 : Lib.hasPrefix (s.data.toList.drop k) [39, 39] = true
      · have HN : Hid (Sc.endS (s.data.toList.drop (k + 2)) (k + 2) = ANS) := by
          have := HS.out; rw [if_pos c1] at this; exact this.symm.trans HK.out
        have hp := Lib.hid c1
        clear HS HK c1
        go_wp2_with (go_at_call 41; refine (pre_at s ⟨#[39, 39]⟩ k _ true hp).mono ?_; rintro e w' ⟨rfl, rfl⟩)
        go_round
        case rel => exact ⟨k + 2, by omega, by go_num, HN⟩
        case measure => simp [intOf]; omega
      · have hp : Hid (Lib.hasPrefix (s.data.toList.drop k) [39, 39] = false) := by
          cases h : Lib.hasPrefix (s.data.toList.drop k) [39, 39] with
          | true => exact absurd h c1
          | false => exact (rfl : false = false)
        by_cases c2 : (s[k].toNat : Int) = 39
        · have HN : Hid (some (k + 1) = ANS) := by
            have := HS.out; rw [if_neg c1, if_pos c2] at this; exact this.symm.trans HK.out
          have b2 : ((s[k].toNat : Int) == 39) = true := beq_iff_eq.2 c2
          clear HS HK c1 c2
          go_wp2_with (go_at_call 41; refine (pre_at s ⟨#[39, 39]⟩ k _ false hp).mono ?_; rintro e w' ⟨rfl, rfl⟩)
          go_ret2
          exact ⟨by rw [← HN.out]; rfl, rfl⟩
        · have HN : Hid (Sc.endS (s.data.toList.drop (k + 1)) (k + 1) = ANS) := by
            have := HS.out; rw [if_neg c1, if_neg c2] at this; exact this.symm.trans HK.out
          have b2 : ((s[k].toNat : Int) == 39) = false := beq_eq_false_iff_ne.2 c2
          clear HS HK c1 c2
          go_wp2_with (go_at_call 41; refine (pre_at s ⟨#[39, 39]⟩ k _ false hp).mono ?_; rintro e w' ⟨rfl, rfl⟩)
          go_round
          case rel => exact ⟨k + 1, by omega, by go_num, HN⟩
          case measure => simp [intOf]; omega
    · have HN : Hid (none = ANS) := by
        have := HK.out; rw [Sc.drop_nil s k (by omega)] at this; exact this
      clear HK
      go_wp2
      go_ret2
      exact ⟨by rw [← HN.out]; rfl, rfl⟩

set_option maxHeartbeats 400000 in
theorem end_none (s : ByteArray) (w : World) (h : s.size = 0) :
    Calls Tryz.prog 133 #[.string s] w fun e w' => e = endR none ∧ w = w' := by
  obtain rfl : s = ⟨#[]⟩ := by
    cases s with
    | mk d => have hd : d.size = 0 := h
              rw [Array.size_eq_zero_iff] at hd; rw [hd]
  go_enter Tryz.func133, Tryz.ntmps133
  go_wp2
  go_ret2
  exact ⟨rfl, rfl⟩
set_option maxHeartbeats 400000 in
theorem end_other (s : ByteArray) (w : World) (h0 : 0 < s.size) (h1 : (s[0].toNat : Int) ≠ 34) (h2 : (s[0].toNat : Int) ≠ 39) :
    Calls Tryz.prog 133 #[.string s] w fun e w' => e = endR none ∧ w = w' := by
  have hemp := ba_isEmpty s h0
  have hnil := ba_notnil s h0
  have b1 : ((s[0].toNat : Int) != 34) = true := bne_iff_ne.2 h1
  have b2 : ((s[0].toNat : Int) != 39) = true := bne_iff_ne.2 h2
  go_enter Tryz.func133, Tryz.ntmps133
  go_wp2
  go_ret2
  exact ⟨rfl, rfl⟩
/-- THE CONTRACT of End: it answers what 'Sc.endOf' tells of the bytes. -/
theorem end_any (s : ByteArray) (w : World) (hs : s.size ≤ 1000000) :
    Calls Tryz.prog 133 #[.string s] w fun e w' => e = endR (Sc.endOf s.data.toList) ∧ w = w' := by
  by_cases h0 : 0 < s.size
  · have hl := ba_list s h0
    by_cases h1 : (s[0].toNat : Int) = 34
    · have e1 : s[0] = 34 := Sc.u8_eq 34 (by omega)
      have : Sc.endOf s.data.toList = Sc.endD (s.data.toList.drop 1) 1 := by rw [hl, e1]; rfl
      rw [this]
      exact endD_any s w hs h0 h1
    · have n1 : s[0] ≠ 34 := fun e => h1 (by rw [e]; rfl)
      by_cases h2 : (s[0].toNat : Int) = 39
      · have e1 : s[0] = 39 := Sc.u8_eq 39 (by omega)
        have : Sc.endOf s.data.toList = Sc.endS (s.data.toList.drop 1) 1 := by rw [hl, e1]; rfl
        rw [this]
        exact endS_any s w hs h0 h2
      · have n2 : s[0] ≠ 39 := fun e => h2 (by rw [e]; rfl)
        have : Sc.endOf s.data.toList = none := by rw [hl]; simp [Sc.endOf, n1, n2]
        rw [this]
        exact end_other s w h0 h1 h2
  · have hz : s.size = 0 := by omega
    have : s.data.toList = [] := by
      have := Lib.size_eq s; rw [hz] at this; exact List.eq_nil_of_length_eq_zero this.symm
    rw [this]
    exact end_none s w hz
end Go.Proofs.YtjcfmghijfnehaaGreatDoor
namespace Go.Proofs.YtjcfmghijfnehaaGreatDoor
namespace Lx
/-- how many bytes a word takes, or its error -/
def sizeOf (l : List UInt8) (k : Nat) : Nat × Nat :=
  if k = 1 ∨ k = 2 then (match Sc.endOf l with
    | some n => (n, 0)
    | none => (0, 10))
  else if k = 3 ∨ k = 4 ∨ k = 5 then (upTo (endW l) l.length l.length 1, 0)
  else if k = 0 then ((Lib.trimRightB (l.take (upTo (endP l) l.length l.length 1)) 32).length, 0)
  else (1, 0)
end Lx
open Go.RowKit

def pairI (p : Nat × Nat) : Ending := .returned (.tuple #[.int .i64 p.1, .int .i64 p.2])

theorem enters1 : ∀ args w, (callFunc 135 args).run Tryz.prog w = .ok (.enter 135 args) w := enters_of Tryz.func135 (by kernel_rfl) rfl
theorem enters2 : ∀ args w, (callFunc 137 args).run Tryz.prog w = .ok (.enter 137 args) w := enters_of Tryz.func137 (by kernel_rfl) rfl

set_option maxHeartbeats 2000000 in
theorem size_quote (s : ByteArray) (k : Nat) (w : World) (hs : s.size ≤ 1000000) (hk : k = 1 ∨ k = 2) :
    Calls Tryz.prog 83 #[.string s, .int .i64 k] w fun e w' => e = pairI (Lx.sizeOf s.data.toList k) ∧ Below w.heap.size w w' := by
  unfold Lx.sizeOf
  rw [if_pos hk]
  have cE := fun w => end_any s w hs
  unfold endR at cE
  have hp : pairI (match Sc.endOf s.data.toList with | some n => (n, 0) | none => (0, 10)) = .returned (.tuple #[.int .i64 ((Sc.endOf s.data.toList).getD 0 : Nat), .int .i64 (if (Sc.endOf s.data.toList).isSome then 0 else 10)]) := by
    cases Sc.endOf s.data.toList <;> rfl
  rw [hp]
  clear hp
  generalize ((Sc.endOf s.data.toList).getD 0) = X at *
  generalize (if (Sc.endOf s.data.toList).isSome = true then (0 : Int) else 10) = Y at *
  have HE := Lib.hid cE
  clear cE
  rcases hk with rfl | rfl
  all_goals
    go_enter Tryz.func83, Tryz.ntmps83
    go_wp2_with (go_at_call 133; refine (HE.out _).mono ?_; rintro e w' ⟨rfl, rfl⟩)
    go_ret2
    exact ⟨rfl, (Below.refl _ _).alloc (Nat.le_refl _) _⟩

set_option maxHeartbeats 2000000 in
theorem size_tag (s : ByteArray) (k : Nat) (w : World) (hs : s.size ≤ 1000000) (h0 : 0 < s.size) (hk : k = 3 ∨ k = 4 ∨ k = 5) :
    Calls Tryz.prog 83 #[.string s, .int .i64 k] w fun e w' => e = pairI (Lx.sizeOf s.data.toList k) ∧ Below w.heap.size w w' := by
  unfold Lx.sizeOf
  rw [if_neg (by omega), if_pos hk]
  have hc : (w.alloc (.cells #[.string s] 9)).cell? ⟨w.heap.size, 0, none⟩ = some (.string s) := by rw [World.cell?_alloc_at _ _ _ _ rfl]; rfl
  have cU := upTo_any 135 #[.pointer (some ⟨w.heap.size, 0, none⟩)] (Lx.endW s.data.toList) s (w.alloc (.cells #[.string s] 9)) hs h0 enters1 (fun j hj => endW_any s w.heap.size j _ hs hj hc)
  rw [ba_len]
  generalize Lx.upTo (Lx.endW s.data.toList) s.size s.size 1 = X at *
  have HU := Lib.hid cU
  clear cU hc
  rcases hk with rfl | rfl | rfl
  all_goals
    go_enter Tryz.func83, Tryz.ntmps83
    go_wp2_with (go_at_call 134; refine HU.out.mono ?_; rintro e w' ⟨rfl, rfl⟩)
    go_ret2
    exact ⟨rfl, (Below.refl _ _).alloc (Nat.le_refl _) _⟩

set_option maxHeartbeats 2000000 in
theorem size_plain (s : ByteArray) (w : World) (hs : s.size ≤ 1000000) (h0 : 0 < s.size) :
    Calls Tryz.prog 83 #[.string s, .int .i64 0] w fun e w' => e = pairI (Lx.sizeOf s.data.toList 0) ∧ Below w.heap.size w w' := by
  unfold Lx.sizeOf
  rw [if_neg (by omega), if_neg (by omega), if_pos rfl]
  have hc : (w.alloc (.cells #[.string s] 9)).cell? ⟨w.heap.size, 0, none⟩ = some (.string s) := by rw [World.cell?_alloc_at _ _ _ _ rfl]; rfl
  have cU := upTo_any 137 #[.pointer (some ⟨w.heap.size, 0, none⟩)] (Lx.endP s.data.toList) s (w.alloc (.cells #[.string s] 9)) hs h0 enters2 (fun j hj => endP_any s w.heap.size j _ hs hj hc)
  rw [ba_len]
  have hle := Lx.upTo_le (Lx.endP s.data.toList) s.size s.size 1
  generalize Lx.upTo (Lx.endP s.data.toList) s.size s.size 1 = X at *
  have cT := fun w => Tryz.strings_TrimRight_one (s.extract 0 X) 32 (by decide) w (by have := Lib.size_eq (s.extract 0 X); rw [Tag.ext_take, List.length_take, ba_len] at this; omega)
  simp only [Tag.ext_take] at cT
  generalize Lib.trimRightB (s.data.toList.take X) 32 = Y at *
  have HU := Lib.hid cU
  have HT := Lib.hid cT
  have hY : (⟨Y.toArray⟩ : ByteArray).size = Y.length := by show Y.toArray.size = _; simp
  clear cU hc cT
  go_enter Tryz.func83, Tryz.ntmps83
  go_wp2_with (first
    | (go_at_call 134; refine HU.out.mono ?_; rintro e w' ⟨rfl, rfl⟩)
    | (go_at_call 138; refine (HT.out _).mono ?_; rintro e w' ⟨rfl, rfl⟩))
  go_ret2
  exact ⟨rfl, (Below.refl _ _).alloc (Nat.le_refl _) _⟩

set_option maxHeartbeats 2000000 in
theorem size_one (s : ByteArray) (k : Nat) (w : World) (hk : 6 ≤ k) (hk2 : k ≤ 13) :
    Calls Tryz.prog 83 #[.string s, .int .i64 k] w fun e w' => e = pairI (Lx.sizeOf s.data.toList k) ∧ Below w.heap.size w w' := by
  unfold Lx.sizeOf
  rw [if_neg (by omega), if_neg (by omega), if_neg (by omega)]
  have b0 : ((k : Int) == 0) = false := beq_eq_false_iff_ne.2 (by omega)
  have b1 : ((k : Int) == 1) = false := beq_eq_false_iff_ne.2 (by omega)
  have b2 : ((k : Int) == 2) = false := beq_eq_false_iff_ne.2 (by omega)
  have b3 : ((k : Int) == 3) = false := beq_eq_false_iff_ne.2 (by omega)
  have b4 : ((k : Int) == 4) = false := beq_eq_false_iff_ne.2 (by omega)
  have b5 : ((k : Int) == 5) = false := beq_eq_false_iff_ne.2 (by omega)
  go_enter Tryz.func83, Tryz.ntmps83
  go_wp2
  go_ret2
  exact ⟨rfl, (Below.refl _ _).alloc (Nat.le_refl _) _⟩

theorem size_any (s : ByteArray) (k : Nat) (w : World) (hs : s.size ≤ 1000000) (h0 : 0 < s.size) (hk : k ≤ 13) :
    Calls Tryz.prog 83 #[.string s, .int .i64 k] w fun e w' => e = pairI (Lx.sizeOf s.data.toList k) ∧ Below w.heap.size w w' := by
  by_cases h1 : k = 1 ∨ k = 2
  · exact size_quote s k w hs h1
  · by_cases h2 : k = 3 ∨ k = 4 ∨ k = 5
    · exact size_tag s k w hs h0 h2
    · by_cases h3 : k = 0
      · subst h3; exact size_plain s w hs h0
      · exact size_one s k w (by omega) hk
end Go.Proofs.YtjcfmghijfnehaaGreatDoor
namespace Go.Proofs
open Go.Shelf
def Tryz.lays196_ren : Go.Shelf.Ren := ⟨fun | 196 => 71 | 259 => 118 | n => n, fun | 9 => 9 | 4 => 4 | 3 => 3 | 5 => 5 | 12 => 12 | 119 => 155 | 0 => 0 | 46 => 79 | 139 => 158 | 138 => 157 | 53 => 129 | n => n, fun | 3 => 0 | 4 => 1 | n => n⟩
theorem Tryz.lays196 : Go.Proofs.Lays.n196 Tryz.prog Tryz.lays196_ren := {
  mixed := by kernel_rfl
  f196 := Tryz.func71.trans (congrArg some (by kernel_rfl))
  f259 := Tryz.func118.trans (congrArg some (by kernel_rfl))
  t0 := Tryz.underlying0
  a0 := Tryz.isAgg0
  z0 := Tryz.sizeOf0
  v0 := Tryz.zeroValue0
  t3 := Tryz.underlying3
  a3 := Tryz.isAgg3
  z3 := Tryz.sizeOf3
  v3 := Tryz.zeroValue3
  t4 := Tryz.underlying4
  a4 := Tryz.isAgg4
  z4 := Tryz.sizeOf4
  v4 := Tryz.zeroValue4
  t5 := Tryz.underlying5
  a5 := Tryz.isAgg5
  z5 := Tryz.sizeOf5
  v5 := Tryz.zeroValue5
  t9 := Tryz.underlying9
  a9 := Tryz.isAgg9
  z9 := Tryz.sizeOf9
  v9 := Tryz.zeroValue9
  t12 := Tryz.underlying12
  a12 := Tryz.isAgg12
  z12 := Tryz.sizeOf12
  v12 := Tryz.zeroValue12
  t46 := Tryz.underlying79
  a46 := Tryz.isAgg79
  z46 := Tryz.sizeOf79
  v46 := Tryz.zeroValue79
  t53 := Tryz.underlying129
  a53 := Tryz.isAgg129
  z53 := Tryz.sizeOf129
  v53 := Tryz.zeroValue129
  t119 := Tryz.underlying155
  a119 := Tryz.isAgg155
  z119 := Tryz.sizeOf155
  t138 := Tryz.underlying157
  a138 := Tryz.isAgg157
  z138 := Tryz.sizeOf157
  v138 := Tryz.zeroValue157
  t139 := Tryz.underlying158
  a139 := Tryz.isAgg158
  z139 := Tryz.sizeOf158
  v139 := Tryz.zeroValue158
  g3 := by kernel_rfl
  g4 := by kernel_rfl }
open Go.RowKit in
theorem Tryz.utf8_ValidString (s : ByteArray) (w : World) (hs : s.size ≤ 9223372036854775807) (hT : Lib.Utf8Tabs 0 1 w) :
    Calls Tryz.prog 71 #[.string s] w fun e w' => e = .returned (.bool (Lib.validD s.data.toList)) ∧ Below w.heap.size w w' := Any.utf8_ValidString Tryz.lays196 s w hs hT
end Go.Proofs
namespace Go.Proofs.YtjcfmghijfnehaaGreatDoor
open Go.RowKit

/-- the table 'named', a character and a letter each -/
def namedTab : List (Nat × Nat) := [(34, 34), (92, 92), (0, 48), (7, 97), (8, 98), (9, 116), (10, 110), (11, 118), (12, 102), (13, 114), (27, 101), (133, 78), (160, 95), (8232, 76), (8233, 80)]
def namedCells : Array Value := #[.int .i32 34, .int .u8 34, .int .i32 92, .int .u8 92, .int .i32 0, .int .u8 48, .int .i32 7, .int .u8 97, .int .i32 8, .int .u8 98, .int .i32 9, .int .u8 116, .int .i32 10, .int .u8 110, .int .i32 11, .int .u8 118, .int .i32 12, .int .u8 102, .int .i32 13, .int .u8 114, .int .i32 27, .int .u8 101, .int .i32 133, .int .u8 78, .int .i32 160, .int .u8 95, .int .i32 8232, .int .u8 76, .int .i32 8233, .int .u8 80]

structure Env (w : World) : Prop where
  tabs : Lib.Utf8Tabs 0 1 w
  named : ∃ t fr, w.heap[3]? = some (.cells namedCells t fr)
  maxl : ∃ m : Int, w.cell? ⟨2, 0, none⟩ = some (.int .i64 m)

theorem lt_of_cell {w : World} {b o : Nat} {v : Value} (h : w.cell? ⟨b, o, none⟩ = some v) : b < w.heap.size := by
  rcases Nat.lt_or_ge b w.heap.size with hlt | hge
  · exact hlt
  · exfalso
    have : w.heap[b]? = none := Array.getElem?_eq_none hge
    simp [World.cell?, this] at h

theorem Env.below {w w' : World} (h : Env w) (hb : Below w.heap.size w w') : Env w' where
  tabs := Utf8Tabs_below h.tabs hb
  named := by
    obtain ⟨t, fr, he⟩ := h.named
    exact ⟨t, fr, (hb.block 3 (Array.getElem?_eq_some_iff.1 he).1).trans he⟩
  maxl := by
    obtain ⟨m, hm⟩ := h.maxl
    exact ⟨m, (hb.cell (p := ⟨2, 0, none⟩) (lt_of_cell hm)).trans hm⟩

/-- utf8.ValidString by its contract -/
theorem valid_any (s : ByteArray) (w : World) (hs : s.size ≤ 1000000) (hE : Env w) :
    Calls Tryz.prog 71 #[.string s] w fun e w' => e = .returned (.bool (Lib.validD s.data.toList)) ∧ Below w.heap.size w w' :=
  Tryz.utf8_ValidString s w (by omega) hE.tabs
end Go.Proofs.YtjcfmghijfnehaaGreatDoor
