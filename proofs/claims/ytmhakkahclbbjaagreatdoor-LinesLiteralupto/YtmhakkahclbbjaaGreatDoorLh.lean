/-
  Walks of lex: inName, Name, checked, textOf.
-/
import Derived.Test.YtmhakkahclbbjaaGreatDoorLd
import Derived.Test.YtmhakkahclbbjaaGreatDoorWk
namespace Go.Proofs.YtmhakkahclbbjaaGreatDoor
namespace Lx
def inName (b : UInt8) : Bool := (decide (65 ≤ b.toNat) && decide (b.toNat ≤ 90)) || (decide (97 ≤ b.toNat) && decide (b.toNat ≤ 122)) || (decide (48 ≤ b.toNat) && decide (b.toNat ≤ 57)) || decide (b.toNat = 45) || decide (b.toNat = 95)
def name (l : List UInt8) : Bool := !l.isEmpty && decide (l.length ≤ 40) && l.all inName
/-- a text that has to be of a form -/
def chk (b : Bool) (l : List UInt8) : List UInt8 × Nat := if b then (l, 0) else ([], 5)
def orErr (n : Nat) : Option (List UInt8) → List UInt8 × Nat
  | some l => (l, 0)
  | none => ([], n)
/-- the text of a word, or its error -/
def wtext (l : List UInt8) (k : Nat) : List UInt8 × Nat :=
  if k = 2 then orErr 10 (unquoteOf l) else if k = 1 then orErr 10 (unsingleOf l) else if k = 3 ∨ k = 4 then chk (name (l.drop 1)) (l.drop 1)
  else if k = 5 then orErr 14 (Tg.read l) else if k = 0 then chk (plainB l) l else ([], 0)
end Lx
open Go.RowKit

set_option maxHeartbeats 1000000 in
theorem linName_any (b : UInt8) (w : World) :
    Calls Tryz.prog 128 #[.int .u8 b.toNat] w fun e w' => e = .returned (.bool (Lx.inName b)) ∧ w = w' := by
  have hb := b.toNat_lt
  go_enter Tryz.func128, Tryz.ntmps128
  go_wp2
  all_goals go_ret
  all_goals exact ⟨ret_bool (by unfold Lx.inName; rw [Bool.eq_iff_iff]; simp at *; omega), rfl⟩
theorem lall_at (s : ByteArray) (k : Nat) (h : k < s.size) : (s.data.toList.drop k).all Lx.inName = (Lx.inName s[k] && (s.data.toList.drop (k + 1)).all Lx.inName) := by
  rw [Sc.drop_cons s k h, List.all_cons]

set_option maxHeartbeats 1000000 in
set_option maxRecDepth 100000 in
theorem lname_any (s : ByteArray) (w : World) (hs : s.size ≤ 1000000) :
    Calls Tryz.prog 115 #[.string s] w fun e w' => e = .returned (.bool (Lx.name s.data.toList)) ∧ Below w.heap.size w w' := by
  by_cases h0 : s.size = 0
  · obtain rfl := Tag.ba_nil s h0
    clear h0
    go_enter Tryz.func115, Tryz.ntmps115
    go_wp2
    go_ret
    exact ⟨rfl, Below.refl _ _⟩
  · have hp : 0 < s.size := by omega
    have hemp := ba_isEmpty s hp
    have hnil := ba_notnil s hp
    have hne : s.data.toList.isEmpty = false := by rw [← Lib.toList_data]; exact hemp
    unfold Lx.name
    rw [hne, ← Lib.size_eq]
    clear hne
    by_cases h4 : s.size ≤ 40
    · have b1 : decide ((40 : Int) < (s.size : Int)) = false := decide_eq_false (by omega)
      rw [decide_eq_true h4]
      obtain ⟨ANS, hANS⟩ : ∃ ANS, s.data.toList.all Lx.inName = ANS := ⟨_, rfl⟩
      rw [hANS]
      have HA : Hid ((s.data.toList.drop 0).all Lx.inName = ANS) := hANS
      clear hANS
      have hcv := Lib.run_convert_string_bytes (P := Tryz.prog) w 9 58 5 s (u := .string) Tryz.underlying9 Tryz.underlying58 Tryz.underlying5
      have hbw := Lib.bytesWorld_below w 5 s
      have HC := Lib.hid (fun j hj => Lib.bytesWorld_cell w 5 s j hj)
      generalize Lib.bytesWorld w 5 s = W1 at hcv hbw HC
      go_enter Tryz.func115, Tryz.ntmps115
      go_wp2
      go_loop [15] (fun i => ∃ k : Nat, k ≤ s.size ∧ i = .int .i64 k ∧ Hid ((s.data.toList.drop k).all Lx.inName = ANS)) (fun i => s.size - (intOf i).toNat)
      case atStart => exact ⟨0, by omega, rfl, HA⟩
      case round =>
        obtain ⟨k, hk, rfl, HK⟩ := hrel
        clear HA hcv
        by_cases hlt : k < s.size
        · have HS : Hid (_ = _) := lall_at s k hlt
          have hc := HC.out k hlt
          rw [Lx.getD_at s k hlt] at hc
          have cI := linName_any s[k] W1
          cases hi : Lx.inName s[k]
          · rw [hi] at cI
            have HF : Hid (ANS = false) := by have h := HK.out; rw [HS.out, hi, Bool.false_and] at h; exact h.symm
            clear HS HK hi
            go_wp2_with (go_at_call 128; refine cI.mono ?_; rintro e w' ⟨rfl, rfl⟩)
            go_ret
            exact ⟨ret_bool (by rw [HF.out] <;> rfl), hbw⟩
          · rw [hi] at cI
            have HN : Hid ((s.data.toList.drop (k + 1)).all Lx.inName = ANS) := by have h := HK.out; rw [HS.out, hi, Bool.true_and] at h; exact h
            clear HS HK hi
            go_wp2_with (go_at_call 128; refine cI.mono ?_; rintro e w' ⟨rfl, rfl⟩)
            go_round
            case rel => exact ⟨k + 1, by omega, by go_num, HN⟩
            case measure => simp [intOf]; omega
        · have HF : Hid (ANS = true) := by have h := HK.out; rw [Sc.drop_nil s k (by omega)] at h; exact h.symm
          clear HK
          go_wp2
          go_ret
          exact ⟨ret_bool (by rw [HF.out] <;> rfl), hbw⟩
    · have b1 : decide ((40 : Int) < (s.size : Int)) = true := decide_eq_true (by omega)
      rw [decide_eq_false h4]
      go_enter Tryz.func115, Tryz.ntmps115
      go_wp2
      go_ret
      exact ⟨rfl, Below.refl _ _⟩


def strI (p : List UInt8 × Nat) : Ending := .returned (.tuple #[.string (str p.1), .int .i64 p.2])
theorem str_self (s : ByteArray) : str s.data.toList = s := Tag.str_eq s

set_option maxHeartbeats 1000000 in
theorem checked_any (g : Nat) (b : Bool) (s : ByteArray) (w : World) (eg : ∀ args w, (callFunc g args).run Tryz.prog w = .ok (.enter g args) w)
    (hg : Calls Tryz.prog g #[.string s] w fun e w' => e = .returned (.bool b) ∧ Below w.heap.size w w') :
    Calls Tryz.prog 114 #[.string s, .func (.func g) #[] #[]] w fun e w' => e = strI (Lx.chk b s.data.toList) ∧ Below w.heap.size w w' := by
  cases b
  · go_enter Tryz.func114, Tryz.ntmps114
    go_wp2_with (go_at_fn g; refine hg.mono ?_; rintro e w' ⟨rfl, hb⟩)
    go_ret2
    exact ⟨rfl, hb⟩
  · go_enter Tryz.func114, Tryz.ntmps114
    go_wp2_with (go_at_fn g; refine hg.mono ?_; rintro e w' ⟨rfl, hb⟩)
    go_ret2
    refine ⟨?_, hb⟩
    show _ = Ending.returned (.tuple #[.string (str s.data.toList), _])
    rw [str_self]; rfl
theorem entersN : ∀ args w, (callFunc 115 args).run Tryz.prog w = .ok (.enter 115 args) w := enters_of Tryz.func115 (by kernel_rfl) rfl
theorem entersP : ∀ args w, (callFunc 117 args).run Tryz.prog w = .ok (.enter 117 args) w := enters_of Tryz.func117 (by kernel_rfl) rfl

theorem txtR_orErr (o : Option (List UInt8)) : txtR o = strI (Lx.orErr 10 o) := by cases o <;> rfl
theorem readE_orErr (o : Option (List UInt8)) : Tag.readE o = strI (Lx.orErr 14 o) := by cases o <;> rfl

set_option maxHeartbeats 2000000 in
theorem wtext_any (s : ByteArray) (k : Nat) (w : World) (hs : s.size ≤ 50000) (h0 : 0 < s.size) (hk : k ≤ 13) (hE : Env w) :
    Calls Tryz.prog 91 #[.string s, .int .i64 k] w fun e w' => e = strI (Lx.wtext s.data.toList k) ∧ Below w.heap.size w w' := by
  have e1 : (s.extract 1 s.size).data.toList = s.data.toList.drop 1 := Lib.extract_to_end s 1
  have hTs : (s.extract 1 s.size).size ≤ 1000000 := by
    rw [Lib.size_eq, e1, List.length_drop, ← Lib.size_eq]; omega
  have c1 := unquote_any s w hs hE
  have c2 := unsingle_any s w (by omega) hE
  have c3 := checked_any 115 _ (s.extract 1 s.size) w entersN (lname_any (s.extract 1 s.size) w hTs)
  have c4 := Tag.read_any s w (by omega)
  have c5 := checked_any 117 _ s w entersP (plain_any s w (by omega) hE)
  rw [e1] at c3
  rw [txtR_orErr] at c1 c2
  rw [readE_orErr] at c4
  clear hE e1 hTs
  unfold Lx.wtext
  generalize Lx.orErr 10 (unquoteOf s.data.toList) = A1 at *
  generalize Lx.orErr 10 (unsingleOf s.data.toList) = A2 at *
  generalize Lx.chk (Lx.name (s.data.toList.drop 1)) (s.data.toList.drop 1) = A3 at *
  generalize Lx.orErr 14 (Tg.read s.data.toList) = A4 at *
  generalize Lx.chk (plainB s.data.toList) s.data.toList = A5 at *
  unfold strI at *
  have H1 := Lib.hid c1
  have H2 := Lib.hid c2
  have H3 := Lib.hid c3
  have H4 := Lib.hid c4
  have H5 := Lib.hid c5
  clear c1 c2 c3 c4 c5
  match k, hk with
  | 3, _ | 4, _ =>
    go_enter Tryz.func91, Tryz.ntmps91
    go_wp2_with (go_at_call 114; refine H3.out.mono ?_; rintro e w' ⟨rfl, hb⟩)
    go_ret2
    exact ⟨rfl, hb⟩
  | 0, _ | 1, _ | 2, _ | 5, _ | 6, _ | 7, _ | 8, _ | 9, _ | 10, _ | 11, _ | 12, _ | 13, _ =>
    go_enter Tryz.func91, Tryz.ntmps91
    go_wp2_with (first
      | (go_at_call 112; refine H1.out.mono ?_; rintro e w' ⟨rfl, hb⟩)
      | (go_at_call 113; refine H2.out.mono ?_; rintro e w' ⟨rfl, hb⟩)
      | (go_at_call 114; refine H5.out.mono ?_; rintro e w' ⟨rfl, hb⟩)
      | (go_at_call 116; refine H4.out.mono ?_; rintro e w' ⟨rfl, hb⟩))
    go_ret2
    first | exact ⟨rfl, hb⟩ | exact ⟨rfl, Below.refl _ _⟩
end Go.Proofs.YtmhakkahclbbjaaGreatDoor
