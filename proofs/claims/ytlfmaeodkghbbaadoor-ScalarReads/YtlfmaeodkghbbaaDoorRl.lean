/-
  Walks of the document's digit, width and number.
-/
import Derived.Test.YtlfmaeodkghbbaaDoorRh
namespace Go.Proofs.YtlfmaeodkghbbaaDoor
open Go.RowKit

/-- the value of a hexadecimal digit, by its character -/
def digN (c : Nat) : Option Nat :=
  if 48 ≤ c ∧ c ≤ 57 then some (c - 48) else if 97 ≤ c ∧ c ≤ 102 then some (c - 87) else if 65 ≤ c ∧ c ≤ 70 then some (c - 55) else none
theorem digN_byte (b : UInt8) : Sc.digB b = digN b.toNat := rfl
def optI (o : Option Nat) : Int := match o with
  | some d => d
  | none => -1
def widN (c : Nat) : Nat := if c = 120 then 2 else if c = 117 then 4 else if c = 85 then 8 else 0
/-- digits, read on -/
def numN : List Nat → Nat → Option Nat
  | [], n => some n
  | c :: t, n => match digN c with
    | none => none
    | some d => numN t (n * 16 + d)
theorem numN_cons (c : Nat) (t : List Nat) (n : Nat) : numN (c :: t) n = (digN c).bind fun d => numN t (n * 16 + d) := by
  simp only [numN]; cases digN c <;> rfl
theorem digN_lt (c d : Nat) (h : digN c = some d) : d < 16 := by
  unfold digN at h
  repeat' split at h
  all_goals first | (cases h; done) | (rw [Option.some.injEq] at h; omega)

set_option maxHeartbeats 1000000 in
set_option maxRecDepth 100000 in
theorem digitR_any (c : Nat) (w : World) (hc : c ≤ 1114111) : Calls Tryd.prog 79 #[.int .i64 c] w fun e w' => e = .returned (.int .i64 (optI (digN c))) ∧ w = w' := by
  by_cases h1 : 48 ≤ c ∧ c ≤ 57
  · have e : optI (digN c) = (c : Int) - 48 := by unfold digN; rw [if_pos h1]; unfold optI; simp only; omega
    rw [e]
    go_enter Tryd.func79, Tryd.ntmps79
    go_wp2
    go_ret
    exact ⟨rfl, rfl⟩
  · by_cases h2 : 97 ≤ c ∧ c ≤ 102
    · have e : optI (digN c) = (c : Int) - 97 + 10 := by unfold digN; rw [if_neg h1, if_pos h2]; unfold optI; simp only; omega
      rw [e]
      go_enter Tryd.func79, Tryd.ntmps79
      go_wp2
      go_ret
      exact ⟨rfl, rfl⟩
    · by_cases h3 : 65 ≤ c ∧ c ≤ 70
      · have e : optI (digN c) = (c : Int) - 65 + 10 := by unfold digN; rw [if_neg h1, if_neg h2, if_pos h3]; unfold optI; simp only; omega
        rw [e]
        go_enter Tryd.func79, Tryd.ntmps79
        go_wp2
        go_ret
        exact ⟨rfl, rfl⟩
      · have e : optI (digN c) = -1 := by unfold digN; rw [if_neg h1, if_neg h2, if_neg h3]; rfl
        rw [e]
        go_enter Tryd.func79, Tryd.ntmps79
        go_wp2
        all_goals go_ret
        all_goals first | exact ⟨rfl, rfl⟩ | (exfalso; simp at *; omega)

set_option maxHeartbeats 1000000 in
set_option maxRecDepth 100000 in
theorem width_any (c : Nat) (w : World) : Calls Tryd.prog 61 #[.int .i64 c] w fun e w' => e = .returned (.int .i64 (widN c : Nat)) ∧ w = w' := by
  unfold widN
  by_cases h1 : c = 120
  · subst h1
    go_enter Tryd.func61, Tryd.ntmps61
    go_wp2
    go_ret
    exact ⟨rfl, rfl⟩
  · rw [if_neg h1]
    have b1 : ((c : Int) == 120) = false := beq_eq_false_iff_ne.2 (by omega)
    by_cases h2 : c = 117
    · subst h2
      go_enter Tryd.func61, Tryd.ntmps61
      go_wp2
      go_ret
      exact ⟨rfl, rfl⟩
    · rw [if_neg h2]
      have b2 : ((c : Int) == 117) = false := beq_eq_false_iff_ne.2 (by omega)
      by_cases h3 : c = 85
      · subst h3
        go_enter Tryd.func61, Tryd.ntmps61
        go_wp2
        go_ret
        exact ⟨rfl, rfl⟩
      · rw [if_neg h3]
        have b3 : ((c : Int) == 85) = false := beq_eq_false_iff_ne.2 (by omega)
        go_enter Tryd.func61, Tryd.ntmps61
        go_wp2
        go_ret
        exact ⟨rfl, rfl⟩

/-- the number of so many digits that characters begin with -/
def nmbN (l : List Nat) (d : Nat) : Option Nat := if l.length < d then none else numN (l.take d) 0

set_option maxHeartbeats 1000000 in
set_option maxRecDepth 100000 in
theorem number_any (a : Option Addr) (l : List Nat) (cap d : Nat) (w : World) (hb : RdI w w.heap.size a l) (hL : l.length ≤ 100000) (hd : d ≤ 8) (hch : ∀ r ∈ l, Sc.isCh r) :
    Calls Tryd.prog 60 #[.slice a l.length cap, .int .i64 d] w fun e w' => e = .returned (.int .i64 (optI (nmbN l d))) ∧ w = w' := by
  unfold nmbN
  by_cases hlen : l.length < d
  · rw [if_pos hlen]
    have b1 : decide ((l.length : Int) < (d : Int)) = true := decide_eq_true (by omega)
    clear hb
    go_enter Tryd.func60, Tryd.ntmps60
    go_wp2
    go_ret
    exact ⟨rfl, rfl⟩
  · rw [if_neg hlen]
    have b1 : decide ((l.length : Int) < (d : Int)) = false := decide_eq_false (by omega)
    obtain ⟨ANS, hANS⟩ : ∃ ANS, numN (l.take d) 0 = ANS := ⟨_, rfl⟩
    rw [hANS]
    have HA : Hid (numN ((l.take d).drop 0) 0 = ANS) := hANS
    have HB := Lib.hid hb
    have HC := Lib.hid hch
    clear hANS hb hch
    go_enter Tryd.func60, Tryd.ntmps60
    go_wp2
    go_loop [5, 6] (fun n i => ∃ k m : Nat, k ≤ d ∧ n = .int .i64 m ∧ i = .int .i64 k ∧ Hid (numN ((l.take d).drop k) m = ANS) ∧ Hid (m < 16 ^ k)) (fun _ i => d - (intOf i).toNat)
    case atStart => exact ⟨0, 0, by omega, rfl, rfl, HA, (by simp : 0 < 16 ^ 0)⟩
    case round =>
      obtain ⟨k, m, hk, rfl, rfl, HK, HM⟩ := hrel
      clear HA
      have hm : m < 4294967296 := by
        have h1 := HM.out
        have h2 : 16 ^ k ≤ 16 ^ 8 := Nat.pow_le_pow_right (by decide) (by omega)
        have h3 : (16 : Nat) ^ 8 = 4294967296 := by decide
        omega
      by_cases hlt : k < d
      · have hkl : k < l.length := by omega
        obtain ⟨g, off, rfl, hg, hcb⟩ := HB.out (by omega)
        have ck := hcb k hkl
        have hy := HC.out _ (List.getElem_mem hkl)
        have HS : Hid (((digN l[k]).bind fun x => numN ((l.take d).drop (k + 1)) (m * 16 + x)) = ANS) := by
          have := HK.out
          rw [List.drop_eq_getElem_cons (by rw [List.length_take]; omega), numN_cons, List.getElem_take] at this
          exact this
        clear hcb HK
        generalize l[k] = y at *
        have cD := Lib.hid (fun w1 => digitR_any y w1 (by unfold Sc.isCh at hy; omega))
        cases hdg : digN y with
        | none =>
          rw [hdg] at HS cD
          have hA : ANS = none := HS.out.symm
          subst hA
          simp only [optI] at cD
          clear HS hdg HM
          go_wp2_with (go_at_call 79; refine (cD.out _).mono ?_; rintro e w' ⟨rfl, rfl⟩)
          go_ret
          exact ⟨rfl, rfl⟩
        | some x =>
          have hx := digN_lt y x hdg
          rw [hdg] at HS cD
          have HN : Hid (numN ((l.take d).drop (k + 1)) (m * 16 + x) = ANS) := HS.out
          have HM2 : Hid (m * 16 + x < 16 ^ (k + 1)) := by
            show _ < _
            have := HM.out
            rw [Nat.pow_succ]; omega
          simp only [optI] at cD
          clear HS hdg HM
          go_wp2_with (go_at_call 79; refine (cD.out _).mono ?_; rintro e w' ⟨rfl, rfl⟩)
          go_round
          case rel => exact ⟨k + 1, m * 16 + x, by omega, by go_num, by go_num, HN, HM2⟩
          case measure => simp [intOf]; omega
      · have hA : ANS = some m := by
          have := HK.out; rw [List.drop_eq_nil_of_le (by rw [List.length_take]; omega)] at this; exact this.symm
        subst hA
        clear HK HM
        go_wp2
        go_ret
        exact ⟨rfl, rfl⟩
end Go.Proofs.YtlfmaeodkghbbaaDoor
