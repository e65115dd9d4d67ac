/-
  Walks of the document's digit, width and number.
  Walk of the document's meant.
  Walk of the document's Unquote.
  Plain mathematics: the document's Unquote and Unsingle, by characters, against the program's, by bytes.
-/
import Derived.Test.YthkedlcmpibkjaaGreatDoorRf
import Derived.Deep.QuietTactic
import Derived.BigQuiet
namespace Go.Proofs.YthkedlcmpibkjaaGreatDoor
open Go.RowKit

/-- the value of a hexadecimal digit, by its character -/
def digN (c : Nat) : Option Nat :=
  if 48 ≤ c ∧ c ≤ 57 then some (c - 48) else if 97 ≤ c ∧ c ≤ 102 then some (c - 87) else if 65 ≤ c ∧ c ≤ 70 then some (c - 55) else none
theorem digN_byte (b : UInt8) : Sc.digB b = digN b.toNat := rfl
def optI (o : Option Nat) : Int := match o with
  | some d => d
  | none => -1
def widN (c : Nat) : Nat := if c = 120 then 2 else if c = 117 then 4 else if c = 85 then 8 else 0
/-- digits, read on -/
def numN : List Nat → Nat → Option Nat
  | [], n => some n
  | c :: t, n => match digN c with
    | none => none
    | some d => numN t (n * 16 + d)
theorem numN_cons (c : Nat) (t : List Nat) (n : Nat) : numN (c :: t) n = (digN c).bind fun d => numN t (n * 16 + d) := by
  simp only [numN]; cases digN c <;> rfl
theorem digN_lt (c d : Nat) (h : digN c = some d) : d < 16 := by
  unfold digN at h
  repeat' split at h
  all_goals first | (cases h; done) | (rw [Option.some.injEq] at h; omega)

set_option maxHeartbeats 1000000 in
set_option maxRecDepth 100000 in
theorem digitR_any (c : Nat) (w : World) (hc : c ≤ 1114111) : Calls Tryz.prog 93 #[.int .i64 c] w fun e w' => e = .returned (.int .i64 (optI (digN c))) ∧ w = w' := by
  by_cases h1 : 48 ≤ c ∧ c ≤ 57
  · have e : optI (digN c) = (c : Int) - 48 := by unfold digN; rw [if_pos h1]; unfold optI; simp only; omega
    rw [e]
    go_enter Tryz.func93, Tryz.ntmps93
    go_wp2
    go_ret
    exact ⟨rfl, rfl⟩
  · by_cases h2 : 97 ≤ c ∧ c ≤ 102
    · have e : optI (digN c) = (c : Int) - 97 + 10 := by unfold digN; rw [if_neg h1, if_pos h2]; unfold optI; simp only; omega
      rw [e]
      go_enter Tryz.func93, Tryz.ntmps93
      go_wp2
      go_ret
      exact ⟨rfl, rfl⟩
    · by_cases h3 : 65 ≤ c ∧ c ≤ 70
      · have e : optI (digN c) = (c : Int) - 65 + 10 := by unfold digN; rw [if_neg h1, if_neg h2, if_pos h3]; unfold optI; simp only; omega
        rw [e]
        go_enter Tryz.func93, Tryz.ntmps93
        go_wp2
        go_ret
        exact ⟨rfl, rfl⟩
      · have e : optI (digN c) = -1 := by unfold digN; rw [if_neg h1, if_neg h2, if_neg h3]; rfl
        rw [e]
        go_enter Tryz.func93, Tryz.ntmps93
        go_wp2
        all_goals go_ret
        all_goals first | exact ⟨rfl, rfl⟩ | (exfalso; simp at *; omega)

set_option maxHeartbeats 1000000 in
set_option maxRecDepth 100000 in
theorem width_any (c : Nat) (w : World) : Calls Tryz.prog 73 #[.int .i64 c] w fun e w' => e = .returned (.int .i64 (widN c : Nat)) ∧ w = w' := by
  unfold widN
  by_cases h1 : c = 120
  · subst h1
    go_enter Tryz.func73, Tryz.ntmps73
    go_wp2
    go_ret
    exact ⟨rfl, rfl⟩
  · rw [if_neg h1]
    have b1 : ((c : Int) == 120) = false := beq_eq_false_iff_ne.2 (by omega)
    by_cases h2 : c = 117
    · subst h2
      go_enter Tryz.func73, Tryz.ntmps73
      go_wp2
      go_ret
      exact ⟨rfl, rfl⟩
    · rw [if_neg h2]
      have b2 : ((c : Int) == 117) = false := beq_eq_false_iff_ne.2 (by omega)
      by_cases h3 : c = 85
      · subst h3
        go_enter Tryz.func73, Tryz.ntmps73
        go_wp2
        go_ret
        exact ⟨rfl, rfl⟩
      · rw [if_neg h3]
        have b3 : ((c : Int) == 85) = false := beq_eq_false_iff_ne.2 (by omega)
        go_enter Tryz.func73, Tryz.ntmps73
        go_wp2
        go_ret
        exact ⟨rfl, rfl⟩

/-- the number of so many digits that characters begin with -/
def nmbN (l : List Nat) (d : Nat) : Option Nat := if l.length < d then none else numN (l.take d) 0

set_option maxHeartbeats 1000000 in
set_option maxRecDepth 100000 in
theorem number_any (a : Option Addr) (l : List Nat) (cap d : Nat) (w : World) (hb : RdI w w.heap.size a l) (hL : l.length ≤ 100000) (hd : d ≤ 8) (hch : ∀ r ∈ l, Sc.isCh r) :
    Calls Tryz.prog 72 #[.slice a l.length cap, .int .i64 d] w fun e w' => e = .returned (.int .i64 (optI (nmbN l d))) ∧ w = w' := by
  unfold nmbN
  by_cases hlen : l.length < d
  · rw [if_pos hlen]
    have b1 : decide ((l.length : Int) < (d : Int)) = true := decide_eq_true (by omega)
    clear hb
    go_enter Tryz.func72, Tryz.ntmps72
    go_wp2
    go_ret
    exact ⟨rfl, rfl⟩
  · rw [if_neg hlen]
    have b1 : decide ((l.length : Int) < (d : Int)) = false := decide_eq_false (by omega)
    obtain ⟨ANS, hANS⟩ : ∃ ANS, numN (l.take d) 0 = ANS := ⟨_, rfl⟩
    rw [hANS]
    have HA : Hid (numN ((l.take d).drop 0) 0 = ANS) := hANS
    have HB := Lib.hid hb
    have HC := Lib.hid hch
    clear hANS hb hch
    go_enter Tryz.func72, Tryz.ntmps72
    go_wp2
    go_loop [5, 6] (fun n i => ∃ k m : Nat, k ≤ d ∧ n = .int .i64 m ∧ i = .int .i64 k ∧ Hid (numN ((l.take d).drop k) m = ANS) ∧ Hid (m < 16 ^ k)) (fun _ i => d - (intOf i).toNat)
    case atStart => exact ⟨0, 0, by omega, rfl, rfl, HA, (by simp : 0 < 16 ^ 0)⟩
    case round =>
      obtain ⟨k, m, hk, rfl, rfl, HK, HM⟩ := hrel
      clear HA
      have hm : m < 4294967296 := by
        have h1 := HM.out
        have h2 : 16 ^ k ≤ 16 ^ 8 := Nat.pow_le_pow_right (by decide) (by omega)
        have h3 : (16 : Nat) ^ 8 = 4294967296 := by decide
        omega
      by_cases hlt : k < d
      · have hkl : k < l.length := by omega
        obtain ⟨g, off, rfl, hg, hcb⟩ := HB.out (by omega)
        have ck := hcb k hkl
        have hy := HC.out _ (List.getElem_mem hkl)
        have HS : Hid (((digN l[k]).bind fun x => numN ((l.take d).drop (k + 1)) (m * 16 + x)) = ANS) := by
          have := HK.out
          rw [List.drop_eq_getElem_cons (by rw [List.length_take]; omega), numN_cons, List.getElem_take] at this
          exact this
        clear hcb HK
        generalize l[k] = y at *
        have cD := Lib.hid (fun w1 => digitR_any y w1 (by unfold Sc.isCh at hy; omega))
        cases hdg : digN y with
        | none =>
          rw [hdg] at HS cD
          have hA : ANS = none := HS.out.symm
          subst hA
          simp only [optI] at cD
          clear HS hdg HM
          go_wp2_with (go_at_call 93; refine (cD.out _).mono ?_; rintro e w' ⟨rfl, rfl⟩)
          go_ret
          exact ⟨rfl, rfl⟩
        | some x =>
          have hx := digN_lt y x hdg
          rw [hdg] at HS cD
          have HN : Hid (numN ((l.take d).drop (k + 1)) (m * 16 + x) = ANS) := HS.out
          have HM2 : Hid (m * 16 + x < 16 ^ (k + 1)) := by
            show _ < _
            have := HM.out
            rw [Nat.pow_succ]; omega
          simp only [optI] at cD
          clear HS hdg HM
          go_wp2_with (go_at_call 93; refine (cD.out _).mono ?_; rintro e w' ⟨rfl, rfl⟩)
          go_round
          case rel => exact ⟨k + 1, m * 16 + x, by omega, by go_num, by go_num, HN, HM2⟩
          case measure => simp [intOf]; omega
      · have hA : ANS = some m := by
          have := HK.out; rw [List.drop_eq_nil_of_le (by rw [List.length_take]; omega)] at this; exact this.symm
        subst hA
        clear HK HM
        go_wp2
        go_ret
        exact ⟨rfl, rfl⟩
end Go.Proofs.YthkedlcmpibkjaaGreatDoor
namespace Go.Proofs.YthkedlcmpibkjaaGreatDoor
open Go.RowKit

def rcharFrom (k b : Nat) : Option Nat := ((refTab.drop k).find? fun p => p.2 == b).map (·.1)
theorem rchar_eq (b : Nat) : rcharFrom 0 b = charFrom 0 b := by
  unfold rcharFrom charFrom
  congr 1
  exact find_same refTab namedTab (·.2) (by decide) (by decide) (by decide) b
theorem rcharFrom_step (k b : Nat) (h : k < 15) : rcharFrom k b = if rlt k = b then some (rch k) else rcharFrom (k + 1) b := by
  unfold rcharFrom rch rlt
  have : refTab.drop k = refTab.getD k (0, 0) :: refTab.drop (k + 1) := by
    have hl : k < refTab.length := h
    rw [List.drop_eq_getElem_cons hl]; simp [List.getD, hl]
  rw [this, List.find?_cons]
  generalize refTab.getD k (0, 0) = x
  by_cases e : x.2 = b
  · have : (x.2 == b) = true := beq_iff_eq.2 e
    rw [this, if_pos e]; rfl
  · have : (x.2 == b) = false := beq_eq_false_iff_ne.2 e
    rw [this, if_neg e]

theorem quiet_sameR {P : Program} {f : FuncId} {args : Array Value} {w : World} {n : Nat} {v : Value}
    (h : Calls P f args (w.drewN n) fun e w' => e = .returned v ∧ w.drewN n = w') :
    Calls P f args (w.drewN n) fun e w'' => e = .returned v ∧ ∃ m, w'' = w.drewN m :=
  h.mono fun _ _ ⟨he, hm⟩ => ⟨he, n, hm.symm⟩
theorem slice_eqR {a a' : Option Addr} {n n' c c' : Nat} (h1 : a = a') (h2 : n = n') (h3 : c = c') : Value.slice a n c = Value.slice a' n' c' := by subst h1 h2 h3; rfl
theorem int_eq {x y : Int} (h : x = y) : Value.int .i64 x = Value.int .i64 y := by rw [h]
/-- the number that a letter and digits mean -/
def numM (c : Nat) (t : List Nat) : Option (Nat × Nat) :=
  if widN c = 0 then none else (nmbN t (widN c)).bind fun n => if Sc.isCh n then some (n, 1 + widN c) else none
/-- the character of what is behind a backslash, and how many characters that is -/
def meantN : List Nat → Option (Nat × Nat)
  | [] => none
  | c :: t => if c = 47 then some (47, 1) else match charFrom 0 c with
    | some r => some (r, 1)
    | none => numM c t
def meR (o : Option (Nat × Nat)) : Ending := match o with
  | some (r, z) => .returned (.tuple #[.int .i64 (r : Nat), .int .i64 (z : Nat)])
  | none => .returned (.tuple #[.int .i64 (-1), .int .i64 0])
theorem nmbN_lt (l : List Nat) (d n : Nat) (hd : d ≤ 8) (h : nmbN l d = some n) : n < 4294967296 := by
  unfold nmbN at h
  split at h
  · cases h
  · have key : ∀ (l : List Nat) (m n : Nat), numN l m = some n → n < (m + 1) * 16 ^ l.length := by
      intro l
      induction l with
      | nil => intro m n h; simp only [numN, Option.some.injEq] at h; simp; omega
      | cons c t ih =>
        intro m n h
        rw [numN_cons] at h
        cases hdg : digN c with
        | none => rw [hdg] at h; cases h
        | some d =>
          rw [hdg] at h
          have h1 := ih _ _ h
          have h2 := digN_lt c d hdg
          rw [List.length_cons, Nat.pow_succ]
          have h3 : (m * 16 + d + 1) * 16 ^ t.length ≤ ((m + 1) * 16) * 16 ^ t.length := Nat.mul_le_mul_right _ (by omega)
          have h4 : (m + 1) * (16 ^ t.length * 16) = ((m + 1) * 16) * 16 ^ t.length := by rw [Nat.mul_comm (16 ^ t.length) 16, Nat.mul_assoc]
          omega
    have h1 := key _ _ _ h
    rw [List.length_take] at h1
    have h2 : 16 ^ min d l.length ≤ 16 ^ 8 := Nat.pow_le_pow_right (by decide) (by omega)
    have h3 : (16 : Nat) ^ 8 = 4294967296 := by decide
    omega

set_option maxHeartbeats 2000000 in
set_option maxRecDepth 100000 in
theorem meant_any (a : Option Addr) (l : List Nat) (cap : Nat) (w : World) (hb : RdI w w.heap.size a l) (hc : l.length < cap) (hL : l.length ≤ 100000) (hch : ∀ r ∈ l, Sc.isCh r) :
    Calls Tryz.prog 44 #[.slice a l.length cap] w fun e w' => e = meR (meantN l) ∧ Below w.heap.size w w' := by
  by_cases h0 : l.length = 0
  · have hl : l = [] := List.eq_nil_of_length_eq_zero h0
    subst hl
    clear hb
    go_enter Tryz.func44, Tryz.ntmps44
    go_wp2
    go_ret2
    exact ⟨rfl, Below.refl _ _⟩
  · have hp : 0 < l.length := by omega
    have hlc : l = l[0] :: l.drop 1 := by
      rw [← List.drop_eq_getElem_cons hp, List.drop_zero]
    obtain ⟨g, off, rfl, hg, hcb⟩ := hb hp
    have c0 := hcb 0 hp
    rw [Nat.add_zero] at c0
    have hrt : RdI w w.heap.size (if cap = 1 then some ⟨g, off, none⟩ else some ⟨g, off + 1, none⟩) (l.drop 1) := by
      intro h1
      rw [List.length_drop] at h1
      rw [if_neg (by omega)]
      refine ⟨g, off + 1, rfl, hg, fun j hj => ?_⟩
      rw [List.length_drop] at hj
      have := hcb (j + 1) (by omega)
      rw [Nat.add_assoc, Nat.add_comm 1 j, List.getElem_drop]
      rw [this]
      congr 3
      simp only [Nat.add_comm 1 j]
    have hrl : (l.drop 1).length = l.length - 1 := List.length_drop
    have hch1 : ∀ r ∈ l.drop 1, Sc.isCh r := fun r hr => hch r (List.mem_of_mem_drop hr)
    have hM : meantN l = if l[0] = 47 then some (47, 1) else match charFrom 0 l[0] with
      | some r => some (r, 1)
      | none => numM l[0] (l.drop 1) := by
      conv => lhs; rw [hlc]
      rfl
    rw [hM]
    have hx := hch _ (List.getElem_mem hp)
    have hxl : l[0] ≤ 1114111 := by unfold Sc.isCh at hx; omega
    obtain ⟨x, hxe⟩ : ∃ x, l[0] = x := ⟨_, rfl⟩
    obtain ⟨t, ht⟩ : ∃ t, l.drop 1 = t := ⟨_, rfl⟩
    rw [hxe] at c0 hx hxl ⊢
    rw [ht] at hrt hrl hch1 ⊢
    clear hcb hM hlc hxe ht hch hb
    by_cases h47 : x = 47
    · subst h47
      rw [if_pos rfl]
      clear hrt hch1
      go_enter Tryz.func44, Tryz.ntmps44
      go_wp2
      go_ret2
      exact ⟨rfl, Below.refl _ _⟩
    rw [if_neg h47]
    have b47 : ((x : Int) == 47) = false := beq_eq_false_iff_ne.2 (by omega)
    obtain ⟨CF, hCF⟩ : ∃ CF, charFrom 0 x = CF := ⟨_, rfl⟩
    rw [hCF]
    have HA : Hid (rcharFrom 0 x = CF) := (rchar_eq x).trans hCF
    have HRT := Lib.hid hrt
    have HCH := Lib.hid hch1
    clear hCF hrt hch1 h47 hx
    have cT := table_any w
    go_enter Tryz.func44, Tryz.ntmps44
    go_wp2_with (go_at_call 71; refine cT.mono ?_; rintro e w1 ⟨rfl, hT, hb⟩)
    have hwl : w.heap.size < w1.heap.size := World.block_lt_of_cell? w1 ⟨w.heap.size, 0 * 2, none⟩ (hT 0 (by omega)).1
    have HT := Lib.hid hT
    have c01 := (hb.cell (p := ⟨g, off, none⟩) hg).trans c0
    clear hT cT c0
    go_loopw [5] (fun i wr => ∃ k : Nat, k ≤ 15 ∧ i = .int .i64 k ∧ Hid (rcharFrom k x = CF) ∧ Below w1.heap.size w1 wr) (fun i _ => 15 - (intOf i).toNat)
    case atStart => exact ⟨0, by omega, rfl, HA, Below.refl _ _⟩
    case round =>
      obtain ⟨k, hk, rfl, HK, hbw⟩ := hrel
      clear HA
      have c02 := (hbw.cell (p := ⟨g, off, none⟩) (by show g < _; omega)).trans c01
      clear c01
      by_cases hlt : k < 15
      · obtain ⟨c1, c2⟩ := HT.out k hlt
        replace c1 := (hbw.cell (p := ⟨w.heap.size, k * 2, none⟩) hwl).trans c1
        replace c2 := (hbw.cell (p := ⟨w.heap.size, k * 2 + 1, none⟩) hwl).trans c2
        have HS := Lib.hid (rcharFrom_step k x hlt)
        generalize rch k = c at *
        generalize rlt k = b at *
        by_cases hcr : b = x
        · have hA : CF = some c := by
            have h1 := HS.out; rw [if_pos hcr] at h1
            exact HK.out.symm.trans h1
          subst hA
          have hb' : ((b : Int) == (x : Int)) = true := beq_iff_eq.2 (by omega)
          clear HS HK hcr
          go_wp2
          go_quiet (fail)
          go_wp2
          go_ret2
          exact ⟨rfl, hb.trans ((below_drewN hbw _).mono hb.size)⟩
        · have hb' : ((b : Int) == (x : Int)) = false := beq_eq_false_iff_ne.2 (by omega)
          have HN : Hid (rcharFrom (k + 1) x = CF) := by
            have := HS.out; rw [if_neg hcr] at this; exact this.symm.trans HK.out
          clear HS HK hcr
          go_wp2
          go_quiet (fail)
          go_wp2
          go_roundw
          case rel => exact ⟨k + 1, by omega, by go_num, HN, below_drewN hbw _⟩
          case measure => simp [intOf]; omega
      · obtain rfl : k = 15 := by omega
        have hA : CF = none := by rw [← HK.out]; rfl
        subst hA
        clear HK HT
        have hbw0 : Below w.heap.size w wr := hb.trans (hbw.mono hb.size)
        have hsz := hbw0.size
        have hwid : widN x ≤ 8 := by
          unfold widN
          split
          · omega
          · split
            · omega
            · split <;> omega
        have CN := Lib.hid (fun (w2 : World) (h2 : Below w.heap.size w w2) => number_any (if cap = 1 then some ⟨g, off, none⟩ else some ⟨g, off + 1, none⟩) t (cap - 1) (widN x) w2 ((HRT.out.below h2).more h2.size) (by omega) hwid HCH.out)
        have CW := Lib.hid (fun w2 => width_any x w2)
        have HMM : Hid (numM x t = if widN x = 0 then none else (nmbN t (widN x)).bind fun n => if Sc.isCh n then some (n, 1 + widN x) else none) := (rfl : numM x t = _)
        have hnl : ∀ n, nmbN t (widN x) = some n → n < 4294967296 := fun n h => nmbN_lt t (widN x) n hwid h
        rw [hrl] at CN
        generalize nmbN t (widN x) = NB at *
        generalize widN x = d at *
        clear HRT HCH hrl
        have CN : Hid (∀ (w2 : World) (v1 v2 : Value), Below w.heap.size w w2 → v1 = .slice (if cap = 1 then some ⟨g, off, none⟩ else some ⟨g, off + 1, none⟩) (l.length - 1) (cap - 1) → v2 = .int .i64 d → Calls Tryz.prog 72 #[v1, v2] w2 fun e w' => e = .returned (.int .i64 (optI NB)) ∧ w2 = w') := by
          intro w2 v1 v2 h2 e1 e2
          rw [e1, e2]
          exact CN.out w2 h2
        have z1 : (1 : Int) ≤ (l.length : Int) := by omega
        have z2 : 1 ≤ l.length := by omega
        have z3 : ¬ ((l.length : Int) < 1) := by omega
        have hc1 : ¬ cap = 1 := by omega
        rw [if_neg hc1] at CN
        by_cases hd0 : d = 0
        · subst hd0
          have HM0 : Hid (numM x t = none) := HMM.out.trans (if_pos rfl)
          clear HMM hnl
          generalize optI NB = NI at *
          go_wp2
          go_quiet (first | (go_at_call 73; exact quiet_sameR (CW.out _)) | (go_at_call 72; exact quiet_sameR (CN.out _ _ _ (below_drewN hbw0 _) (slice_eqR rfl (by omega) (by omega)) (int_eq (by omega)))))
          go_wp2_with (go_at_call 73; refine (CW.out _).mono ?_; rintro e w' ⟨rfl, rfl⟩)
          go_ret2
          refine ⟨?_, below_drewN hbw0 _⟩
          show _ = meR (numM x t)
          rw [HM0.out]; rfl
        · have b0 : ((d : Int) == 0) = false := beq_eq_false_iff_ne.2 (by omega)
          have HM1 := Lib.hid (HMM.out.trans (if_neg hd0))
          clear HMM
          by_cases hgood : ∃ n, NB = some n ∧ Sc.isCh n
          · obtain ⟨n, rfl, hn⟩ := hgood
            have hn2 : n < 4294967296 := hnl n rfl
            have HM0 : Hid (numM x t = some (n, 1 + d)) := by
              have := HM1.out; rw [Option.bind_some, if_pos hn] at this; exact this
            have bch : chI (n : Int) = true := by rw [chI_nat]; exact decide_eq_true hn
            simp only [optI] at CN
            clear HM1 hnl hn
            go_wp2
            go_quiet (first | (go_at_call 73; exact quiet_sameR (CW.out _)) | (go_at_call 72; exact quiet_sameR (CN.out _ _ _ (below_drewN hbw0 _) (slice_eqR rfl (by omega) (by omega)) (int_eq (by omega)))))
            go_wp2_with (first | (go_at_call 73; refine (CW.out _).mono ?_; rintro e w' ⟨rfl, rfl⟩) | (go_at_call 74; refine (character_any _ _).mono ?_; rintro e w' ⟨rfl, rfl⟩))
            go_ret2
            refine ⟨?_, below_drewN hbw0 _⟩
            show _ = meR (numM x t)
            rw [HM0.out]
            simp only [meR]
            exact ret_ii rfl (by omega)
          · have HM0 : Hid (numM x t = none) := by
              have := HM1.out
              show _ = _
              rw [this]
              cases NB with
              | none => rfl
              | some n => rw [Option.bind_some, if_neg fun h => hgood ⟨n, rfl, h⟩]
            have bch : chI (optI NB) = false := by
              cases NB with
              | none => rfl
              | some n => show chI (n : Int) = false; rw [chI_nat]; exact decide_eq_false fun h => hgood ⟨n, rfl, h⟩
            clear HM1 hnl hgood
            generalize optI NB = NI at *
            go_wp2
            go_quiet (first | (go_at_call 73; exact quiet_sameR (CW.out _)) | (go_at_call 72; exact quiet_sameR (CN.out _ _ _ (below_drewN hbw0 _) (slice_eqR rfl (by omega) (by omega)) (int_eq (by omega)))))
            go_wp2_with (first | (go_at_call 73; refine (CW.out _).mono ?_; rintro e w' ⟨rfl, rfl⟩) | (go_at_call 74; refine (character_any _ _).mono ?_; rintro e w' ⟨rfl, rfl⟩))
            go_ret2
            refine ⟨?_, below_drewN hbw0 _⟩
            show _ = meR (numM x t)
            rw [HM0.out]; rfl
end Go.Proofs.YthkedlcmpibkjaaGreatDoor
namespace Go.Proofs.YthkedlcmpibkjaaGreatDoor
open Go.RowKit

/-- what stands between double quotes, by characters, with fuel -/
def unqNGo : Nat → List Nat → Option (List Nat)
  | 0, _ => some []
  | _ + 1, [] => some []
  | n + 1, c :: t =>
    if c = 34 ∨ c = 10 then none
    else if c = 92 then (meantN t).bind fun p => (unqNGo n (t.drop p.2)).map (p.1 :: ·)
    else (unqNGo n t).map (c :: ·)
theorem unqNGo_fuel : ∀ (n m : Nat) (l : List Nat), l.length ≤ n → l.length ≤ m → unqNGo n l = unqNGo m l
  | 0, m, l, h, _ => by
    have : l = [] := List.eq_nil_of_length_eq_zero (by omega)
    subst this; cases m <;> rfl
  | n + 1, 0, l, _, h => by
    have : l = [] := List.eq_nil_of_length_eq_zero (by omega)
    subst this; rfl
  | n + 1, m + 1, [], _, _ => rfl
  | n + 1, m + 1, c :: t, h1, h2 => by
    simp only [List.length_cons] at h1 h2
    simp only [unqNGo]
    rw [unqNGo_fuel n m t (by omega) (by omega)]
    have : (fun p : Nat × Nat => (unqNGo n (t.drop p.2)).map (p.1 :: ·)) = fun p => (unqNGo m (t.drop p.2)).map (p.1 :: ·) := by
      funext p
      rw [unqNGo_fuel n m (t.drop p.2) (by rw [List.length_drop]; omega) (by rw [List.length_drop]; omega)]
    rw [this]
def unqN (l : List Nat) : Option (List Nat) := unqNGo l.length l
theorem unqN_nil : unqN [] = some [] := rfl
theorem unqN_cons (c : Nat) (t : List Nat) : unqN (c :: t) = if c = 34 ∨ c = 10 then none
    else if c = 92 then (meantN t).bind fun p => (unqN (t.drop p.2)).map (p.1 :: ·) else (unqN t).map (c :: ·) := by
  unfold unqN
  simp only [List.length_cons, unqNGo]
  have : (fun p : Nat × Nat => (unqNGo t.length (t.drop p.2)).map (p.1 :: ·)) = fun p => (unqNGo (t.drop p.2).length (t.drop p.2)).map (p.1 :: ·) := by
    funext p
    rw [unqNGo_fuel t.length (t.drop p.2).length (t.drop p.2) (by rw [List.length_drop]; omega) (Nat.le_refl _)]
  rw [this]
theorem meantN_good (l : List Nat) (r z : Nat) (h : meantN l = some (r, z)) : Sc.isCh r ∧ 1 ≤ z ∧ z ≤ l.length := by
  cases l with
  | nil => cases h
  | cons c t =>
    change (if c = 47 then some (47, 1) else match charFrom 0 c with
      | some r => some (r, 1)
      | none => numM c t) = some (r, z) at h
    split at h
    · cases h; exact ⟨by unfold Sc.isCh; omega, by omega, by simp⟩
    · cases hc : charFrom 0 c with
      | some x =>
        rw [hc] at h
        cases h
        have := charFrom_le c r hc
        exact ⟨by unfold Sc.isCh; omega, by omega, by simp⟩
      | none =>
        rw [hc] at h
        simp only [numM] at h
        split at h
        · cases h
        · cases hn : nmbN t (widN c) with
          | none => rw [hn] at h; cases h
          | some n =>
            rw [hn, Option.bind_some] at h
            split at h
            · rename_i hi
              cases h
              refine ⟨hi, by omega, ?_⟩
              unfold nmbN at hn
              split at hn
              · cases hn
              · rw [List.length_cons]; omega
            · cases h

/-- the document's Unquote -/
def unquoteRef (s : List UInt8) (l : List Nat) : Option (List UInt8) :=
  if Lib.validD s = true ∧ 2 ≤ l.length ∧ l.head? = some 34 ∧ l.getLast? = some 34 then (unqN ((l.drop 1).take (l.length - 2))).map Sc.encs else none

set_option maxHeartbeats 4000000 in
set_option maxRecDepth 100000 in
theorem unquoteR_any (s : ByteArray) (w : World) (hs : s.size ≤ 10000) :
    Calls Tryz.prog 26 #[.string s] w fun e w' => e = txtR (unquoteRef s.data.toList (Sc.rns s.data.toList)) ∧ Below w.heap.size w w' := by
  have CC := Lib.hid (fun w1 => chars_any s w1 (by omega))
  unfold unquoteRef
  by_cases hv : Lib.validD s.data.toList = true
  · have hco : Sc.charsOf s.data.toList = some (Sc.rns s.data.toList) := by unfold Sc.charsOf; rw [if_pos hv]
    rw [hco] at CC
    have hrl := rns_len s.data.toList.length s.data.toList (Nat.le_refl _)
    rw [← Lib.size_eq] at hrl
    have HCH := Lib.hid (Sc.ch_rns s.data.toList)
    rw [hv]
    clear hv hco
    generalize Sc.rns s.data.toList = l at *
    by_cases h2 : l.length < 2
    · rw [if_neg (by omega)]
      have b1 : decide ((l.length : Int) < 2) = true := decide_eq_true (by omega)
      go_enter Tryz.func26, Tryz.ntmps26
      go_wp2_with fail
      refine (CC.out _).mono ?_
      rintro e w1 ⟨v, rfl, ho, hb⟩
      clear CC
      obtain ⟨a, cap, hv, hc1, hc2, hrd⟩ := ho.form
      simp only [Option.getD_some] at hv
      subst hv
      clear ho hrd
      go_wp2
      go_ret2
      exact ⟨rfl, hb⟩
    · have hp : 0 < l.length := by omega
      have hpl : l.length - 1 < l.length := by omega
      have b1 : decide ((l.length : Int) < 2) = false := decide_eq_false (by omega)
      have hh : (l.head? = some 34) ↔ l[0] = 34 := by
        cases l with
        | nil => simp at hp
        | cons x t => simp
      have hgl : (l.getLast? = some 34) ↔ l[l.length - 1] = 34 := by
        rw [List.getLast?_eq_getElem?, List.getElem?_eq_getElem hpl]; simp
      obtain ⟨x0, hx0⟩ : ∃ x, l[0] = x := ⟨_, rfl⟩
      obtain ⟨xn, hxn⟩ : ∃ x, l[l.length - 1] = x := ⟨_, rfl⟩
      rw [hx0] at hh
      rw [hxn] at hgl
      by_cases e1 : x0 = 34
      case neg =>
        rw [if_neg (fun h => e1 (hh.1 h.2.2.1))]
        have b2 : ((x0 : Int) != 34) = true := bne_iff_ne.2 (by omega)
        clear HCH hh hgl
        go_enter Tryz.func26, Tryz.ntmps26
        go_wp2_with fail
        refine (CC.out _).mono ?_
        rintro e w1 ⟨v, rfl, ho, hb⟩
        clear CC
        obtain ⟨a, cap, hv, hc1, hc2, hrd⟩ := ho.form
        simp only [Option.getD_some] at hv hrd
        subst hv
        obtain ⟨g, off, rfl, hg, hcb⟩ := hrd hp
        have c0 := hcb 0 hp
        rw [hx0, Nat.add_zero] at c0
        clear ho hcb hrd
        go_wp2
        go_ret2
        exact ⟨rfl, hb⟩
      by_cases e2 : xn = 34
      case neg =>
        rw [if_neg (fun h => e2 (hgl.1 h.2.2.2))]
        have b2 : ((x0 : Int) != 34) = false := bne_eq_false_iff_eq.2 (by omega)
        have b3 : ((xn : Int) != 34) = true := bne_iff_ne.2 (by omega)
        clear HCH hh hgl
        go_enter Tryz.func26, Tryz.ntmps26
        go_wp2_with fail
        refine (CC.out _).mono ?_
        rintro e w1 ⟨v, rfl, ho, hb⟩
        clear CC
        obtain ⟨a, cap, hv, hc1, hc2, hrd⟩ := ho.form
        simp only [Option.getD_some] at hv hrd
        subst hv
        obtain ⟨g, off, rfl, hg, hcb⟩ := hrd hp
        have c0 := hcb 0 hp
        have cn := hcb (l.length - 1) hpl
        rw [hx0, Nat.add_zero] at c0
        rw [hxn] at cn
        clear ho hcb hrd
        go_wp2
        go_ret2
        exact ⟨rfl, hb⟩
      rw [if_pos ⟨rfl, by omega, hh.2 e1, hgl.2 e2⟩]
      have b2 : ((x0 : Int) != 34) = false := bne_eq_false_iff_eq.2 (by omega)
      have b3 : ((xn : Int) != 34) = false := bne_eq_false_iff_eq.2 (by omega)
      clear hh hgl e1 e2
      obtain ⟨ANS, hANS⟩ : ∃ ANS, unqN ((l.drop 1).take (l.length - 2)) = ANS := ⟨_, rfl⟩
      rw [hANS]
      have HA : JoinsI [] (unqN ((l.drop 1).take (l.length - 2))) ANS := by unfold JoinsI; rw [hANS]; simp
      clear hANS
      have hml : ((l.drop 1).take (l.length - 2)).length = l.length - 2 := by rw [List.length_take, List.length_drop]; omega
      have HMC : Hid (∀ r ∈ (l.drop 1).take (l.length - 2), Sc.isCh r) := fun r hr => HCH.out r (List.mem_of_mem_drop (List.mem_of_mem_take hr))
      go_enter Tryz.func26, Tryz.ntmps26
      go_wp2_with fail
      refine (CC.out _).mono ?_
      rintro e w1 ⟨v, rfl, ho, hb⟩
      clear CC
      obtain ⟨a, cap, hv, hc1, hc2, hrd⟩ := ho.form
      unfold maxLen at hc2
      simp only [Option.getD_some] at hv hrd hc1
      subst hv
      obtain ⟨g, off, rfl, hg, hcb⟩ := hrd hp
      have c0 := hcb 0 hp
      have cn := hcb (l.length - 1) hpl
      rw [hx0, Nat.add_zero] at c0
      rw [hxn] at cn
      have HRM : Hid (RdI w1 w1.heap.size (some ⟨g, off + 1, none⟩) ((l.drop 1).take (l.length - 2))) := by
        intro _
        refine ⟨g, off + 1, rfl, hg, fun j hj => ?_⟩
        rw [hml] at hj
        have := hcb (1 + j) (by omega)
        rw [Nat.add_assoc, this]
        congr 3
        rw [List.getElem_take, List.getElem_drop]
      clear ho hcb hrd HCH
      generalize (l.drop 1).take (l.length - 2) = mid at *
      go_wp2
      clear c0 cn hx0 hxn b2 b3
      go_loopw [7, 8] (fun o b wr => ∃ (a : Option Addr) (m : List Nat) (cap : Nat) (acc : List Nat), b = .slice a m.length cap ∧ m.length < cap ∧ cap ≤ 9223372036854775807 ∧ RdI w1 w1.heap.size a m ∧ OwnI wr w1.heap.size o acc ∧ Below w1.heap.size w1 wr ∧ JoinsI acc (unqN m) ANS ∧ acc.length + m.length ≤ 10000 ∧ Hid (∀ r ∈ m, Sc.isCh r) ∧ Hid (∀ r ∈ acc, Sc.isCh r)) (fun _ b _ => sliceLen b)
      case atStart => exact ⟨_, mid, cap - 1, [], slice_eqR rfl (by omega) rfl, by omega, by omega, HRM.out, ownI_nil _ _, Below.refl _ _, HA, by simp; omega, HMC, (show ∀ r ∈ ([] : List Nat), Sc.isCh r from fun r hr => absurd hr List.not_mem_nil)⟩
      case round =>
        clear HRM HA HMC hml
        obtain ⟨a, m, cap', acc, rfl, hcm, hcm2, hrd, hown, hbw, HJ, hal, HC1, HC2⟩ := hrel
        have hsz := hbw.size
        by_cases h0 : m.length = 0
        · have hl : m = [] := List.eq_nil_of_length_eq_zero h0
          subst hl
          have hA : ANS = some acc := by
            unfold JoinsI at HJ; rw [unqN_nil] at HJ; simpa using HJ.symm
          subst hA
          obtain ⟨a', cap2, hv', hc1', hc2', hrd'⟩ := hown.form
          subst hv'
          have CT := Lib.hid (text_any a' acc cap2 wr hrd' HC2.out (by omega))
          clear hrd' hown HJ hrd
          go_wp2_with fail
          refine CT.out.mono ?_
          rintro e w2 ⟨rfl, h2⟩
          clear CT
          go_wp2
          go_ret2
          exact ⟨rfl, hb.trans ((hbw.trans (h2.mono hsz)).mono hb.size)⟩
        · have hmp : 0 < m.length := by omega
          obtain ⟨g', off', rfl, hg', hcb⟩ := hrd hmp
          have c0 := (hbw.cell (p := ⟨g', off' + 0, none⟩) hg').trans (hcb 0 hmp)
          rw [Nat.add_zero] at c0
          have hmc : m = m[0] :: m.drop 1 := by rw [← List.drop_eq_getElem_cons hmp, List.drop_zero]
          have HU : Hid (unqN m = if m[0] = 34 ∨ m[0] = 10 then none else if m[0] = 92 then (meantN (m.drop 1)).bind fun p => (unqN ((m.drop 1).drop p.2)).map (p.1 :: ·) else (unqN (m.drop 1)).map (m[0] :: ·)) := by
            show _ = _
            conv => lhs; rw [hmc]
            rw [unqN_cons]
          have hx := HC1.out _ (List.getElem_mem hmp)
          obtain ⟨x, hxe⟩ : ∃ x, m[0] = x := ⟨_, rfl⟩
          rw [hxe] at c0 HU hx
          clear hmc hxe
          by_cases hq : x = 34 ∨ x = 10
          · have hA : ANS = none := by
              have := HU.out; rw [if_pos hq] at this
              unfold JoinsI at HJ; rw [this] at HJ; exact HJ.symm
            subst hA
            clear HU HJ hcb hrd hx
            rcases hq with rfl | rfl
            · go_wp2
              go_ret2
              exact ⟨rfl, hb.trans (hbw.mono hb.size)⟩
            · go_wp2
              go_ret2
              exact ⟨rfl, hb.trans (hbw.mono hb.size)⟩
          · have HU2 := Lib.hid (HU.out.trans (if_neg hq))
            have bq1 : ((x : Int) == 34) = false := beq_eq_false_iff_ne.2 (by omega)
            have bq2 : ((x : Int) == 10) = false := beq_eq_false_iff_ne.2 (by omega)
            clear HU hq
            have hcut : ∀ k, k ≤ m.length → RdI w1 w1.heap.size (some ⟨g', off' + k, none⟩) (m.drop k) := by
              intro k hk hpos
              refine ⟨g', off' + k, rfl, hg', fun j hj => ?_⟩
              rw [List.length_drop] at hj
              have := hcb (k + j) (by omega)
              rw [Nat.add_assoc, this, List.getElem_drop]
            have HCUT := Lib.hid hcut
            clear hcut hcb hrd
            by_cases h92 : x = 92
            · have HU3 := Lib.hid (HU2.out.trans (if_pos h92))
              have b92 : ((x : Int) != 92) = false := bne_eq_false_iff_eq.2 (by omega)
              clear HU2
              have hd1 : (m.drop 1).length = m.length - 1 := List.length_drop
              have CM : Hid (∀ v1, v1 = .slice (some ⟨g', off' + 1, none⟩) (m.length - 1) (cap' - 1) → Calls Tryz.prog 44 #[v1] wr fun e w' => e = meR (meantN (m.drop 1)) ∧ Below wr.heap.size wr w') := by
                intro v1 e1
                rw [e1, ← hd1]
                exact meant_any _ (m.drop 1) (cap' - 1) wr (((HCUT.out 1 (by omega)).below hbw).more hsz) (by omega) (by omega) (fun r hr => HC1.out r (List.mem_of_mem_drop hr))
              have HMG := Lib.hid (fun r z h => meantN_good (m.drop 1) r z h)
              cases hme : meantN (m.drop 1) with
              | none =>
                have hA : ANS = none := by
                  have := HU3.out; rw [hme] at this
                  unfold JoinsI at HJ; rw [this] at HJ; exact HJ.symm
                subst hA
                rw [hme] at CM
                simp only [meR] at CM
                clear HU3 HJ HMG hme HCUT hx hd1
                go_wp2_with fail
                refine (CM.out _ (slice_eqR rfl (by omega) (by omega))).mono ?_
                rintro e w2 ⟨rfl, h2⟩
                clear CM
                go_wp2
                go_ret2
                exact ⟨rfl, hb.trans ((hbw.trans (h2.mono hsz)).mono hb.size)⟩
              | some p =>
                obtain ⟨r, z⟩ := p
                obtain ⟨hr, hz1, hz2⟩ := HMG.out r z hme
                rw [hd1] at hz2
                have HN : JoinsI (acc ++ [r]) (unqN (m.drop (1 + z))) ANS := by
                  have := HU3.out; rw [hme, Option.bind_some] at this
                  rw [this] at HJ
                  have h3 := HJ.step
                  rw [List.drop_drop] at h3
                  exact h3
                rw [hme] at CM
                simp only [meR] at CM
                have hrn : r ≤ 1114111 := by unfold Sc.isCh at hr; omega
                have HRI := Lib.hid hr
                clear HU3 HJ HMG hme hx hd1 hr
                go_wp2_with fail
                refine (CM.out _ (slice_eqR rfl (by omega) (by omega))).mono ?_
                rintro e w2 ⟨rfl, h2⟩
                have hown2 := ownI_below hown h2
                have hB2 : w1.heap.size ≤ w2.heap.size := Nat.le_trans hsz h2.size
                clear CM hown
                have br : decide ((r : Int) < 0) = false := decide_eq_false (by omega)
                go_wp2_with (at_builtin; refine wpList_pushI rfl (.tmp 75) (.tmp 77) rfl w1.heap.size _ acc [r] w2 _ _ _ rfl _ rfl rfl rfl rfl hown2 (by simp; omega) hB2 ?_; intro v' w' ho' hk' hB')
                go_roundw
                case rel => exact ⟨_, m.drop (1 + z), cap' - (1 + z), acc ++ [r], slice_eqR rfl (by rw [List.length_drop]) (by omega), by rw [List.length_drop]; omega, by omega, HCUT.out (1 + z) (by omega), ho', (hbw.trans (h2.mono hsz)).trans hk', HN, by rw [List.length_append, List.length_drop]; simp; omega, (fun y hy => HC1.out y (List.mem_of_mem_drop hy) : ∀ y ∈ m.drop (1 + z), Sc.isCh y), (by intro y hy; rcases List.mem_append.1 hy with h | h; exact HC2.out y h; rw [List.mem_singleton.1 h]; exact HRI.out : ∀ y ∈ acc ++ [r], Sc.isCh y)⟩
                case measure => simp [sliceLen]; omega
            · have HU3 := Lib.hid (HU2.out.trans (if_neg h92))
              have b92 : ((x : Int) != 92) = true := bne_iff_ne.2 (by omega)
              have HN : JoinsI (acc ++ [x]) (unqN (m.drop 1)) ANS := by
                have := HU3.out
                rw [this] at HJ
                exact HJ.step
              have HRI := Lib.hid hx
              clear HU2 HU3 HJ h92 hx
              go_wp2_with (at_builtin; refine wpList_pushI rfl (.tmp 59) (.tmp 63) rfl w1.heap.size _ acc [x] wr _ _ _ rfl _ rfl rfl rfl rfl hown (by simp; omega) hsz ?_; intro v' w' ho' hk' hB')
              go_roundw
              case rel => exact ⟨_, m.drop 1, cap' - 1, acc ++ [x], slice_eqR rfl (by rw [List.length_drop]) (by omega), by rw [List.length_drop]; omega, by omega, HCUT.out 1 (by omega), ho', hbw.trans hk', HN, by rw [List.length_append, List.length_drop]; simp; omega, (fun y hy => HC1.out y (List.mem_of_mem_drop hy) : ∀ y ∈ m.drop 1, Sc.isCh y), (by intro y hy; rcases List.mem_append.1 hy with h | h; exact HC2.out y h; rw [List.mem_singleton.1 h]; exact HRI.out : ∀ y ∈ acc ++ [x], Sc.isCh y)⟩
              case measure => simp [sliceLen]; omega
  · rw [if_neg (fun h => hv h.1)]
    have hco : Sc.charsOf s.data.toList = none := by unfold Sc.charsOf; rw [if_neg hv]
    rw [hco] at CC
    clear hv hco
    go_enter Tryz.func26, Tryz.ntmps26
    go_wp2_with fail
    refine (CC.out _).mono ?_
    rintro e w1 ⟨v, rfl, ho, hb⟩
    clear CC
    obtain ⟨a, cap, hv, hc1, hc2, hrd⟩ := ho.form
    simp only [Option.getD_none, List.length_nil] at hv
    subst hv
    clear ho hrd
    go_wp2
    go_ret2
    exact ⟨rfl, hb⟩
end Go.Proofs.YthkedlcmpibkjaaGreatDoor
namespace Go.Proofs.YthkedlcmpibkjaaGreatDoor

theorem enc_of (r : Nat) (b : UInt8) (hc : Sc.isCh r) (hb : b.toNat < 128) : (r = b.toNat ∧ Sc.enc r = [b]) ∨ (r ≠ b.toNat ∧ ∀ x ∈ Sc.enc r, x ≠ b) := by
  by_cases h : r = b.toNat
  · left
    refine ⟨h, ?_⟩
    rw [Sc.enc1 r (by omega), h]; simp
  · right
    refine ⟨h, fun x hx e => ?_⟩
    subst e
    exact h (mem_enc r x hc hx hb)
theorem head_encs (l : List Nat) (h : ∀ r ∈ l, Sc.isCh r) (b : UInt8) (hb : b.toNat < 128) : ((Sc.encs l).head? == some b) = (l.head? == some b.toNat) := by
  cases l with
  | nil => rfl
  | cons r t =>
    rw [Sc.encs_cons, List.head?_cons]
    rcases enc_of r b (h r (by simp)) hb with ⟨h1, h2⟩ | ⟨h1, h2⟩
    · rw [h2, h1]; simp
    · obtain ⟨x, u, hx⟩ : ∃ x u, Sc.enc r = x :: u := by
        cases he : Sc.enc r with
        | nil => exact absurd he (Sc.enc_ne r)
        | cons x u => exact ⟨x, u, rfl⟩
      have := h2 x (by rw [hx]; simp)
      rw [hx, List.cons_append, List.head?_cons, Bool.eq_iff_iff]
      simp only [beq_iff_eq, Option.some.injEq]
      exact ⟨fun e => absurd e this, fun e => absurd e h1⟩
theorem last_encs (l : List Nat) (h : ∀ r ∈ l, Sc.isCh r) (b : UInt8) (hb : b.toNat < 128) : ((Sc.encs l).getLast? == some b) = (l.getLast? == some b.toNat) := by
  rcases List.eq_nil_or_concat l with rfl | ⟨t, r, rfl⟩
  · rfl
  · rw [List.concat_eq_append] at *
    rw [Sc.encs_append, Sc.encs_cons, Sc.encs_nil, List.append_nil, List.getLast?_append, List.getLast?_append]
    rcases enc_of r b (h r (by simp)) hb with ⟨h1, h2⟩ | ⟨h1, h2⟩
    · rw [h2, h1]; simp
    · obtain ⟨x, hx⟩ : ∃ x, (Sc.enc r).getLast? = some x := by
        cases he : (Sc.enc r).getLast? with
        | none => exact absurd (List.getLast?_eq_none_iff.1 he) (Sc.enc_ne r)
        | some x => exact ⟨x, rfl⟩
      have := h2 x (List.mem_of_getLast? hx)
      rw [hx, Bool.eq_iff_iff]
      simp only [Option.some_or, beq_iff_eq, Option.some.injEq, List.getLast?_singleton]
      exact ⟨fun e => absurd e this, fun e => absurd e h1⟩
def hexR (l : List UInt8) (d n : Nat) : Option Nat := if l.length < d then none else hexNum (l.take d) n
def nmbG (l : List Nat) (d n : Nat) : Option Nat := if l.length < d then none else numN (l.take d) n
theorem hexNum_cons (b : UInt8) (t : List UInt8) (n : Nat) : hexNum (b :: t) n = (Sc.digB b).bind fun d => hexNum t (n * 16 + d) := by
  simp only [hexNum]; cases Sc.digB b <;> rfl
theorem hexR_cons (b : UInt8) (t : List UInt8) (d n : Nat) : hexR (b :: t) (d + 1) n = (Sc.digB b).bind fun x => hexR t d (n * 16 + x) := by
  unfold hexR
  by_cases h : t.length < d
  · rw [if_pos (by simp; omega)]
    cases Sc.digB b with
    | none => rfl
    | some x => rw [Option.bind_some, if_pos h]
  · rw [if_neg (by simp; omega), List.take_succ_cons, hexNum_cons]
    cases Sc.digB b with
    | none => rfl
    | some x => rw [Option.bind_some, Option.bind_some, if_neg h]
theorem nmbG_cons (c : Nat) (t : List Nat) (d n : Nat) : nmbG (c :: t) (d + 1) n = (digN c).bind fun x => nmbG t d (n * 16 + x) := by
  unfold nmbG
  by_cases h : t.length < d
  · rw [if_pos (by simp; omega)]
    cases digN c with
    | none => rfl
    | some x => rw [Option.bind_some, if_pos h]
  · rw [if_neg (by simp; omega), List.take_succ_cons, numN_cons]
    cases digN c with
    | none => rfl
    | some x => rw [Option.bind_some, Option.bind_some, if_neg h]
/-- a character of ASCII is its byte; another one's first byte is none of ASCII -/
theorem enc_case (c : Nat) (hc : Sc.isCh c) : (c < 128 ∧ ∃ b : UInt8, b.toNat = c ∧ Sc.enc c = [b]) ∨ (128 ≤ c ∧ ∃ b u, 128 ≤ b.toNat ∧ Sc.enc c = b :: u) := by
  by_cases h : c < 128
  · left
    exact ⟨h, UInt8.ofNat c, Sc.toNat_of c (by omega), Sc.enc1 c (by omega)⟩
  · right
    refine ⟨by omega, ?_⟩
    cases he : Sc.enc c with
    | nil => exact absurd he (Sc.enc_ne c)
    | cons b u =>
      refine ⟨b, u, ?_, rfl⟩
      rcases Nat.lt_or_ge b.toNat 128 with h1 | h1
      · have := mem_enc c b hc (by rw [he]; simp) h1; omega
      · exact h1
theorem digN_hi (c : Nat) (h : 128 ≤ c) : digN c = none := by
  unfold digN
  rw [if_neg (by omega), if_neg (by omega), if_neg (by omega)]
theorem hex_enc : ∀ (d : Nat) (u : List Nat) (n : Nat), (∀ r ∈ u, Sc.isCh r) → hexR (Sc.encs u) d n = nmbG u d n ∧ ∀ m, nmbG u d n = some m → (Sc.encs u).drop d = Sc.encs (u.drop d)
  | 0, u, n, _ => by
    refine ⟨?_, fun m _ => by simp⟩
    unfold hexR nmbG
    rw [if_neg (by omega), if_neg (by omega)]
    simp [hexNum, numN]
  | d + 1, [], n, _ => by
    unfold hexR nmbG
    refine ⟨by rw [if_pos (by simp [Sc.encs]), if_pos (by simp)], fun m h => ?_⟩
    rw [if_pos (by simp)] at h; cases h
  | d + 1, c :: v, n, h => by
    have hc := h c (by simp)
    have hv : ∀ r ∈ v, Sc.isCh r := fun r hr => h r (by simp [hr])
    rw [nmbG_cons]
    rcases enc_case c hc with ⟨h1, b, hb, he⟩ | ⟨h1, b, u, hb, he⟩
    · rw [Sc.encs_cons, he, List.singleton_append, hexR_cons, digN_byte, hb]
      cases hd : digN c with
      | none => exact ⟨rfl, fun m hm => by cases hm⟩
      | some x =>
        have ih := hex_enc d v (n * 16 + x) hv
        rw [Option.bind_some, Option.bind_some]
        refine ⟨ih.1, fun m hm => ?_⟩
        rw [List.drop_succ_cons, List.drop_succ_cons]
        exact ih.2 m hm
    · rw [digN_hi c h1, Sc.encs_cons, he, List.cons_append, hexR_cons, digN_byte, digN_hi _ hb]
      exact ⟨rfl, fun m hm => by cases hm⟩
theorem numOf_hexR (b : UInt8) (t : List UInt8) (d : Nat) : numOf (b :: t) d = match hexR t d 0 with
    | none => (0, 0)
    | some n => if Sc.isCh n then (n, 1 + d) else (0, 0) := by
  unfold numOf hexR
  by_cases h : t.length < d
  · rw [if_pos (by rw [List.length_cons]; omega), if_pos h]
  · rw [if_neg (by rw [List.length_cons]; omega), if_neg h]; rfl
theorem charFrom_hi (x : Nat) (h : 128 ≤ x) : charFrom 0 x = none := by
  unfold charFrom
  rw [Option.map_eq_none_iff, List.find?_eq_none]
  intro p hp e
  have : ∀ q ∈ namedTab, q.2 < 128 := by decide
  have := this p (by simpa using hp)
  rw [beq_iff_eq] at e
  omega
theorem charFrom_not (x r : Nat) (h : charFrom 0 x = some r) : x ≠ 120 ∧ x ≠ 117 ∧ x ≠ 85 := by
  refine ⟨?_, ?_, ?_⟩ <;> rintro rfl <;> revert h <;> decide +revert
def EscM (t : List Nat) : Prop := match meantN t with
  | none => (escOf (Sc.encs t)).2 = 0
  | some p => escOf (Sc.encs t) = p ∧ (Sc.encs t).drop p.2 = Sc.encs (t.drop p.2)
theorem escM_num (b : UInt8) (c : Nat) (u : List Nat) (d : Nat) (hd : d ≠ 0) (hu : ∀ r ∈ u, Sc.isCh r) (hw : widN c = d) (hm : meantN (c :: u) = numM c u) (he : Sc.enc c = [b])
    (hs : escOf (b :: Sc.encs u) = numOf (b :: Sc.encs u) d) : EscM (c :: u) := by
  unfold EscM
  have hx := hex_enc d u 0 hu
  rw [hm, Sc.encs_cons, he, List.singleton_append, hs, numOf_hexR, hx.1]
  unfold numM
  rw [hw, if_neg hd]
  have hn : nmbN u d = nmbG u d 0 := rfl
  rw [hn]
  cases hg : nmbG u d 0 with
  | none => rfl
  | some n =>
    simp only [Option.bind_some]
    by_cases hi : Sc.isCh n
    · rw [if_pos hi]
      simp only
      refine ⟨if_pos hi, ?_⟩
      have e : ∀ (y : UInt8) (l : List UInt8), (y :: l).drop (1 + d) = l.drop d := fun y l => by rw [Nat.add_comm, List.drop_succ_cons]
      have e2 : (c :: u).drop (1 + d) = u.drop d := by rw [Nat.add_comm, List.drop_succ_cons]
      rw [e, e2]
      exact hx.2 n hg
    · rw [if_neg hi]
      show (if Sc.isCh n then (n, 1 + d) else (0, 0)).2 = 0
      rw [if_neg hi]
theorem esc_meant (t : List Nat) (h : ∀ r ∈ t, Sc.isCh r) : EscM t := by
  cases t with
  | nil => rfl
  | cons c u =>
    have hc := h c (by simp)
    have hu : ∀ r ∈ u, Sc.isCh r := fun r hr => h r (by simp [hr])
    have hM : meantN (c :: u) = if c = 47 then some (47, 1) else match charFrom 0 c with
      | some r => some (r, 1)
      | none => numM c u := rfl
    rcases enc_case c hc with ⟨h1, b, hb, he⟩ | ⟨h1, b, v, hb, he⟩
    · have hE : escOf (b :: Sc.encs u) = if c = 47 then (47, 1) else if c = 120 then numOf (b :: Sc.encs u) 2 else if c = 117 then numOf (b :: Sc.encs u) 4 else if c = 85 then numOf (b :: Sc.encs u) 8 else nmR (charFrom 0 c) := by
        rw [← hb]; rfl
      by_cases h47 : c = 47
      · unfold EscM
        rw [hM, if_pos h47, Sc.encs_cons, he, List.singleton_append, hE, if_pos h47]
        exact ⟨rfl, rfl⟩
      · rw [if_neg h47] at hM hE
        cases hcf : charFrom 0 c with
        | some r =>
          obtain ⟨n1, n2, n3⟩ := charFrom_not c r hcf
          unfold EscM
          rw [hM, hcf, Sc.encs_cons, he, List.singleton_append, hE, if_neg n1, if_neg n2, if_neg n3, hcf]
          exact ⟨rfl, rfl⟩
        | none =>
          rw [hcf] at hM hE
          by_cases k1 : c = 120
          · exact escM_num b c u 2 (by decide) hu (by unfold widN; rw [if_pos k1]) hM he (by rw [hE, if_pos k1])
          · by_cases k2 : c = 117
            · exact escM_num b c u 4 (by decide) hu (by unfold widN; rw [if_neg k1, if_pos k2]) hM he (by rw [hE, if_neg k1, if_pos k2])
            · by_cases k3 : c = 85
              · exact escM_num b c u 8 (by decide) hu (by unfold widN; rw [if_neg k1, if_neg k2, if_pos k3]) hM he (by rw [hE, if_neg k1, if_neg k2, if_pos k3])
              · have hw : widN c = 0 := by unfold widN; rw [if_neg k1, if_neg k2, if_neg k3]
                unfold EscM
                rw [hM, Sc.encs_cons, he, List.singleton_append, hE, if_neg k1, if_neg k2, if_neg k3]
                unfold numM
                rw [if_pos hw]; rfl
    · have hw : widN c = 0 := by unfold widN; rw [if_neg (by omega), if_neg (by omega), if_neg (by omega)]
      unfold EscM
      rw [hM, if_neg (by omega), charFrom_hi c h1]
      unfold numM
      rw [if_pos hw, Sc.encs_cons, he, List.cons_append]
      simp only [escOf]
      rw [if_neg (by omega), if_neg (by omega), if_neg (by omega), if_neg (by omega), charFrom_hi _ hb]
      rfl
theorem unq_same : ∀ (n : Nat) (l : List Nat), l.length ≤ n → (∀ r ∈ l, Sc.isCh r) → unq (Sc.encs l) = (unqN l).map Sc.encs
  | 0, l, h, _ => by
    have : l = [] := List.eq_nil_of_length_eq_zero (by omega)
    subst this; rfl
  | n + 1, [], _, _ => rfl
  | n + 1, c :: t, h, hch => by
    rw [List.length_cons] at h
    have hc := hch c (by simp)
    have ht : ∀ r ∈ t, Sc.isCh r := fun r hr => hch r (by simp [hr])
    rw [unqN_cons]
    by_cases hq : c = 34 ∨ c = 10
    · have hb : (UInt8.ofNat c).toNat = c := Sc.toNat_of c (by omega)
      rw [if_pos hq, Sc.encs_cons, Sc.enc1 c (by omega), List.singleton_append, unq_cons, if_pos (by rw [hb]; exact hq)]
      rfl
    · rw [if_neg hq]
      by_cases h92 : c = 92
      · have hb : (UInt8.ofNat c).toNat = c := Sc.toNat_of c (by omega)
        rw [if_pos h92, Sc.encs_cons, Sc.enc1 c (by omega), List.singleton_append, unq_cons, if_neg (by rw [hb]; exact hq), if_pos (by rw [hb]; exact h92)]
        have hE := esc_meant t ht
        unfold EscM at hE
        cases hm : meantN t with
        | none => rw [hm] at hE; rw [if_pos hE]; rfl
        | some p =>
          rw [hm] at hE
          simp only at hE
          have hg := meantN_good t p.1 p.2 hm
          rw [hE.1, if_neg (by omega), hE.2, unq_same n (t.drop p.2) (by rw [List.length_drop]; omega) fun r hr => ht r (List.mem_of_mem_drop hr)]
          rw [Option.bind_some, Option.map_map, Option.map_map]
          congr 1
      · rw [if_neg h92, Sc.encs_cons, unq_raw _ _ fun b hb => ?_, unq_same n t (by omega) ht, Option.map_map, Option.map_map]
        · congr 1
        · by_cases hb' : b.toNat < 128
          · have := mem_enc c b hc hb hb'; omega
          · omega
/-- THE DOCUMENT's Unquote IS THE PROGRAM's -/
theorem unquote_same (s : List UInt8) : unquoteRef s (Sc.rns s) = unquoteOf s := by
  unfold unquoteRef unquoteOf
  by_cases hv : Lib.validD s = true
  · have hs := Sc.encs_rns s hv
    have hc := Sc.ch_rns s
    generalize Sc.rns s = l at *
    have h1 := head_encs l hc 34 (by decide)
    have h2 := last_encs l hc 34 (by decide)
    rw [hs] at h1 h2
    simp only [show (34 : UInt8).toNat = 34 from rfl] at h1 h2
    rw [Bool.eq_iff_iff, beq_iff_eq, beq_iff_eq] at h1 h2
    by_cases H : 2 ≤ l.length ∧ l.head? = some 34 ∧ l.getLast? = some 34
    · obtain ⟨H1, H2, H3⟩ := H
      obtain ⟨m, hm⟩ : ∃ m, l = 34 :: (m ++ [34]) := by
        cases l with
        | nil => cases H2
        | cons x t =>
          have hx : x = 34 := by simpa using H2
          cases t with
          | nil => simp at H1
          | cons y u =>
            rw [List.getLast?_cons_cons] at H3
            obtain ⟨m, hm⟩ := List.getLast?_eq_some_iff.1 H3
            exact ⟨m, by rw [hx, hm]⟩
      have hmc : ∀ r ∈ m, Sc.isCh r := fun r hr => hc r (by rw [hm]; simp [hr])
      have e34 : Sc.enc 34 = [34] := by decide
      have hsm : s = 34 :: (Sc.encs m ++ [34]) := by
        rw [← hs, hm, Sc.encs_cons, Sc.encs_append, Sc.encs_cons, e34]; rfl
      have hsl : 2 ≤ s.length := by rw [hsm]; simp
      rw [if_pos ⟨hv, H1, H2, H3⟩, if_pos ⟨hv, hsl, h1.2 H2, h2.2 H3⟩]
      have m1 : (l.drop 1).take (l.length - 2) = m := by rw [hm]; simp
      have m2 : (s.drop 1).take (s.length - 2) = Sc.encs m := by rw [hsm]; simp
      rw [m1, m2, unq_same m.length m (Nat.le_refl _) hmc]
    · rw [if_neg fun h => H h.2, if_neg]
      rintro ⟨_, g1, g2, g3⟩
      have k2 := h1.1 g2
      have k3 := h2.1 g3
      apply H
      refine ⟨?_, k2, k3⟩
      cases l with
      | nil => cases k2
      | cons x t =>
        have hx : x = 34 := by simpa using k2
        cases t with
        | nil =>
          rw [← hs, hx] at g1
          exact absurd g1 (by decide)
        | cons y u => simp
  · rw [if_neg fun h => hv h.1, if_neg fun h => hv h.1]
end Go.Proofs.YthkedlcmpibkjaaGreatDoor
