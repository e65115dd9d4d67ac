/-
  Walk of the document's meant.
-/
import Derived.Test.YtlfmaeodkghbbaaDoorRl
import Derived.Test.YtlfmaeodkghbbaaDoorWj
namespace Go.Proofs.YtlfmaeodkghbbaaDoor
open Go.RowKit

def rcharFrom (k b : Nat) : Option Nat := ((refTab.drop k).find? fun p => p.2 == b).map (·.1)
theorem rchar_eq (b : Nat) : rcharFrom 0 b = charFrom 0 b := by
  unfold rcharFrom charFrom
  congr 1
  exact find_same refTab namedTab (·.2) (by decide) (by decide) (by decide) b
theorem rcharFrom_step (k b : Nat) (h : k < 15) : rcharFrom k b = if rlt k = b then some (rch k) else rcharFrom (k + 1) b := by
  unfold rcharFrom rch rlt
  have : refTab.drop k = refTab.getD k (0, 0) :: refTab.drop (k + 1) := by
    have hl : k < refTab.length := h
    rw [List.drop_eq_getElem_cons hl]; simp [List.getD, hl]
  rw [this, List.find?_cons]
  generalize refTab.getD k (0, 0) = x
  by_cases e : x.2 = b
  · have : (x.2 == b) = true := beq_iff_eq.2 e
    rw [this, if_pos e]; rfl
  · have : (x.2 == b) = false := beq_eq_false_iff_ne.2 e
    rw [this, if_neg e]

theorem quiet_same {P : Program} {f : FuncId} {args : Array Value} {w : World} {n : Nat} {v : Value}
    (h : Calls P f args (w.drewN n) fun e w' => e = .returned v ∧ w.drewN n = w') :
    Calls P f args (w.drewN n) fun e w'' => e = .returned v ∧ ∃ m, w'' = w.drewN m :=
  h.mono fun _ _ ⟨he, hm⟩ => ⟨he, n, hm.symm⟩
theorem slice_eq {a a' : Option Addr} {n n' c c' : Nat} (h1 : a = a') (h2 : n = n') (h3 : c = c') : Value.slice a n c = Value.slice a' n' c' := by subst h1 h2 h3; rfl
theorem int_eq {x y : Int} (h : x = y) : Value.int .i64 x = Value.int .i64 y := by rw [h]
/-- the number that a letter and digits mean -/
def numM (c : Nat) (t : List Nat) : Option (Nat × Nat) :=
  if widN c = 0 then none else (nmbN t (widN c)).bind fun n => if Sc.isCh n then some (n, 1 + widN c) else none
/-- the character of what is behind a backslash, and how many characters that is -/
def meantN : List Nat → Option (Nat × Nat)
  | [] => none
  | c :: t => if c = 47 then some (47, 1) else match charFrom 0 c with
    | some r => some (r, 1)
    | none => numM c t
def meR (o : Option (Nat × Nat)) : Ending := match o with
  | some (r, z) => .returned (.tuple #[.int .i64 (r : Nat), .int .i64 (z : Nat)])
  | none => .returned (.tuple #[.int .i64 (-1), .int .i64 0])
theorem nmbN_lt (l : List Nat) (d n : Nat) (hd : d ≤ 8) (h : nmbN l d = some n) : n < 4294967296 := by
  unfold nmbN at h
  split at h
  · cases h
  · have key : ∀ (l : List Nat) (m n : Nat), numN l m = some n → n < (m + 1) * 16 ^ l.length := by
      intro l
      induction l with
      | nil => intro m n h; simp only [numN, Option.some.injEq] at h; simp; omega
      | cons c t ih =>
        intro m n h
        rw [numN_cons] at h
        cases hdg : digN c with
        | none => rw [hdg] at h; cases h
        | some d =>
          rw [hdg] at h
          have h1 := ih _ _ h
          have h2 := digN_lt c d hdg
          rw [List.length_cons, Nat.pow_succ]
          have h3 : (m * 16 + d + 1) * 16 ^ t.length ≤ ((m + 1) * 16) * 16 ^ t.length := Nat.mul_le_mul_right _ (by omega)
          have h4 : (m + 1) * (16 ^ t.length * 16) = ((m + 1) * 16) * 16 ^ t.length := by rw [Nat.mul_comm (16 ^ t.length) 16, Nat.mul_assoc]
          omega
    have h1 := key _ _ _ h
    rw [List.length_take] at h1
    have h2 : 16 ^ min d l.length ≤ 16 ^ 8 := Nat.pow_le_pow_right (by decide) (by omega)
    have h3 : (16 : Nat) ^ 8 = 4294967296 := by decide
    omega

set_option maxHeartbeats 2000000 in
set_option maxRecDepth 100000 in
theorem meant_any (a : Option Addr) (l : List Nat) (cap : Nat) (w : World) (hb : RdI w w.heap.size a l) (hc : l.length < cap) (hL : l.length ≤ 100000) (hch : ∀ r ∈ l, Sc.isCh r) :
    Calls Tryd.prog 40 #[.slice a l.length cap] w fun e w' => e = meR (meantN l) ∧ Below w.heap.size w w' := by
  by_cases h0 : l.length = 0
  · have hl : l = [] := List.eq_nil_of_length_eq_zero h0
    subst hl
    clear hb
    go_enter Tryd.func40, Tryd.ntmps40
    go_wp2
    go_ret2
    exact ⟨rfl, Below.refl _ _⟩
  · have hp : 0 < l.length := by omega
    have hlc : l = l[0] :: l.drop 1 := by
      rw [← List.drop_eq_getElem_cons hp, List.drop_zero]
    obtain ⟨g, off, rfl, hg, hcb⟩ := hb hp
    have c0 := hcb 0 hp
    rw [Nat.add_zero] at c0
    have hrt : RdI w w.heap.size (if cap = 1 then some ⟨g, off, none⟩ else some ⟨g, off + 1, none⟩) (l.drop 1) := by
      intro h1
      rw [List.length_drop] at h1
      rw [if_neg (by omega)]
      refine ⟨g, off + 1, rfl, hg, fun j hj => ?_⟩
      rw [List.length_drop] at hj
      have := hcb (j + 1) (by omega)
      rw [Nat.add_assoc, Nat.add_comm 1 j, List.getElem_drop]
      rw [this]
      congr 3
      simp only [Nat.add_comm 1 j]
    have hrl : (l.drop 1).length = l.length - 1 := List.length_drop
    have hch1 : ∀ r ∈ l.drop 1, Sc.isCh r := fun r hr => hch r (List.mem_of_mem_drop hr)
    have hM : meantN l = if l[0] = 47 then some (47, 1) else match charFrom 0 l[0] with
      | some r => some (r, 1)
      | none => numM l[0] (l.drop 1) := by
      conv => lhs; rw [hlc]
      rfl
    rw [hM]
    have hx := hch _ (List.getElem_mem hp)
    have hxl : l[0] ≤ 1114111 := by unfold Sc.isCh at hx; omega
    obtain ⟨x, hxe⟩ : ∃ x, l[0] = x := ⟨_, rfl⟩
    obtain ⟨t, ht⟩ : ∃ t, l.drop 1 = t := ⟨_, rfl⟩
    rw [hxe] at c0 hx hxl ⊢
    rw [ht] at hrt hrl hch1 ⊢
    clear hcb hM hlc hxe ht hch hb
    by_cases h47 : x = 47
    · subst h47
      rw [if_pos rfl]
      clear hrt hch1
      go_enter Tryd.func40, Tryd.ntmps40
      go_wp2
      go_ret2
      exact ⟨rfl, Below.refl _ _⟩
    rw [if_neg h47]
    have b47 : ((x : Int) == 47) = false := beq_eq_false_iff_ne.2 (by omega)
    obtain ⟨CF, hCF⟩ : ∃ CF, charFrom 0 x = CF := ⟨_, rfl⟩
    rw [hCF]
    have HA : Hid (rcharFrom 0 x = CF) := (rchar_eq x).trans hCF
    have HRT := Lib.hid hrt
    have HCH := Lib.hid hch1
    clear hCF hrt hch1 h47 hx
    have cT := table_any w
    go_enter Tryd.func40, Tryd.ntmps40
    go_wp2_with (go_at_call 59; refine cT.mono ?_; rintro e w1 ⟨rfl, hT, hb⟩)
    have hwl : w.heap.size < w1.heap.size := World.block_lt_of_cell? w1 ⟨w.heap.size, 0 * 2, none⟩ (hT 0 (by omega)).1
    have HT := Lib.hid hT
    have c01 := (hb.cell (p := ⟨g, off, none⟩) hg).trans c0
    clear hT cT c0
    go_loopw [5] (fun i wr => ∃ k : Nat, k ≤ 15 ∧ i = .int .i64 k ∧ Hid (rcharFrom k x = CF) ∧ Below w1.heap.size w1 wr) (fun i _ => 15 - (intOf i).toNat)
    case atStart => exact ⟨0, by omega, rfl, HA, Below.refl _ _⟩
    case round =>
      obtain ⟨k, hk, rfl, HK, hbw⟩ := hrel
      clear HA
      have c02 := (hbw.cell (p := ⟨g, off, none⟩) (by show g < _; omega)).trans c01
      clear c01
      by_cases hlt : k < 15
      · obtain ⟨c1, c2⟩ := HT.out k hlt
        replace c1 := (hbw.cell (p := ⟨w.heap.size, k * 2, none⟩) hwl).trans c1
        replace c2 := (hbw.cell (p := ⟨w.heap.size, k * 2 + 1, none⟩) hwl).trans c2
        have HS := Lib.hid (rcharFrom_step k x hlt)
        generalize rch k = c at *
        generalize rlt k = b at *
        by_cases hcr : b = x
        · have hA : CF = some c := by
            have h1 := HS.out; rw [if_pos hcr] at h1
            exact HK.out.symm.trans h1
          subst hA
          have hb' : ((b : Int) == (x : Int)) = true := beq_iff_eq.2 (by omega)
          clear HS HK hcr
          go_wp2
          go_quiet (fail)
          go_wp2
          go_ret2
          exact ⟨rfl, hb.trans ((below_drewN hbw _).mono hb.size)⟩
        · have hb' : ((b : Int) == (x : Int)) = false := beq_eq_false_iff_ne.2 (by omega)
          have HN : Hid (rcharFrom (k + 1) x = CF) := by
            have := HS.out; rw [if_neg hcr] at this; exact this.symm.trans HK.out
          clear HS HK hcr
          go_wp2
          go_quiet (fail)
          go_wp2
          go_roundw
          case rel => exact ⟨k + 1, by omega, by go_num, HN, below_drewN hbw _⟩
          case measure => simp [intOf]; omega
      · obtain rfl : k = 15 := by omega
        have hA : CF = none := by rw [← HK.out]; rfl
        subst hA
        clear HK HT
        have hbw0 : Below w.heap.size w wr := hb.trans (hbw.mono hb.size)
        have hsz := hbw0.size
        have hwid : widN x ≤ 8 := by
          unfold widN
          split
          · omega
          · split
            · omega
            · split <;> omega
        have CN := Lib.hid (fun (w2 : World) (h2 : Below w.heap.size w w2) => number_any (if cap = 1 then some ⟨g, off, none⟩ else some ⟨g, off + 1, none⟩) t (cap - 1) (widN x) w2 ((HRT.out.below h2).more h2.size) (by omega) hwid HCH.out)
        have CW := Lib.hid (fun w2 => width_any x w2)
        have HMM : Hid (numM x t = if widN x = 0 then none else (nmbN t (widN x)).bind fun n => if Sc.isCh n then some (n, 1 + widN x) else none) := (rfl : numM x t = _)
        have hnl : ∀ n, nmbN t (widN x) = some n → n < 4294967296 := fun n h => nmbN_lt t (widN x) n hwid h
        rw [hrl] at CN
        generalize nmbN t (widN x) = NB at *
        generalize widN x = d at *
        clear HRT HCH hrl
        have CN : Hid (∀ (w2 : World) (v1 v2 : Value), Below w.heap.size w w2 → v1 = .slice (if cap = 1 then some ⟨g, off, none⟩ else some ⟨g, off + 1, none⟩) (l.length - 1) (cap - 1) → v2 = .int .i64 d → Calls Tryd.prog 60 #[v1, v2] w2 fun e w' => e = .returned (.int .i64 (optI NB)) ∧ w2 = w') := by
          intro w2 v1 v2 h2 e1 e2
          rw [e1, e2]
          exact CN.out w2 h2
        have z1 : (1 : Int) ≤ (l.length : Int) := by omega
        have z2 : 1 ≤ l.length := by omega
        have z3 : ¬ ((l.length : Int) < 1) := by omega
        have hc1 : ¬ cap = 1 := by omega
        rw [if_neg hc1] at CN
        by_cases hd0 : d = 0
        · subst hd0
          have HM0 : Hid (numM x t = none) := HMM.out.trans (if_pos rfl)
          clear HMM hnl
          generalize optI NB = NI at *
          go_wp2
          go_quiet (first | (go_at_call 61; exact quiet_same (CW.out _)) | (go_at_call 60; exact quiet_same (CN.out _ _ _ (below_drewN hbw0 _) (slice_eq rfl (by omega) (by omega)) (int_eq (by omega)))))
          go_wp2_with (go_at_call 61; refine (CW.out _).mono ?_; rintro e w' ⟨rfl, rfl⟩)
          go_ret2
          refine ⟨?_, below_drewN hbw0 _⟩
          show _ = meR (numM x t)
          rw [HM0.out]; rfl
        · have b0 : ((d : Int) == 0) = false := beq_eq_false_iff_ne.2 (by omega)
          have HM1 := Lib.hid (HMM.out.trans (if_neg hd0))
          clear HMM
          by_cases hgood : ∃ n, NB = some n ∧ Sc.isCh n
          · obtain ⟨n, rfl, hn⟩ := hgood
            have hn2 : n < 4294967296 := hnl n rfl
            have HM0 : Hid (numM x t = some (n, 1 + d)) := by
              have := HM1.out; rw [Option.bind_some, if_pos hn] at this; exact this
            have bch : chI (n : Int) = true := by rw [chI_nat]; exact decide_eq_true hn
            simp only [optI] at CN
            clear HM1 hnl hn
            go_wp2
            go_quiet (first | (go_at_call 61; exact quiet_same (CW.out _)) | (go_at_call 60; exact quiet_same (CN.out _ _ _ (below_drewN hbw0 _) (slice_eq rfl (by omega) (by omega)) (int_eq (by omega)))))
            go_wp2_with (first | (go_at_call 61; refine (CW.out _).mono ?_; rintro e w' ⟨rfl, rfl⟩) | (go_at_call 49; refine (character_any _ _).mono ?_; rintro e w' ⟨rfl, rfl⟩))
            go_ret2
            refine ⟨?_, below_drewN hbw0 _⟩
            show _ = meR (numM x t)
            rw [HM0.out]
            simp only [meR]
            exact ret_ii rfl (by omega)
          · have HM0 : Hid (numM x t = none) := by
              have := HM1.out
              show _ = _
              rw [this]
              cases NB with
              | none => rfl
              | some n => rw [Option.bind_some, if_neg fun h => hgood ⟨n, rfl, h⟩]
            have bch : chI (optI NB) = false := by
              cases NB with
              | none => rfl
              | some n => show chI (n : Int) = false; rw [chI_nat]; exact decide_eq_false fun h => hgood ⟨n, rfl, h⟩
            clear HM1 hnl hgood
            generalize optI NB = NI at *
            go_wp2
            go_quiet (first | (go_at_call 61; exact quiet_same (CW.out _)) | (go_at_call 60; exact quiet_same (CN.out _ _ _ (below_drewN hbw0 _) (slice_eq rfl (by omega) (by omega)) (int_eq (by omega)))))
            go_wp2_with (first | (go_at_call 61; refine (CW.out _).mono ?_; rintro e w' ⟨rfl, rfl⟩) | (go_at_call 49; refine (character_any _ _).mono ?_; rintro e w' ⟨rfl, rfl⟩))
            go_ret2
            refine ⟨?_, below_drewN hbw0 _⟩
            show _ = meR (numM x t)
            rw [HM0.out]; rfl
end Go.Proofs.YtlfmaeodkghbbaaDoor
