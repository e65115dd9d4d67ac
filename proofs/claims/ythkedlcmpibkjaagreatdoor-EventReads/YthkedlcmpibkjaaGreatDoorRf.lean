/-
  Walks of the document's Text, in and hex.
  Walks of the document's table and letter.
  Walks of the document's escaped and Quote.
-/
import Derived.Test.YthkedlcmpibkjaaGreatDoorQb
import Derived.Test.YthkedlcmpibkjaaGreatDoorWq
import Derived.Test.YthkedlcmpibkjaaGreatDoorMq
namespace Go.Proofs.YthkedlcmpibkjaaGreatDoor
open Go.RowKit

theorem take_snoc (l : List Nat) (k : Nat) (h : k < l.length) : l.take (k + 1) = l.take k ++ [l[k]] := by
  rw [List.take_succ_eq_append_getElem h]
theorem encs_take (l : List Nat) (k : Nat) (h : k < l.length) : Sc.encs (l.take (k + 1)) = Sc.encs (l.take k) ++ Sc.enc l[k] := by
  rw [take_snoc l k h, Sc.encs_append]; congr 1; simp [Sc.encs]
theorem encs_len (l : List Nat) : (Sc.encs l).length ≤ 4 * l.length := by
  induction l with
  | nil => simp [Sc.encs]
  | cons r t ih =>
    have := Sc.enc_len r
    rw [Sc.encs_cons, List.length_append, List.length_cons]; omega

set_option maxHeartbeats 1000000 in
set_option maxRecDepth 100000 in
/-- Text of characters -/
theorem text_any (a : Option Addr) (l : List Nat) (cap : Nat) (w : World) (hb : RdI w w.heap.size a l) (hch : ∀ r ∈ l, Sc.isCh r) (hL : l.length ≤ 100000) :
    Calls Tryz.prog 45 #[.slice a l.length cap] w fun e w' => e = .returned (.string (str (Sc.encs l))) ∧ Below w.heap.size w w' := by
  have HB := Lib.hid hb
  have HC := Lib.hid hch
  clear hb hch
  go_enter Tryz.func45, Tryz.ntmps45
  go_wp2
  go_loopw [3, 4] (fun v i wr => ∃ k : Nat, k ≤ l.length ∧ i = .int .i64 k ∧ Own wr w.heap.size v (Sc.encs (l.take k)) ∧ Below w.heap.size w wr) (fun _ i _ => l.length - (intOf i).toNat)
  case atStart => exact ⟨0, by omega, rfl, own_nil _ _, Below.refl _ _⟩
  case round =>
    obtain ⟨k, hk, rfl, hown, hbw⟩ := hrel
    have hsz := hbw.size
    by_cases hlt : k < l.length
    · obtain ⟨g, off, rfl, hg, hcb⟩ := HB.out (by omega)
      have ck := (hbw.cell (p := ⟨g, off + k, none⟩) hg).trans (hcb k hlt)
      have hy := HC.out _ (List.getElem_mem hlt)
      have HT := Lib.hid (encs_take l k hlt)
      have hel := encs_len (l.take k)
      have hew := Sc.enc_len l[k]
      rw [List.length_take] at hel
      have hel2 : (Sc.encs (l.take k)).length ≤ 400000 := by omega
      clear hel hcb
      generalize l[k] = y at *
      go_wp2_with (first | (go_at_call 75; refine (bytes_any y _ hy).mono ?_; rintro e w2 ⟨rfl, rfl⟩) | (at_builtin; refine wpList_push rfl (.tmp 11) (.tmp 16) rfl w.heap.size _ (Sc.encs (l.take k)) (Sc.enc y) wr _ _ _ rfl _ rfl rfl rfl rfl hown (by omega) hsz ?_; intro v' w' ho' hk' hB'))
      go_roundw
      case rel => exact ⟨k + 1, by omega, by go_num, by rw [HT.out]; exact ho', hbw.trans hk'.1⟩
      case measure => simp [intOf]; omega
    · have hk2 : l.take k = l := List.take_of_length_le (by omega)
      rw [hk2] at hown
      have hcv := own_string hown
      go_wp2
      go_ret
      exact ⟨rfl, hbw⟩

/-- is a character one of a text's bytes? -/
def inB (r : Nat) (l : List UInt8) : Bool := l.any fun b => b.toNat == r
theorem hexS_cut : ∀ x : Fin 16, hexS.extract x.val (x.val + 1) = str [Sc.hexd x.val] := by decide
set_option maxHeartbeats 1000000 in
set_option maxRecDepth 100000 in
theorem hexR_any (r d : Nat) (w : World) (hr : r ≤ 1114111) (hd : d ≤ 8) :
    Calls Tryz.prog 98 #[.int .i64 r, .int .i64 d] w fun e w' => e = .returned (.string (str (Sc.hexL r d))) ∧ w = w' := by
  go_enter Tryz.func98, Tryz.ntmps98
  go_wp2
  go_loop [0, 5, 6] (fun n o i => ∃ k m : Nat, k ≤ d ∧ m = r / 16 ^ k ∧ n = .int .i64 m ∧ o = .string (str (Sc.hexL r k)) ∧ i = .int .i64 k) (fun _ _ i => d - (intOf i).toNat)
  case atStart => exact ⟨0, r, by omega, by simp, rfl, rfl, rfl⟩
  case round =>
    obtain ⟨k, m, hk, hm, rfl, rfl, rfl⟩ := hrel
    have hml : m ≤ 1114111 := by rw [hm]; exact Nat.le_trans (Nat.div_le_self _ _) hr
    have hhl := Sc.hexL_len r k
    by_cases hlt : k < d
    · have HN : Hid (Sc.hexL r (k + 1) = Sc.hexd (m % 16) :: Sc.hexL r k) := by
        show Sc.hexL r (k + 1) = _
        rw [hm]; rfl
      have HD : Hid (m / 16 = r / 16 ^ (k + 1)) := by
        show m / 16 = _
        rw [hm, Nat.div_div_eq_div_mul, Nat.pow_succ]
      have hx := hexS_cut ⟨m % 16, Nat.mod_lt _ (by decide)⟩
      have hsz : (str (Sc.hexL r k)).size = k := by rw [str_size, hhl]
      simp only at hx
      clear hm
      go_wp2
      go_round
      case rel => exact ⟨k + 1, m / 16, by omega, HD.out, by go_num, by show Value.string (hexS.extract (m % 16) (m % 16 + 1) ++ _) = _; rw [hx, str_app, HN.out]; rfl, by go_num⟩
      case measure => simp [intOf]; omega
    · obtain rfl : k = d := by omega
      go_wp2
      go_ret
      exact ⟨rfl, rfl⟩
end Go.Proofs.YthkedlcmpibkjaaGreatDoor
namespace Go.Proofs.YthkedlcmpibkjaaGreatDoor
open Go.RowKit

/-- the document's table -/
def refTab : List (Nat × Nat) := [(0, 48), (7, 97), (8, 98), (9, 116), (10, 110), (11, 118), (12, 102), (13, 114), (27, 101), (34, 34), (92, 92), (133, 78), (160, 95), (8232, 76), (8233, 80)]
def rch (k : Nat) : Nat := (refTab.getD k (0, 0)).1
def rlt (k : Nat) : Nat := (refTab.getD k (0, 0)).2
theorem rch_lt : ∀ k : Fin 15, rch k.val < 10000 := by decide
theorem rlt_lt : ∀ k : Fin 15, rlt k.val < 256 := by decide
def refCells : List Value := refTab.flatMap fun p => [.int .i64 (p.1 : Nat), .int .i64 (p.2 : Nat)]
theorem refCells_at (k : Nat) (h : k < 15) : refCells[k * 2]? = some (.int .i64 (rch k : Nat)) ∧ refCells[k * 2 + 1]? = some (.int .i64 (rlt k : Nat)) :=
  match k, h with
  | 0, _ => ⟨rfl, rfl⟩
  | 1, _ => ⟨rfl, rfl⟩
  | 2, _ => ⟨rfl, rfl⟩
  | 3, _ => ⟨rfl, rfl⟩
  | 4, _ => ⟨rfl, rfl⟩
  | 5, _ => ⟨rfl, rfl⟩
  | 6, _ => ⟨rfl, rfl⟩
  | 7, _ => ⟨rfl, rfl⟩
  | 8, _ => ⟨rfl, rfl⟩
  | 9, _ => ⟨rfl, rfl⟩
  | 10, _ => ⟨rfl, rfl⟩
  | 11, _ => ⟨rfl, rfl⟩
  | 12, _ => ⟨rfl, rfl⟩
  | 13, _ => ⟨rfl, rfl⟩
  | 14, _ => ⟨rfl, rfl⟩
  | _ + 15, h => absurd h (by omega)
/-- the table lies in a block -/
def TabAt (w : World) (g : Nat) : Prop := ∀ k, k < 15 → w.cell? ⟨g, k * 2, none⟩ = some (.int .i64 (rch k : Nat)) ∧ w.cell? ⟨g, k * 2 + 1, none⟩ = some (.int .i64 (rlt k : Nat))
theorem tab_new (w : World) : TabAt (w.alloc (.cells refCells.toArray 98)) w.heap.size := by
  intro k hk
  have h := refCells_at k hk
  have h1 := cells_of_new w 98 refCells (k * 2) _ h.1
  have h2 := cells_of_new w 98 refCells (k * 2 + 1) _ h.2
  have e : ∀ j : Nat, (⟨w.heap.size, 0, none⟩ : Addr).add j = ⟨w.heap.size, j, none⟩ := by intro j; unfold Addr.add; split <;> simp_all
  rw [e] at h1 h2
  exact ⟨h1, h2⟩

set_option maxHeartbeats 1000000 in
set_option maxRecDepth 100000 in
theorem table_any (w : World) :
    Calls Tryz.prog 71 #[] w fun e w' => e = .returned (.slice (some ⟨w.heap.size, 0, none⟩) 15 15) ∧ TabAt w' w.heap.size ∧ Below w.heap.size w w' := by
  go_enter Tryz.func71, Tryz.ntmps71
  go_wp2
  go_ret
  exact ⟨rfl, tab_new w, (Below.refl _ w).alloc (Nat.le_refl _) _⟩

theorem find_same (A B : List (Nat × Nat)) (f : Nat × Nat → Nat) (hAB : ∀ p ∈ A, p ∈ B) (hBA : ∀ p ∈ B, p ∈ A) (hf : ∀ p ∈ A, ∀ q ∈ A, f p = f q → p = q) (r : Nat) :
    A.find? (fun p => f p == r) = B.find? (fun p => f p == r) := by
  cases ha : A.find? (fun p => f p == r) with
  | none =>
    symm
    rw [List.find?_eq_none] at ha ⊢
    exact fun p hp => ha p (hBA p hp)
  | some p =>
    have hp := List.mem_of_find?_eq_some ha
    have hpr := List.find?_some ha
    cases hb : B.find? (fun p => f p == r) with
    | none =>
      rw [List.find?_eq_none] at hb
      exact absurd hpr (hb p (hAB p hp))
    | some q =>
      have hq := List.mem_of_find?_eq_some hb
      have hqr := List.find?_some hb
      have := hf p hp q (hBA q hq) (by rw [beq_iff_eq] at hpr hqr; omega)
      rw [this]

def rnameFrom (k r : Nat) : Option Nat := ((refTab.drop k).find? fun p => p.1 == r).map (·.2)
theorem rname_eq (r : Nat) : rnameFrom 0 r = nameOf r := by
  unfold rnameFrom nameOf nameFrom
  congr 1
  exact find_same refTab namedTab (·.1) (by decide) (by decide) (by decide) r
theorem rnameFrom_step (k r : Nat) (h : k < 15) : rnameFrom k r = if rch k = r then some (rlt k) else rnameFrom (k + 1) r := by
  unfold rnameFrom rch rlt
  have : refTab.drop k = refTab.getD k (0, 0) :: refTab.drop (k + 1) := by
    have hl : k < refTab.length := h
    rw [List.drop_eq_getElem_cons hl]; simp [List.getD, hl]
  rw [this, List.find?_cons]
  generalize refTab.getD k (0, 0) = x
  by_cases e : x.1 = r
  · have : (x.1 == r) = true := beq_iff_eq.2 e
    rw [this, if_pos e]; rfl
  · have : (x.1 == r) = false := beq_eq_false_iff_ne.2 e
    rw [this, if_neg e]

set_option maxHeartbeats 1000000 in
set_option maxRecDepth 100000 in
theorem letter_any (r : Nat) (w : World) :
    Calls Tryz.prog 96 #[.int .i64 r] w fun e w' => e = .returned (.int .i64 ((nameOf r).getD 0 : Nat)) ∧ Below w.heap.size w w' := by
  obtain ⟨ANS, hANS⟩ : ∃ ANS, nameOf r = ANS := ⟨_, rfl⟩
  rw [hANS]
  have HA : Hid (rnameFrom 0 r = ANS) := (rname_eq r).trans hANS
  clear hANS
  have cT := table_any w
  go_enter Tryz.func96, Tryz.ntmps96
  go_wp2_with (go_at_call 71; refine cT.mono ?_; rintro e w1 ⟨rfl, hT, hb⟩)
  have HT := Lib.hid hT
  clear hT cT
  go_loop [4] (fun i => ∃ k : Nat, k ≤ 15 ∧ i = .int .i64 k ∧ Hid (rnameFrom k r = ANS)) (fun i => 15 - (intOf i).toNat)
  case atStart => exact ⟨0, by omega, rfl, HA⟩
  case round =>
    obtain ⟨k, hk, rfl, HK⟩ := hrel
    clear HA
    by_cases hlt : k < 15
    · obtain ⟨c1, c2⟩ := HT.out k hlt
      have HS := Lib.hid (rnameFrom_step k r hlt)
      generalize rch k = c at *
      generalize rlt k = b at *
      by_cases hcr : c = r
      · have hA : ANS = some b := by
          have h1 := HS.out; rw [if_pos hcr] at h1
          exact HK.out.symm.trans h1
        subst hA
        have hb' : ((c : Int) == (r : Int)) = true := beq_iff_eq.2 (by omega)
        clear HS HK hcr
        go_wp2
        go_ret
        exact ⟨rfl, hb⟩
      · have hb' : ((c : Int) == (r : Int)) = false := beq_eq_false_iff_ne.2 (by omega)
        have HN : Hid (rnameFrom (k + 1) r = ANS) := by
          have := HS.out; rw [if_neg hcr] at this; exact this.symm.trans HK.out
        clear HS HK hcr
        go_wp2
        go_round
        case rel => exact ⟨k + 1, by omega, by go_num, HN⟩
        case measure => simp [intOf]; omega
    · obtain rfl : k = 15 := by omega
      have hA : ANS = none := by rw [← HK.out]; rfl
      subst hA
      go_wp2
      go_ret
      exact ⟨rfl, hb⟩
end Go.Proofs.YthkedlcmpibkjaaGreatDoor
namespace Go.Proofs.YthkedlcmpibkjaaGreatDoor
open Go.RowKit

theorem rdI_new (w : World) (m : List Nat) : RdI (w.alloc (.cells (m.map fun (r : Nat) => Value.int .i64 (r : Int)).toArray 3)) (w.heap.size + 1) (some ⟨w.heap.size, 0, none⟩) m := fun _ => by
  refine ⟨w.heap.size, 0, rfl, by omega, fun j hj => ?_⟩
  have h1 := cells_of_new w 3 (m.map fun (r : Nat) => Value.int .i64 (r : Int)) j (.int .i64 (m[j] : Nat)) (by simp [hj])
  have e : (⟨w.heap.size, 0, none⟩ : Addr).add j = ⟨w.heap.size, 0 + j, none⟩ := by unfold Addr.add; split <;> simp_all
  rw [e] at h1
  exact h1
theorem text_one (y : Nat) (w : World) (hy : Sc.isCh y) :
    Calls Tryz.prog 45 #[.slice (some ⟨w.heap.size, 0, none⟩) 1 1] (w.alloc (.cells #[.int .i64 y] 3)) fun e w' => e = .returned (.string (str (Sc.enc y))) ∧ Below w.heap.size w w' := by
  have h := text_any (some ⟨w.heap.size, 0, none⟩) [y] 1 (w.alloc (.cells #[.int .i64 y] 3)) (by rw [World.size_alloc]; exact rdI_new w [y]) (by simpa using hy) (by simp)
  refine Calls.mono h ?_
  rintro e w' ⟨rfl, hb⟩
  refine ⟨by rw [Sc.encs_cons, Sc.encs_nil, List.append_nil], ?_⟩
  exact ((Below.refl _ w).alloc (Nat.le_refl _) _).trans (hb.mono (by rw [World.size_alloc]; omega))

set_option maxHeartbeats 1000000 in
set_option maxRecDepth 100000 in
theorem escapedR_any (r : Nat) (w : World) (hc : Sc.isCh r) :
    Calls Tryz.prog 81 #[.int .i64 r] w fun e w' => e = .returned (.string (str (esc r))) ∧ Below w.heap.size w w' := by
  have hr : r ≤ 1114111 := by unfold Sc.isCh at hc; omega
  have CL := Lib.hid (fun w1 => letter_any r w1)
  cases hn : nameOf r with
  | some b =>
    have hm := nameOf_mem r b hn
    have hb0 : b ≠ 0 := by
      have : ∀ p ∈ namedTab, p.2 ≠ 0 := by decide
      exact this _ hm
    have hb1 : b < 128 := (named_back _ hm).1
    have HF : Hid (esc r = [92] ++ Sc.enc b) := by
      show esc r = _
      unfold esc; rw [hn, Sc.enc1 b (by omega)]; rfl
    rw [hn, Option.getD_some] at CL
    have CT := Lib.hid (fun w1 => text_one b w1 (by unfold Sc.isCh; omega))
    have b1 : ((b : Int) != 0) = true := bne_iff_ne.2 (by omega)
    have hsz : (str (Sc.enc b)).size ≤ 4 := by rw [str_size]; exact (Sc.enc_len b).2
    clear hn hm
    go_enter Tryz.func81, Tryz.ntmps81
    go_wp2_with fail
    refine (CL.out _).mono ?_
    rintro e w1 ⟨rfl, h1⟩
    go_wp2_with fail
    refine (CL.out _).mono ?_
    rintro e w2 ⟨rfl, h2⟩
    replace h1 := h1.trans (h2.mono h1.size)
    clear h2 CL
    go_wp2_with fail
    refine (CT.out _).mono ?_
    rintro e w3 ⟨rfl, h2⟩
    replace h1 := h1.trans (h2.mono h1.size)
    clear h2 CT
    go_wp2
    go_ret
    rw [HF.out, ← str_app]
    exact ⟨rfl, h1⟩
  | none =>
    rw [hn, Option.getD_none] at CL
    have HE : Hid (esc r = if Sc.mayB r = true then Sc.enc r else if r < 256 then [92, 120] ++ Sc.hexL r 2 else if r < 65536 then [92, 117] ++ Sc.hexL r 4 else [92, 85] ++ Sc.hexL r 8) := by
      show esc r = _
      unfold esc; rw [hn]
    clear hn
    by_cases hm : Sc.mayB r = true
    · have HF := Lib.hid (HE.out.trans (if_pos hm))
      clear HE
      have CT := Lib.hid (fun w1 => text_one r w1 hc)
      go_enter Tryz.func81, Tryz.ntmps81
      go_wp2_with fail
      refine (CL.out _).mono ?_
      rintro e w1 ⟨rfl, h1⟩
      clear CL
      go_wp2_with (go_at_call 97; refine (mayR_any _ _).mono ?_; rintro e w' ⟨rfl, rfl⟩)
      refine (CT.out _).mono ?_
      rintro e w3 ⟨rfl, h2⟩
      replace h1 := h1.trans (h2.mono h1.size)
      clear h2 CT
      go_wp2
      go_ret
      rw [HF.out]
      exact ⟨rfl, h1⟩
    · have HE2 := Lib.hid (HE.out.trans (if_neg hm))
      have hmf : Sc.mayB r = false := Bool.eq_false_iff.2 hm
      clear HE hm hc
      have fin : ∀ (d : Nat), d ≤ 8 → (str (Sc.hexL r d)).size ≤ 8 := fun d hd => by rw [str_size, Sc.hexL_len]; exact hd
      by_cases h1 : r < 256
      · have HF := Lib.hid (HE2.out.trans (if_pos h1))
        have hz := fin 2 (by omega)
        clear HE2 fin
        have CX := Lib.hid (fun w1 => hexR_any r 2 w1 hr (by omega))
        go_enter Tryz.func81, Tryz.ntmps81
        go_wp2_with fail
        refine (CL.out _).mono ?_
        rintro e w1 ⟨rfl, h1⟩
        clear CL
        go_wp2_with (first | (go_at_call 97; refine (mayR_any _ _).mono ?_; rintro e w' ⟨rfl, rfl⟩) | (go_at_call 98; refine (CX.out _).mono ?_; rintro e w' ⟨rfl, rfl⟩))
        go_ret
        rw [HF.out, ← str_app]
        exact ⟨rfl, h1⟩
      · have HE3 := Lib.hid (HE2.out.trans (if_neg h1))
        have b1 : decide ((r : Int) < 256) = false := decide_eq_false (by omega)
        clear HE2
        by_cases h2 : r < 65536
        · have HF := Lib.hid (HE3.out.trans (if_pos h2))
          have hz := fin 4 (by omega)
          have b2 : decide ((r : Int) < 65536) = true := decide_eq_true (by omega)
          clear HE3 fin
          have CX := Lib.hid (fun w1 => hexR_any r 4 w1 hr (by omega))
          clear h1 h2 hr
          go_enter Tryz.func81, Tryz.ntmps81
          go_wp2_with fail
          refine (CL.out _).mono ?_
          rintro e w1 ⟨rfl, h1⟩
          clear CL
          go_wp2_with (first | (go_at_call 97; refine (mayR_any _ _).mono ?_; rintro e w' ⟨rfl, rfl⟩) | (go_at_call 98; refine (CX.out _).mono ?_; rintro e w' ⟨rfl, rfl⟩))
          go_ret
          rw [HF.out, ← str_app]
          exact ⟨rfl, h1⟩
        · have HF := Lib.hid (HE3.out.trans (if_neg h2))
          have hz := fin 8 (by omega)
          have b2 : decide ((r : Int) < 65536) = false := decide_eq_false (by omega)
          clear HE3 fin
          have CX := Lib.hid (fun w1 => hexR_any r 8 w1 hr (by omega))
          clear h1 h2 hr
          go_enter Tryz.func81, Tryz.ntmps81
          go_wp2_with fail
          refine (CL.out _).mono ?_
          rintro e w1 ⟨rfl, h1⟩
          clear CL
          go_wp2_with (first | (go_at_call 97; refine (mayR_any _ _).mono ?_; rintro e w' ⟨rfl, rfl⟩) | (go_at_call 98; refine (CX.out _).mono ?_; rintro e w' ⟨rfl, rfl⟩))
          go_ret
          rw [HF.out, ← str_app]
          exact ⟨rfl, h1⟩

theorem flat_take (l : List Nat) (k : Nat) (h : k < l.length) : (l.take (k + 1)).flatMap esc = (l.take k).flatMap esc ++ esc l[k] := by
  rw [take_snoc l k h, List.flatMap_append]; simp

set_option maxHeartbeats 1000000 in
set_option maxRecDepth 100000 in
/-- the document's Quote is the program's -/
theorem quoteR_any (s : ByteArray) (w : World) (hs : s.size ≤ 5000) :
    Calls Tryz.prog 51 #[.string s] w fun e w' => e = .returned (.string (str (quoteOf s.data.toList))) ∧ Below w.heap.size w w' := by
  have CC := Lib.hid (fun w1 => chars_any s w1 (by omega))
  unfold quoteOf
  by_cases hv : Lib.validD s.data.toList = true
  · rw [if_pos hv]
    have hco : Sc.charsOf s.data.toList = some (Sc.rns s.data.toList) := by unfold Sc.charsOf; rw [if_pos hv]
    rw [hco] at CC
    have HC := Lib.hid (Sc.ch_rns s.data.toList)
    have hrl := rns_len s.data.toList.length s.data.toList (Nat.le_refl _)
    rw [← Lib.size_eq] at hrl
    clear hv hco
    generalize Sc.rns s.data.toList = l at *
    go_enter Tryz.func51, Tryz.ntmps51
    go_wp2_with fail
    refine (CC.out _).mono ?_
    rintro e w1 ⟨v, rfl, ho, hb⟩
    clear CC
    obtain ⟨a, cap, hv, hc1, hc2, hrd⟩ := ho.form
    simp only [Option.getD_some] at hv hc1 hrd
    subst hv
    have HR := Lib.hid hrd
    clear ho hrd
    go_wp2
    go_loopw [5, 6] (fun o i wr => ∃ (k : Nat), k ≤ l.length ∧ i = .int .i64 k ∧ o = .string (str (34 :: (l.take k).flatMap esc)) ∧ Below w1.heap.size w1 wr) (fun _ i _ => l.length - (intOf i).toNat)
    case atStart => exact ⟨0, by omega, rfl, rfl, Below.refl _ _⟩
    case round =>
      obtain ⟨k, hk, rfl, rfl, hbw⟩ := hrel
      have hesl := escs_len (l.take k)
      rw [List.length_take] at hesl
      have hsz : (str (34 :: (l.take k).flatMap esc)).size ≤ 100000 := by rw [str_size, List.length_cons]; omega
      clear hesl
      by_cases hlt : k < l.length
      · obtain ⟨g, off, rfl, hg, hcb⟩ := HR.out (by omega)
        have ck := (hbw.cell (p := ⟨g, off + k, none⟩) hg).trans (hcb k hlt)
        have hy := HC.out _ (List.getElem_mem hlt)
        have HT : Hid (str (34 :: (l.take (k + 1)).flatMap esc) = str (34 :: (l.take k).flatMap esc) ++ str (esc l[k])) := by
          show _ = _
          rw [flat_take l k hlt, str_app]; rfl
        have hel : (str (esc l[k])).size ≤ 10 := by rw [str_size]; exact esc_len _
        clear hcb
        generalize l[k] = y at *
        generalize str (34 :: (l.take k).flatMap esc) = O at *
        have CE := Lib.hid (fun w1 => escapedR_any y w1 hy)
        generalize str (esc y) = E at *
        go_wp2_with fail
        refine (CE.out _).mono ?_
        rintro e w2 ⟨rfl, h2⟩
        clear CE
        go_wp2
        go_roundw
        case rel => exact ⟨k + 1, by omega, by go_num, by rw [HT.out], hbw.trans (h2.mono hbw.size)⟩
        case measure => simp [intOf]; omega
      · have hk2 : l.take k = l := List.take_of_length_le (by omega)
        have HT : Hid (str (34 :: (l.flatMap esc ++ [34])) = str (34 :: (l.take k).flatMap esc) ++ str [34]) := by
          show _ = _
          rw [hk2, str_app]; rfl
        clear hk2
        generalize str (34 :: (l.take k).flatMap esc) = O at *
        go_wp2
        go_ret
        rw [HT.out]
        exact ⟨rfl, hb.trans (hbw.mono hb.size)⟩
  · rw [if_neg hv]
    have hco : Sc.charsOf s.data.toList = none := by unfold Sc.charsOf; rw [if_neg hv]
    rw [hco] at CC
    clear hv hco
    go_enter Tryz.func51, Tryz.ntmps51
    go_wp2_with fail
    refine (CC.out _).mono ?_
    rintro e w1 ⟨v, rfl, ho, hb⟩
    clear CC ho
    go_wp2
    go_ret
    exact ⟨rfl, hb⟩
end Go.Proofs.YthkedlcmpibkjaaGreatDoor
