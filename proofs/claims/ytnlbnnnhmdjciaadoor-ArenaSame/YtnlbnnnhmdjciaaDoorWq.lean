/-
  Walks of scalar.appendHex, appendQuoted and Quote.
-/
import Derived.Test.YtnlbnnnhmdjciaaDoorWi
namespace Go.Proofs.YtnlbnnnhmdjciaaDoor
open Go.RowKit

theorem and15 (r q : Nat) (hr : r ≤ 1114111) : bits BinOp.and IntKind.i32 ((r : Int) / 2 ^ (4 * q)) 15 = ((r / 16 ^ q % 16 : Nat) : Int) := by
  have h0 : (0 : Int) ≤ (r : Int) / 2 ^ (4 * q) := Int.ediv_nonneg (by omega) (Int.le_of_lt (Int.pow_pos (by decide)))
  have e : (2 : Int) ^ (4 * q) = ((16 ^ q : Nat) : Int) := by
    rw [Int.pow_mul]; simp
  have hle : (r : Int) / 2 ^ (4 * q) ≤ r := Int.ediv_le_self _ (by omega)
  have := bits_mask .i32 31 (by decide) wraps_i32 4 (by decide) ((r : Int) / 2 ^ (4 * q)) h0 (by omega)
  have e4 : (2 : Int) ^ 4 = 16 := by decide
  rw [e4] at this
  have e15 : (16 : Int) - 1 = 15 := by decide
  rw [e15] at this
  rw [this, e]
  omega

def hexS : ByteArray := ⟨#[48, 49, 50, 51, 52, 53, 54, 55, 56, 57, 97, 98, 99, 100, 101, 102]⟩
theorem hexS_at : ∀ x : Fin 16, hexS[x.val]'(by have := x.isLt; exact this) = Sc.hexd x.val := by decide

set_option maxHeartbeats 1000000 in
set_option maxRecDepth 100000 in
theorem hex_any (B : Nat) (v : Value) (l : List UInt8) (r d : Nat) (w : World) (hr : r ≤ 1114111) (hd : d ≤ 8) (hown : Own w B v l) (hn : l.length ≤ 1000000) (hB : B ≤ w.heap.size) :
    Calls Tryd.prog 66 #[v, .int .i32 r, .int .i64 d] w fun e w' => ∃ v', e = .returned v' ∧ Own w' B v' (l ++ Sc.hexL r d) ∧ Kept B w w' := by
  obtain ⟨ANS, hANS⟩ : ∃ ANS, l ++ Sc.hexL r d = ANS := ⟨_, rfl⟩
  rw [hANS]
  have HA := Lib.hid hANS
  clear hANS
  go_enter Tryd.func66, Tryd.ntmps66
  go_wp2
  go_loopw [0, 7] (fun v p wr => ∃ (m : Nat) (a : List UInt8), m ≤ d ∧ p = .int .i64 ((m : Int) - 1) ∧ Hid (a ++ Sc.hexL r m = ANS) ∧ Own wr B v a ∧ Kept B w wr ∧ B ≤ wr.heap.size ∧ a.length + m ≤ 1000010) (fun _ p _ => ((intOf p) + 1).toNat)
  case atStart => exact ⟨d, l, Nat.le_refl _, rfl, HA, hown, Kept.refl _ _, hB, by omega⟩
  case round =>
    obtain ⟨m, a, hm, rfl, HK, hown, hkp, hBr, hal⟩ := hrel
    clear HA
    by_cases h0 : m = 0
    · subst h0
      go_wp2
      go_ret
      have : a = ANS := by rw [← HK.out]; simp [Sc.hexL]
      subst this
      exact ⟨_, rfl, hown, hkp⟩
    · obtain ⟨q, rfl⟩ : ∃ q, m = q + 1 := ⟨m - 1, by omega⟩
      have hb := and15 r q hr
      obtain ⟨x, hx⟩ : ∃ x, x = r / 16 ^ q % 16 := ⟨_, rfl⟩
      rw [← hx] at hb
      have hx16 : x < 16 := by rw [hx]; exact Nat.mod_lt _ (by decide)
      obtain ⟨bx, hbx⟩ : ∃ bx, (⟨#[48, 49, 50, 51, 52, 53, 54, 55, 56, 57, 97, 98, 99, 100, 101, 102]⟩ : ByteArray)[x]'(by exact hx16) = bx := ⟨_, rfl⟩
      have HN : Hid ((a ++ [bx]) ++ Sc.hexL r q = ANS) := by
        have e : bx = Sc.hexd x := by rw [← hbx]; exact hexS_at ⟨x, hx16⟩
        show (a ++ [bx]) ++ Sc.hexL r q = ANS
        rw [← HK.out, e, hx]; simp [Sc.hexL]
      clear hx HK
      go_wp2_with (at_builtin; refine wpList_push rfl (.tmp 14) (.tmp 21) rfl B _ a [bx] wr _ _ _ rfl _ rfl rfl ?hC rfl hown ?hl hBr ?_)
      case hC => rfl
      case hl => simp; omega
      intro v' w' ho' hk' hB'
      clear hown
      go_wp2
      go_roundw
      case rel => exact ⟨q, a ++ [bx], by omega, by go_num, HN, ho', hkp.trans hk', hB', by simp; omega⟩
      case measure => simp [intOf]
/-- the letter of a character -/
def nameFrom (k r : Nat) : Option Nat := ((namedTab.drop k).find? fun p => p.1 == r).map (·.2)
def nameOf (r : Nat) : Option Nat := nameFrom 0 r
/-- a character between double quotes -/
def esc (r : Nat) : List UInt8 :=
  match nameOf r with
  | some b => [92, UInt8.ofNat b]
  | none => if Sc.mayB r = true then Sc.enc r else if r < 256 then [92, 120] ++ Sc.hexL r 2 else if r < 65536 then [92, 117] ++ Sc.hexL r 4 else [92, 85] ++ Sc.hexL r 8
theorem nameFrom_step (k r : Nat) (h : k < 15) : nameFrom k r = if ch k = r then some (lt k) else nameFrom (k + 1) r := by
  unfold nameFrom ch lt
  have : namedTab.drop k = namedTab.getD k (0, 0) :: namedTab.drop (k + 1) := by
    have hl : k < namedTab.length := h
    rw [List.drop_eq_getElem_cons hl]; simp [List.getD, hl]
  rw [this, List.find?_cons]
  generalize namedTab.getD k (0, 0) = x
  by_cases e : x.1 = r
  · have : (x.1 == r) = true := beq_iff_eq.2 e
    rw [this, if_pos e]; rfl
  · have : (x.1 == r) = false := beq_eq_false_iff_ne.2 e
    rw [this, if_neg e]
theorem nameFrom_end (r : Nat) : nameFrom 15 r = none := rfl
set_option maxHeartbeats 1000000 in
set_option maxRecDepth 100000 in
theorem quoted_any (B : Nat) (v : Value) (l : List UInt8) (r : Nat) (w : World) (hE : Env w) (hr : r ≤ 1114111) (hown : Own w B v l) (hn : l.length ≤ 600000) (hB : B ≤ w.heap.size) :
    Calls Tryd.prog 54 #[v, .int .i32 r] w fun e w' => ∃ v', e = .returned v' ∧ Own w' B v' (l ++ esc r) ∧ Kept B w w' := by
  obtain ⟨t2, fr2, h2⟩ := hE.named
  clear hE
  go_enter Tryd.func54, Tryd.ntmps54
  go_wp2_with (refine wpList_load_row rfl 86 _ rfl 2 rfl t2 _ fr2 _ h2 Tryd.underlying86 rfl size65 ?_)
  go_loopw [8] (fun i wr => ∃ k : Nat, k ≤ 15 ∧ i = .int .i64 k ∧ Hid (nameFrom k r = nameOf r) ∧ Own wr B v l ∧ Kept B w wr ∧ B ≤ wr.heap.size) (fun i _ => 15 - (intOf i).toNat)
  case atStart => exact ⟨0, by omega, rfl, (rfl : nameFrom 0 r = nameOf r), hown, Kept.refl _ _, hB⟩
  case round =>
    obtain ⟨k, hk, rfl, HK, hown, hkp, hBr⟩ := hrel
    clear h2
    by_cases hlt : k < 15
    · have hix := named_index k hlt
      have HS := Lib.hid (nameFrom_step k r hlt)
      have hl256 := lt_lt ⟨k, hlt⟩
      have hc := ch_lt ⟨k, hlt⟩
      simp only at hl256 hc
      generalize ch k = c at *
      generalize lt k = b at *
      by_cases hcr : c = r
      · have HF : Hid (esc r = [92, UInt8.ofNat b]) := by
          have h1 := HS.out; rw [if_pos hcr] at h1
          have h2 : nameOf r = some b := HK.out.symm.trans h1
          show esc r = _
          unfold esc; rw [h2]
        have hb : ((c : Int) == (r : Int)) = true := beq_iff_eq.2 (by omega)
        clear HS HK hcr
        go_wp2_with (at_builtin; refine wpList_push rfl (.tmp 15) (.tmp 18) rfl B v l [92, UInt8.ofNat b] (wr.alloc (.cells #[.int .i32 ↑c, .int .u8 ↑b] 85)) _ _ _ rfl _ rfl ?hg ?hC rfl (own_alloc hown _) ?hl ?hB ?_)
        case hg => rw [World.size_alloc]
        case hC => simp [Lib.byteCells, Nat.mod_eq_of_lt hl256]
        case hl => simp; omega
        case hB => rw [World.size_alloc]; omega
        intro v' w' ho' hk' hB'
        clear hown
        go_wp2
        go_ret
        rw [HF.out]
        exact ⟨_, rfl, ho', (hkp.alloc hBr _).trans hk'⟩
      · have hb : ((c : Int) == (r : Int)) = false := beq_eq_false_iff_ne.2 (by omega)
        have HN : Hid (nameFrom (k + 1) r = nameOf r) := by
          have := HS.out; rw [if_neg hcr] at this; exact this.symm.trans HK.out
        clear HS HK hcr
        go_wp2
        go_roundw
        case rel => exact ⟨k + 1, by omega, by go_num, HN, own_alloc hown _, hkp.alloc hBr _, by rw [World.size_alloc]; omega⟩
        case measure => simp [intOf]; omega
    · obtain rfl : k = 15 := by omega
      have hno : nameOf r = none := by rw [← HK.out]; rfl
      have HE : Hid (esc r = if Sc.mayB r = true then Sc.enc r else if r < 256 then [92, 120] ++ Sc.hexL r 2 else if r < 65536 then [92, 117] ++ Sc.hexL r 4 else [92, 85] ++ Sc.hexL r 8) := by
        show esc r = _
        unfold esc; rw [hno]
      clear HK hno
      by_cases hm : Sc.mayB r = true
      · have HF := Lib.hid (HE.out.trans (if_pos hm))
        clear HE
        go_wp2_with (first | (go_at_call 64; refine (may_any _ _).mono ?_; rintro e w' ⟨rfl, rfl⟩) | (go_at_call 65; refine (rune_any B v l r wr hr hown (by omega) hBr).mono ?_; rintro e w' ⟨v', rfl, ho', hk'⟩))
        go_ret
        rw [HF.out]
        exact ⟨_, rfl, ho', hkp.trans hk'⟩
      · have HE2 := Lib.hid (HE.out.trans (if_neg hm))
        clear HE
        have hmf : Sc.mayB r = false := Bool.eq_false_iff.2 hm
        clear hm
        by_cases h1 : r < 256
        · have HF := Lib.hid (HE2.out.trans (if_pos h1))
          clear HE2
          go_wp2_with (first | (go_at_call 64; refine (may_any _ _).mono ?_; rintro e w' ⟨rfl, rfl⟩) | (at_builtin; refine wpList_push rfl (.tmp 30) (.tmp 31) rfl B v l [92, 120] wr _ _ _ rfl _ rfl rfl rfl rfl hown (by simp; omega) hBr ?_; intro v' w' ho' hk' hB'))
          refine (hex_any B v' (l ++ [92, 120]) r 2 w' hr (by omega) ho' (by simp; omega) hB').mono ?_
          rintro e w2 ⟨v2, rfl, ho2, hk2⟩
          go_wp2
          go_ret
          rw [HF.out]
          refine ⟨_, rfl, ?_, hkp.trans (hk'.trans hk2)⟩
          rw [← List.append_assoc]
          exact ho2
        · have HE3 := Lib.hid (HE2.out.trans (if_neg h1))
          clear HE2
          by_cases h2 : r < 65536
          · have HF := Lib.hid (HE3.out.trans (if_pos h2))
            have b1 : decide ((r : Int) < 256) = false := decide_eq_false (by omega)
            have b2 : decide ((r : Int) < 65536) = true := decide_eq_true (by omega)
            have hr2 := Lib.hid hr
            clear HE3 h1 h2 hr
            go_wp2_with (first | (go_at_call 64; refine (may_any _ _).mono ?_; rintro e w' ⟨rfl, rfl⟩) | (at_builtin; refine wpList_push rfl (.tmp 38) (.tmp 39) rfl B v l [92, 117] wr _ _ _ rfl _ rfl rfl rfl rfl hown (by simp; omega) hBr ?_; intro v' w' ho' hk' hB'))
            refine (hex_any B v' (l ++ [92, 117]) r 4 w' hr2.out (by omega) ho' (by simp; omega) hB').mono ?_
            rintro e w2 ⟨v2, rfl, ho2, hk2⟩
            go_wp2
            go_ret
            rw [HF.out]
            refine ⟨_, rfl, ?_, hkp.trans (hk'.trans hk2)⟩
            rw [← List.append_assoc]
            exact ho2
          · have HF := Lib.hid (HE3.out.trans (if_neg h2))
            have b1 : decide ((r : Int) < 256) = false := decide_eq_false (by omega)
            have b2 : decide ((r : Int) < 65536) = false := decide_eq_false (by omega)
            have hr2 := Lib.hid hr
            clear HE3 h1 h2 hr
            go_wp2_with (first | (go_at_call 64; refine (may_any _ _).mono ?_; rintro e w' ⟨rfl, rfl⟩) | (at_builtin; refine wpList_push rfl (.tmp 43) (.tmp 44) rfl B v l [92, 85] wr _ _ _ rfl _ rfl rfl rfl rfl hown (by simp; omega) hBr ?_; intro v' w' ho' hk' hB'))
            refine (hex_any B v' (l ++ [92, 85]) r 8 w' hr2.out (by omega) ho' (by simp; omega) hB').mono ?_
            rintro e w2 ⟨v2, rfl, ho2, hk2⟩
            go_wp2
            go_ret
            rw [HF.out]
            refine ⟨_, rfl, ?_, hkp.trans (hk'.trans hk2)⟩
            rw [← List.append_assoc]
            exact ho2

/-- Quote, by its bytes -/
def quoteOf (l : List UInt8) : List UInt8 := if Lib.validD l = true then 34 :: ((Sc.rns l).flatMap esc ++ [34]) else []

theorem esc_len (r : Nat) : (esc r).length ≤ 10 := by
  unfold esc
  cases nameOf r with
  | some b => simp
  | none =>
    simp only
    repeat' split
    · have := Sc.enc_len r; omega
    all_goals simp [Sc.hexL_len]
set_option maxHeartbeats 1000000 in
set_option maxRecDepth 100000 in
theorem quote_any (s : ByteArray) (w : World) (hs : s.size ≤ 50000) (hE : Env w) :
    Calls Tryd.prog 41 #[.string s] w fun e w' => e = .returned (.string (str (quoteOf s.data.toList))) ∧ Below w.heap.size w w' := by
  have cV := valid_any s w (by omega) hE
  unfold quoteOf
  by_cases hv : Lib.validD s.data.toList = true
  · rw [if_pos hv]
    rw [hv] at cV
    clear hv
    obtain ⟨ANS, hANS⟩ : ∃ ANS, 34 :: (Sc.rns s.data.toList).flatMap esc = ANS := ⟨_, rfl⟩
    rw [← List.cons_append, hANS]
    have HA := Lib.hid hANS
    clear hANS
    go_enter Tryd.func41, Tryd.ntmps41
    go_wp2_with (go_at_call 35; refine cV.mono ?_; rintro e w1 ⟨rfl, hb⟩)
    go_loopw [3] (fun v wr => ∃ (pos : Nat) (a : List UInt8), wr.heap[w1.heap.size + 1]? = some (.stringIter s pos) ∧ Own wr w1.heap.size v a ∧ Below w1.heap.size w1 wr ∧ Hid (a ++ (Sc.rns (s.data.toList.drop pos)).flatMap esc = ANS) ∧ a.length ≤ 1 + 10 * pos ∧ pos ≤ s.size) (fun _ wr => s.size - wr.iterPos (w1.heap.size + 1))
    case atStart =>
      refine ⟨0, [34], ?_, ?_, ?_, HA, by simp, by omega⟩
      · have := World.iter_heap (w1.alloc (Obj.cells #[Value.int IntKind.u8 34] 5)) s 0
        simpa using this
      · exact World.ownsRow.alloc (World.ownsRow_lit (base := w1.heap.size) (e := 5) (size := 1) w1 #[Value.int IntKind.u8 34] 1 (Nat.le_refl _) (by decide) rfl) _
      · exact ((Below.refl _ w1).alloc (Nat.le_refl _) _).alloc (by rw [World.size_alloc]; omega) _
    case round =>
      obtain ⟨pos, a, hit, hown, hbw, HK, hal, hps⟩ := hrel
      have hE1 : Env w1 := hE.below hb
      clear HA cV hE
      have hsz : w1.heap.size + 1 < wr.heap.size := (Array.getElem?_eq_some_iff.1 hit).1
      by_cases hp : pos < s.size
      · have hnx : ∀ ty, (Instr.next (.pointer (some ⟨w1.heap.size + 1, 0, none⟩)) true ty).run Tryd.prog wr = _ := fun ty => Lib.run_next_any_at wr (w1.heap.size + 1) s pos ty hit hp
        have hwd := dec_pos s pos
        have hit2 := Lib.iterAt_heap wr (w1.heap.size + 1) s pos (pos + (Utf8.decode s pos).2) hit
        have hbw2 := Lib.below_iterAt hbw (k := w1.heap.size + 1) (by omega) s (pos + (Utf8.decode s pos).2)
        have hown2 := own_iterAt hown hit (pos + (Utf8.decode s pos).2)
        have hE2 : Env (wr.iterAt (w1.heap.size + 1) s (pos + (Utf8.decode s pos).2)) := hE1.kept hE1.size hbw2
        have hr : (Utf8.decode s pos).1 ≤ 1114111 := by
          have := Lib.decodeL_rune (s.data.toList.drop pos); rw [Lib.decodeL_drop] at this; exact this
        have hBz : w1.heap.size ≤ (wr.iterAt (w1.heap.size + 1) s (pos + (Utf8.decode s pos).2)).heap.size := by rw [Lib.iterAt_size]; omega
        have cQ := Lib.hid (quoted_any w1.heap.size _ a (Utf8.decode s pos).1 _ hE2 hr hown2 (by omega) hBz)
        have HN : Hid ((a ++ esc (Utf8.decode s pos).1) ++ (Sc.rns (s.data.toList.drop (pos + (Utf8.decode s pos).2))).flatMap esc = ANS) := by
          have h := HK.out
          rw [rns_drop s pos hp, List.flatMap_cons, ← List.append_assoc] at h
          exact h
        have hpl : pos + (Utf8.decode s pos).2 ≤ s.size := by
          have := Lib.decodeL_le (s.data.toList.drop pos) (by intro e; have := congrArg List.length e; rw [List.length_drop, ← Lib.size_eq] at this; simp at this; omega)
          rw [Lib.decodeL_drop, List.length_drop, ← Lib.size_eq] at this
          omega
        have hel := esc_len (Utf8.decode s pos).1
        have HI := Lib.hid hit2
        clear hit2 hown hown2 hE2 hE1 HK
        go_wp2_with (go_at_call 54; refine cQ.out.mono ?_; rintro e w2 ⟨v2, rfl, ho2, hk2⟩)
        go_roundw
        case rel => exact ⟨_, _, hk2.iter HI.out, ho2, hbw2.trans hk2.1, HN, by simp; omega, hpl⟩
        case measure =>
          simp only [World.iterPos, hk2.iter HI.out, hit]
          omega
      · have hnx : ∀ ty, (Instr.next (.pointer (some ⟨w1.heap.size + 1, 0, none⟩)) true ty).run Tryd.prog wr = _ := fun ty => Lib.run_next_end_at wr (w1.heap.size + 1) s pos ty hit hp
        have hA : a = ANS := by
          have h := HK.out
          rw [Sc.drop_nil s pos (by omega)] at h
          simpa [Sc.rns_nil] using h
        subst hA
        clear HK hE1
        go_wp2_with (at_builtin; refine wpList_push rfl (.tmp 18) (.tmp 19) rfl w1.heap.size _ a [34] wr _ _ _ rfl _ rfl rfl rfl rfl hown (by simp; omega) (by omega) ?_; intro v' w' ho' hk' hB'; have hcv := own_string ho')
        go_ret
        exact ⟨rfl, hb.trans ((hbw.trans hk'.1).mono hb.size)⟩
  · rw [if_neg hv]
    rw [Bool.eq_false_iff.2 hv] at cV
    clear hv
    go_enter Tryd.func41, Tryd.ntmps41
    go_wp2_with (go_at_call 35; refine cV.mono ?_; rintro e w' ⟨rfl, hb⟩)
    go_ret
    exact ⟨rfl, hb⟩
end Go.Proofs.YtnlbnnnhmdjciaaDoor
