/-
  Walks of scalar.appendQuoted and Quote.
-/
import Derived.Test.YtlfmaeodkghbbaaDoorWe
import Derived.Laws.Rows
namespace Go.Proofs.YtlfmaeodkghbbaaDoor
open Go.RowKit

/-- the letter of a character -/
def nameFrom (k r : Nat) : Option Nat := ((namedTab.drop k).find? fun p => p.1 == r).map (·.2)
def nameOf (r : Nat) : Option Nat := nameFrom 0 r
/-- a character between double quotes -/
def esc (r : Nat) : List UInt8 :=
  match nameOf r with
  | some b => [92, UInt8.ofNat b]
  | none => if Sc.mayB r = true then Sc.enc r else if r < 256 then [92, 120] ++ Sc.hexL r 2 else if r < 65536 then [92, 117] ++ Sc.hexL r 4 else [92, 85] ++ Sc.hexL r 8
def ch (k : Nat) : Nat := (namedTab.getD k (0, 0)).1
def lt (k : Nat) : Nat := (namedTab.getD k (0, 0)).2
theorem nameFrom_step (k r : Nat) (h : k < 15) : nameFrom k r = if ch k = r then some (lt k) else nameFrom (k + 1) r := by
  unfold nameFrom ch lt
  have : namedTab.drop k = namedTab.getD k (0, 0) :: namedTab.drop (k + 1) := by
    have hl : k < namedTab.length := h
    rw [List.drop_eq_getElem_cons hl]; simp [List.getD, hl]
  rw [this, List.find?_cons]
  generalize namedTab.getD k (0, 0) = x
  by_cases e : x.1 = r
  · have : (x.1 == r) = true := beq_iff_eq.2 e
    rw [this, if_pos e]; rfl
  · have : (x.1 == r) = false := beq_eq_false_iff_ne.2 e
    rw [this, if_neg e]
theorem nameFrom_end (r : Nat) : nameFrom 15 r = none := rfl
theorem lt_lt : ∀ k : Fin 15, lt k.val < 256 := by decide
theorem ch_lt : ∀ k : Fin 15, ch k.val < 10000 := by decide
theorem named_ix0 (w : World) : (Instr.index 65 (.agg namedCells) (.int .i64 0)).run Tryd.prog w = .ok (.agg #[.int .i32 34, .int .u8 34]) w := by kernel_rfl
theorem named_ix1 (w : World) : (Instr.index 65 (.agg namedCells) (.int .i64 1)).run Tryd.prog w = .ok (.agg #[.int .i32 92, .int .u8 92]) w := by kernel_rfl
theorem named_ix2 (w : World) : (Instr.index 65 (.agg namedCells) (.int .i64 2)).run Tryd.prog w = .ok (.agg #[.int .i32 0, .int .u8 48]) w := by kernel_rfl
theorem named_ix3 (w : World) : (Instr.index 65 (.agg namedCells) (.int .i64 3)).run Tryd.prog w = .ok (.agg #[.int .i32 7, .int .u8 97]) w := by kernel_rfl
theorem named_ix4 (w : World) : (Instr.index 65 (.agg namedCells) (.int .i64 4)).run Tryd.prog w = .ok (.agg #[.int .i32 8, .int .u8 98]) w := by kernel_rfl
theorem named_ix5 (w : World) : (Instr.index 65 (.agg namedCells) (.int .i64 5)).run Tryd.prog w = .ok (.agg #[.int .i32 9, .int .u8 116]) w := by kernel_rfl
theorem named_ix6 (w : World) : (Instr.index 65 (.agg namedCells) (.int .i64 6)).run Tryd.prog w = .ok (.agg #[.int .i32 10, .int .u8 110]) w := by kernel_rfl
theorem named_ix7 (w : World) : (Instr.index 65 (.agg namedCells) (.int .i64 7)).run Tryd.prog w = .ok (.agg #[.int .i32 11, .int .u8 118]) w := by kernel_rfl
theorem named_ix8 (w : World) : (Instr.index 65 (.agg namedCells) (.int .i64 8)).run Tryd.prog w = .ok (.agg #[.int .i32 12, .int .u8 102]) w := by kernel_rfl
theorem named_ix9 (w : World) : (Instr.index 65 (.agg namedCells) (.int .i64 9)).run Tryd.prog w = .ok (.agg #[.int .i32 13, .int .u8 114]) w := by kernel_rfl
theorem named_ix10 (w : World) : (Instr.index 65 (.agg namedCells) (.int .i64 10)).run Tryd.prog w = .ok (.agg #[.int .i32 27, .int .u8 101]) w := by kernel_rfl
theorem named_ix11 (w : World) : (Instr.index 65 (.agg namedCells) (.int .i64 11)).run Tryd.prog w = .ok (.agg #[.int .i32 133, .int .u8 78]) w := by kernel_rfl
theorem named_ix12 (w : World) : (Instr.index 65 (.agg namedCells) (.int .i64 12)).run Tryd.prog w = .ok (.agg #[.int .i32 160, .int .u8 95]) w := by kernel_rfl
theorem named_ix13 (w : World) : (Instr.index 65 (.agg namedCells) (.int .i64 13)).run Tryd.prog w = .ok (.agg #[.int .i32 8232, .int .u8 76]) w := by kernel_rfl
theorem named_ix14 (w : World) : (Instr.index 65 (.agg namedCells) (.int .i64 14)).run Tryd.prog w = .ok (.agg #[.int .i32 8233, .int .u8 80]) w := by kernel_rfl
theorem named_index (k : Nat) (h : k < 15) (w : World) : (Instr.index 65 (.agg namedCells) (.int .i64 (k : Int))).run Tryd.prog w = .ok (.agg #[.int .i32 (ch k : Nat), .int .u8 (lt k : Nat)]) w :=
  match k, h with
  | 0, _ => named_ix0 w
  | 1, _ => named_ix1 w
  | 2, _ => named_ix2 w
  | 3, _ => named_ix3 w
  | 4, _ => named_ix4 w
  | 5, _ => named_ix5 w
  | 6, _ => named_ix6 w
  | 7, _ => named_ix7 w
  | 8, _ => named_ix8 w
  | 9, _ => named_ix9 w
  | 10, _ => named_ix10 w
  | 11, _ => named_ix11 w
  | 12, _ => named_ix12 w
  | 13, _ => named_ix13 w
  | 14, _ => named_ix14 w
  | _ + 15, h => absurd h (by omega)

theorem size65 : (Tryd.prog.info? 65).map (·.size) = some namedCells.size := by kernel_rfl

/-- utf8.AppendRune onto bytes that the call owns -/
theorem rune_any (B : Nat) (v : Value) (l : List UInt8) (r : Nat) (w : World) (hr : r ≤ 1114111) (hown : Own w B v l) (hn : l.length ≤ 1000000) (hB : B ≤ w.heap.size) :
    Calls Tryd.prog 39 #[v, .int .i32 r] w fun e w' => ∃ v', e = .returned v' ∧ Own w' B v' (l ++ Sc.enc r) ∧ Kept B w w' := by
  refine (Tryd.utf8_AppendRune_plain B v l.length (Lib.byteCells l) r (by omega) (by omega) w hown (by omega) hB).mono ?_
  rintro e w' ⟨v', rfl, ho, o, hg⟩
  refine ⟨v', rfl, own_of_append ho ?_ ?_, ?_⟩
  · rw [List.length_append, Lib.runeCells_length]; rfl
  · rw [Lib.byteCells_append, ← Lib.byteCells_encodeRune]; rfl
  · exact ((Kept.refl B w).alloc hB _).grown (own_alloc hown _) hg (by rw [World.size_alloc]; omega)

set_option maxHeartbeats 1000000 in
set_option maxRecDepth 100000 in
theorem quoted_any (B : Nat) (v : Value) (l : List UInt8) (r : Nat) (w : World) (hE : Env w) (hr : r ≤ 1114111) (hown : Own w B v l) (hn : l.length ≤ 100000) (hB : B ≤ w.heap.size) :
    Calls Tryd.prog 33 #[v, .int .i32 r] w fun e w' => ∃ v', e = .returned v' ∧ Own w' B v' (l ++ esc r) ∧ Kept B w w' := by
  obtain ⟨t2, fr2, h2⟩ := hE.named
  clear hE
  go_enter Tryd.func33, Tryd.ntmps33
  go_wp2_with (refine wpList_load_row rfl 65 _ rfl 2 rfl t2 _ fr2 _ h2 Tryd.underlying65 rfl size65 ?_)
  go_loopw [8] (fun i wr => ∃ k : Nat, k ≤ 15 ∧ i = .int .i64 k ∧ Hid (nameFrom k r = nameOf r) ∧ Own wr B v l ∧ Kept B w wr ∧ B ≤ wr.heap.size) (fun i _ => 15 - (intOf i).toNat)
  case atStart => exact ⟨0, by omega, rfl, (rfl : nameFrom 0 r = nameOf r), hown, Kept.refl _ _, hB⟩
  case round =>
    obtain ⟨k, hk, rfl, HK, hown, hkp, hBr⟩ := hrel
    clear h2
    by_cases hlt : k < 15
    · have hix := named_index k hlt
      have HS := Lib.hid (nameFrom_step k r hlt)
      have hl256 := lt_lt ⟨k, hlt⟩
      have hc := ch_lt ⟨k, hlt⟩
      simp only at hl256 hc
      generalize ch k = c at *
      generalize lt k = b at *
      by_cases hcr : c = r
      · have HF : Hid (esc r = [92, UInt8.ofNat b]) := by
          have h1 := HS.out; rw [if_pos hcr] at h1
          have h2 : nameOf r = some b := HK.out.symm.trans h1
          show esc r = _
          unfold esc; rw [h2]
        have hb : ((c : Int) == (r : Int)) = true := beq_iff_eq.2 (by omega)
        clear HS HK hcr
        go_wp2_with (at_builtin; refine wpList_push rfl (.tmp 15) (.tmp 18) rfl B v l [92, UInt8.ofNat b] (wr.alloc (.cells #[.int .i32 ↑c, .int .u8 ↑b] 64)) _ _ _ rfl _ rfl ?hg ?hC rfl (own_alloc hown _) ?hl ?hB ?_)
        case hg => rw [World.size_alloc]
        case hC => simp [Lib.byteCells, Nat.mod_eq_of_lt hl256]
        case hl => simp; omega
        case hB => rw [World.size_alloc]; omega
        intro v' w' ho' hk' hB'
        clear hown
        go_wp2
        go_ret
        rw [HF.out]
        exact ⟨_, rfl, ho', (hkp.alloc hBr _).trans hk'⟩
      · have hb : ((c : Int) == (r : Int)) = false := beq_eq_false_iff_ne.2 (by omega)
        have HN : Hid (nameFrom (k + 1) r = nameOf r) := by
          have := HS.out; rw [if_neg hcr] at this; exact this.symm.trans HK.out
        clear HS HK hcr
        go_wp2
        go_roundw
        case rel => exact ⟨k + 1, by omega, by go_num, HN, own_alloc hown _, hkp.alloc hBr _, by rw [World.size_alloc]; omega⟩
        case measure => simp [intOf]; omega
    · obtain rfl : k = 15 := by omega
      have hno : nameOf r = none := by rw [← HK.out]; rfl
      have HE : Hid (esc r = if Sc.mayB r = true then Sc.enc r else if r < 256 then [92, 120] ++ Sc.hexL r 2 else if r < 65536 then [92, 117] ++ Sc.hexL r 4 else [92, 85] ++ Sc.hexL r 8) := by
        show esc r = _
        unfold esc; rw [hno]
      clear HK hno
      by_cases hm : Sc.mayB r = true
      · have HF := Lib.hid (HE.out.trans (if_pos hm))
        clear HE
        go_wp2_with (first | (go_at_call 26; refine (may_any _ _).mono ?_; rintro e w' ⟨rfl, rfl⟩) | (go_at_call 39; refine (rune_any B v l r wr hr hown (by omega) hBr).mono ?_; rintro e w' ⟨v', rfl, ho', hk'⟩))
        go_ret
        rw [HF.out]
        exact ⟨_, rfl, ho', hkp.trans hk'⟩
      · have HE2 := Lib.hid (HE.out.trans (if_neg hm))
        clear HE
        have hmf : Sc.mayB r = false := Bool.eq_false_iff.2 hm
        clear hm
        by_cases h1 : r < 256
        · have HF := Lib.hid (HE2.out.trans (if_pos h1))
          clear HE2
          go_wp2_with (first | (go_at_call 26; refine (may_any _ _).mono ?_; rintro e w' ⟨rfl, rfl⟩) | (at_builtin; refine wpList_push rfl (.tmp 30) (.tmp 31) rfl B v l [92, 120] wr _ _ _ rfl _ rfl rfl rfl rfl hown (by simp; omega) hBr ?_; intro v' w' ho' hk' hB'))
          refine (hex_any B v' (l ++ [92, 120]) r 2 w' hr (by omega) ho' (by simp; omega) hB').mono ?_
          rintro e w2 ⟨v2, rfl, ho2, hk2⟩
          go_wp2
          go_ret
          rw [HF.out]
          refine ⟨_, rfl, ?_, hkp.trans (hk'.trans hk2)⟩
          rw [← List.append_assoc]
          exact ho2
        · have HE3 := Lib.hid (HE2.out.trans (if_neg h1))
          clear HE2
          by_cases h2 : r < 65536
          · have HF := Lib.hid (HE3.out.trans (if_pos h2))
            have b1 : decide ((r : Int) < 256) = false := decide_eq_false (by omega)
            have b2 : decide ((r : Int) < 65536) = true := decide_eq_true (by omega)
            have hr2 := Lib.hid hr
            clear HE3 h1 h2 hr
            go_wp2_with (first | (go_at_call 26; refine (may_any _ _).mono ?_; rintro e w' ⟨rfl, rfl⟩) | (at_builtin; refine wpList_push rfl (.tmp 38) (.tmp 39) rfl B v l [92, 117] wr _ _ _ rfl _ rfl rfl rfl rfl hown (by simp; omega) hBr ?_; intro v' w' ho' hk' hB'))
            refine (hex_any B v' (l ++ [92, 117]) r 4 w' hr2.out (by omega) ho' (by simp; omega) hB').mono ?_
            rintro e w2 ⟨v2, rfl, ho2, hk2⟩
            go_wp2
            go_ret
            rw [HF.out]
            refine ⟨_, rfl, ?_, hkp.trans (hk'.trans hk2)⟩
            rw [← List.append_assoc]
            exact ho2
          · have HF := Lib.hid (HE3.out.trans (if_neg h2))
            have b1 : decide ((r : Int) < 256) = false := decide_eq_false (by omega)
            have b2 : decide ((r : Int) < 65536) = false := decide_eq_false (by omega)
            have hr2 := Lib.hid hr
            clear HE3 h1 h2 hr
            go_wp2_with (first | (go_at_call 26; refine (may_any _ _).mono ?_; rintro e w' ⟨rfl, rfl⟩) | (at_builtin; refine wpList_push rfl (.tmp 43) (.tmp 44) rfl B v l [92, 85] wr _ _ _ rfl _ rfl rfl rfl rfl hown (by simp; omega) hBr ?_; intro v' w' ho' hk' hB'))
            refine (hex_any B v' (l ++ [92, 85]) r 8 w' hr2.out (by omega) ho' (by simp; omega) hB').mono ?_
            rintro e w2 ⟨v2, rfl, ho2, hk2⟩
            go_wp2
            go_ret
            rw [HF.out]
            refine ⟨_, rfl, ?_, hkp.trans (hk'.trans hk2)⟩
            rw [← List.append_assoc]
            exact ho2

/-- Quote, by its bytes -/
def quoteOf (l : List UInt8) : List UInt8 := if Lib.validD l = true then 34 :: ((Sc.rns l).flatMap esc ++ [34]) else []

theorem esc_len (r : Nat) : (esc r).length ≤ 10 := by
  unfold esc
  cases nameOf r with
  | some b => simp
  | none =>
    simp only
    repeat' split
    · have := Sc.enc_len r; omega
    all_goals simp [Sc.hexL_len]
theorem Env.size {w : World} (h : Env w) : 4 ≤ w.heap.size := by
  obtain ⟨m, hm⟩ := h.maxl
  exact lt_of_cell hm
theorem Env.kept {B : Nat} {w w' : World} (h : Env w) (hB : 4 ≤ B) (hk : Below B w w') : Env w' where
  tabs := by
    obtain ⟨h1, h2⟩ := h.tabs
    exact ⟨fun c hc => (hk.cell (p := ⟨0, c, none⟩) (by show 0 < B; omega)).trans (h1 c hc), fun i hi => ⟨(hk.cell (p := ⟨1, 2 * i, none⟩) (by show 1 < B; omega)).trans (h2 i hi).1, (hk.cell (p := ⟨1, 2 * i + 1, none⟩) (by show 1 < B; omega)).trans (h2 i hi).2⟩⟩
  named := by
    obtain ⟨t, fr, he⟩ := h.named
    exact ⟨t, fr, (hk.block 2 (by omega)).trans he⟩
  maxl := by
    obtain ⟨m, hm⟩ := h.maxl
    exact ⟨m, (hk.cell (p := ⟨3, 0, none⟩) (by show 3 < B; omega)).trans hm⟩

/-- 'string(b)' of bytes that the call owns -/
theorem own_string {w : World} {B : Nat} {v : Value} {l : List UInt8} (h : Own w B v l) : (convert 43 9 v).run Tryd.prog w = .ok (.string (str l)) w := by
  by_cases h0 : l.length = 0
  · have hl : l = [] := List.eq_nil_of_length_eq_zero h0
    subst hl
    rcases h.2 with ⟨rfl, _⟩ | ⟨g, cap, cur, rfl, hr⟩
    · rw [run_convert_bytes_string w 43 9 5 none 0 0 Tryd.underlying43 Tryd.underlying5 Tryd.underlying9]
      rfl
    · exact run_convert_bytes_back w 43 9 5 ⟨g, 0, none⟩ cap [] Tryd.underlying43 Tryd.underlying5 Tryd.underlying9 (fun j hj => absurd hj (by simp))
  · rcases h.2 with ⟨_, h00⟩ | ⟨g, cap, cur, rfl, hr⟩
    · exact absurd h00 h0
    · refine run_convert_bytes_back w 43 9 5 ⟨g, 0, none⟩ cap l Tryd.underlying43 Tryd.underlying5 Tryd.underlying9 fun j hj => ?_
      refine World.ownsRow.cells h (g := g) rfl j _ ?_
      simp [Lib.byteCells, hj]
theorem own_iterAt {w : World} {B : Nat} {v : Value} {l : List UInt8} (h : Own w B v l) {k : Nat} {s : ByteArray} {pos : Nat} (hk : w.heap[k]? = some (.stringIter s pos)) (p : Nat) : Own (w.iterAt k s p) B v l := by
  obtain ⟨h1, h2⟩ := h
  refine ⟨h1, ?_⟩
  rcases h2 with h2 | ⟨g, cap, cur, hv, hb, hh, hr⟩
  · exact .inl h2
  · refine .inr ⟨g, cap, cur, hv, hb, ?_, hr⟩
    rw [Lib.iterAt_other _ _ _ _ _ (fun e => by subst e; rw [hk] at hh; cases hh)]
    exact hh

set_option maxHeartbeats 1000000 in
set_option maxRecDepth 100000 in
theorem quote_any (s : ByteArray) (w : World) (hs : s.size ≤ 5000) (hE : Env w) :
    Calls Tryd.prog 13 #[.string s] w fun e w' => e = .returned (.string (str (quoteOf s.data.toList))) ∧ Below w.heap.size w w' := by
  have cV := valid_any s w (by omega) hE
  unfold quoteOf
  by_cases hv : Lib.validD s.data.toList = true
  · rw [if_pos hv]
    rw [hv] at cV
    clear hv
    obtain ⟨ANS, hANS⟩ : ∃ ANS, 34 :: (Sc.rns s.data.toList).flatMap esc = ANS := ⟨_, rfl⟩
    rw [← List.cons_append, hANS]
    have HA := Lib.hid hANS
    clear hANS
    go_enter Tryd.func13, Tryd.ntmps13
    go_wp2_with (go_at_call 32; refine cV.mono ?_; rintro e w1 ⟨rfl, hb⟩)
    go_loopw [3] (fun v wr => ∃ (pos : Nat) (a : List UInt8), wr.heap[w1.heap.size + 1]? = some (.stringIter s pos) ∧ Own wr w1.heap.size v a ∧ Below w1.heap.size w1 wr ∧ Hid (a ++ (Sc.rns (s.data.toList.drop pos)).flatMap esc = ANS) ∧ a.length ≤ 1 + 10 * pos ∧ pos ≤ s.size) (fun _ wr => s.size - wr.iterPos (w1.heap.size + 1))
    case atStart =>
      refine ⟨0, [34], ?_, ?_, ?_, HA, by simp, by omega⟩
      · have := World.iter_heap (w1.alloc (Obj.cells #[Value.int IntKind.u8 34] 5)) s 0
        simpa using this
      · exact World.ownsRow.alloc (World.ownsRow_lit (base := w1.heap.size) (e := 5) (size := 1) w1 #[Value.int IntKind.u8 34] 1 (Nat.le_refl _) (by decide) rfl) _
      · exact ((Below.refl _ w1).alloc (Nat.le_refl _) _).alloc (by rw [World.size_alloc]; omega) _
    case round =>
      obtain ⟨pos, a, hit, hown, hbw, HK, hal, hps⟩ := hrel
      have hE1 : Env w1 := hE.below hb
      clear HA cV hE
      have hsz : w1.heap.size + 1 < wr.heap.size := (Array.getElem?_eq_some_iff.1 hit).1
      by_cases hp : pos < s.size
      · have hnx : ∀ ty, (Instr.next (.pointer (some ⟨w1.heap.size + 1, 0, none⟩)) true ty).run Tryd.prog wr = _ := fun ty => Lib.run_next_any_at wr (w1.heap.size + 1) s pos ty hit hp
        have hwd := dec_pos s pos
        have hit2 := Lib.iterAt_heap wr (w1.heap.size + 1) s pos (pos + (Utf8.decode s pos).2) hit
        have hbw2 := Lib.below_iterAt hbw (k := w1.heap.size + 1) (by omega) s (pos + (Utf8.decode s pos).2)
        have hown2 := own_iterAt hown hit (pos + (Utf8.decode s pos).2)
        have hE2 : Env (wr.iterAt (w1.heap.size + 1) s (pos + (Utf8.decode s pos).2)) := hE1.kept hE1.size hbw2
        have hr : (Utf8.decode s pos).1 ≤ 1114111 := by
          have := Lib.decodeL_rune (s.data.toList.drop pos); rw [Lib.decodeL_drop] at this; exact this
        have hBz : w1.heap.size ≤ (wr.iterAt (w1.heap.size + 1) s (pos + (Utf8.decode s pos).2)).heap.size := by rw [Lib.iterAt_size]; omega
        have cQ := Lib.hid (quoted_any w1.heap.size _ a (Utf8.decode s pos).1 _ hE2 hr hown2 (by omega) hBz)
        have HN : Hid ((a ++ esc (Utf8.decode s pos).1) ++ (Sc.rns (s.data.toList.drop (pos + (Utf8.decode s pos).2))).flatMap esc = ANS) := by
          have h := HK.out
          rw [rns_drop s pos hp, List.flatMap_cons, ← List.append_assoc] at h
          exact h
        have hpl : pos + (Utf8.decode s pos).2 ≤ s.size := by
          have := Lib.decodeL_le (s.data.toList.drop pos) (by intro e; have := congrArg List.length e; rw [List.length_drop, ← Lib.size_eq] at this; simp at this; omega)
          rw [Lib.decodeL_drop, List.length_drop, ← Lib.size_eq] at this
          omega
        have hel := esc_len (Utf8.decode s pos).1
        have HI := Lib.hid hit2
        clear hit2 hown hown2 hE2 hE1 HK
        go_wp2_with (go_at_call 33; refine cQ.out.mono ?_; rintro e w2 ⟨v2, rfl, ho2, hk2⟩)
        go_roundw
        case rel => exact ⟨_, _, hk2.iter HI.out, ho2, hbw2.trans hk2.1, HN, by simp; omega, hpl⟩
        case measure =>
          simp only [World.iterPos, hk2.iter HI.out, hit]
          omega
      · have hnx : ∀ ty, (Instr.next (.pointer (some ⟨w1.heap.size + 1, 0, none⟩)) true ty).run Tryd.prog wr = _ := fun ty => Lib.run_next_end_at wr (w1.heap.size + 1) s pos ty hit hp
        have hA : a = ANS := by
          have h := HK.out
          rw [Sc.drop_nil s pos (by omega)] at h
          simpa [Sc.rns_nil] using h
        subst hA
        clear HK hE1
        go_wp2_with (at_builtin; refine wpList_push rfl (.tmp 18) (.tmp 19) rfl w1.heap.size _ a [34] wr _ _ _ rfl _ rfl rfl rfl rfl hown (by simp; omega) (by omega) ?_; intro v' w' ho' hk' hB'; have hcv := own_string ho')
        go_ret
        exact ⟨rfl, hb.trans ((hbw.trans hk'.1).mono hb.size)⟩
  · rw [if_neg hv]
    rw [Bool.eq_false_iff.2 hv] at cV
    clear hv
    go_enter Tryd.func13, Tryd.ntmps13
    go_wp2_with (go_at_call 32; refine cV.mono ?_; rintro e w' ⟨rfl, hb⟩)
    go_ret
    exact ⟨rfl, hb⟩
end Go.Proofs.YtlfmaeodkghbbaaDoor
