/-
  The document's tags: plain mathematics, and walks of its own, Core, Right, Word, Read.
-/
import Derived.Test.YthkedlcmpibkjaaGreatDoorTa
import Derived.Deep.QuietTactic
import Derived.BigQuiet
namespace Go.Proofs.YthkedlcmpibkjaaGreatDoor
namespace Tg
theorem forall_u8 {p : UInt8 → Prop} (h : ∀ n : Fin 256, p (UInt8.ofNat n.val)) (b : UInt8) : p b := by
  have := h ⟨b.toNat, b.toNat_lt⟩
  simpa using this
def digs : List UInt8 := [48, 49, 50, 51, 52, 53, 54, 55, 56, 57]
def only (l of : List UInt8) : Bool := l.all (of.contains ·) && !l.isEmpty
def names : List UInt8 := digs ++ [97, 98, 99, 100, 101, 102, 103, 104, 105, 106, 107, 108, 109, 110, 111, 112, 113, 114, 115, 116, 117, 118, 119, 120, 121, 122, 65, 66, 67, 68, 69, 70, 71, 72, 73, 74, 75, 76, 77, 78, 79, 80, 81, 82, 83, 84, 85, 86, 87, 88, 89, 90, 45]
def ownR (l : List UInt8) : Bool := Lib.hasPrefix l [33] && decide (l.length ≤ 41) && only (l.drop 1) names
def rightR (l : List UInt8) : Bool := core l || ownR l
def wordR (l : List UInt8) : List UInt8 := if core l = true then [33, 33] ++ l else if ownR l = true then l else []
def readR (w : List UInt8) : Option (List UInt8) :=
  if (if Lib.hasPrefix w [33, 33] = true then w.drop 2 else w) = [] ∨ wordR (if Lib.hasPrefix w [33, 33] = true then w.drop 2 else w) ≠ w then none else some (if Lib.hasPrefix w [33, 33] = true then w.drop 2 else w)
theorem pre_one {l : List UInt8} {b : UInt8} (h : Lib.hasPrefix l [b] = true) : ∃ t, l = b :: t := by
  unfold Lib.hasPrefix at h
  rw [List.isPrefixOf_iff_prefix] at h
  obtain ⟨t, ht⟩ := h
  exact ⟨t, ht.symm⟩
theorem pre_two {l : List UInt8} {b c : UInt8} (h : Lib.hasPrefix l [b, c] = true) : ∃ t, l = b :: c :: t := by
  unfold Lib.hasPrefix at h
  rw [List.isPrefixOf_iff_prefix] at h
  obtain ⟨t, ht⟩ := h
  exact ⟨t, ht.symm⟩
theorem names_in (b : UInt8) : names.contains b = inName b := by revert b; exact forall_u8 (by decide +kernel)
theorem own_eq (l : List UInt8) : isOwn l = ownR l := by
  unfold isOwn ownR
  cases h : Lib.hasPrefix l [33]
  · rfl
  · obtain ⟨t, rfl⟩ := pre_one h
    unfold isName only
    rw [show (fun x => names.contains x) = inName by funext b; exact names_in b]
    simp only [List.drop_one, List.tail_cons, List.length_cons, Bool.true_and]
    rw [show decide (t.length + 1 ≤ 41) = decide (t.length ≤ 40) by congr 1; rw [eq_iff_iff]; omega]
    cases t.isEmpty <;> cases decide (t.length ≤ 40) <;> cases t.all inName <;> rfl
theorem right_eq (l : List UInt8) : right l = rightR l := by unfold right rightR; rw [own_eq]
theorem word_eq (l : List UInt8) : word l = wordR l := by
  unfold word wordR right
  rw [own_eq]
  by_cases h : core l = true
  · rw [if_pos h, if_pos h]
  · rw [if_neg h, if_neg h]
    have h' : core l = false := by simpa using h
    rw [h', Bool.false_or]
theorem right_ne {l : List UInt8} (h : right l = true) : l ≠ [] := by
  rintro rfl
  revert h; decide
theorem word_none {l : List UInt8} (h : right l = false) : word l = [] := by
  unfold word
  have h' : core l = false := by unfold right at h; cases hc : core l <;> simp_all
  rw [h', h]; rfl
theorem trim_eq (w : List UInt8) : (if Lib.hasPrefix w [33, 33] = true then w.drop 2 else w) = Lib.trimPrefix w [33, 33] := rfl
theorem read_eq (w : List UInt8) : read w = readR w := by
  unfold read readR
  rw [trim_eq, ← word_eq]
  cases hr : right (Lib.trimPrefix w [33, 33])
  · rw [if_neg (by simp), word_none hr]
    by_cases h0 : Lib.trimPrefix w [33, 33] = []
    · rw [if_pos (Or.inl h0)]
    · rw [if_pos (Or.inr ?_)]
      rintro rfl
      exact h0 rfl
  · have h0 := right_ne hr
    by_cases h1 : word (Lib.trimPrefix w [33, 33]) = w
    · rw [if_pos ⟨rfl, h1⟩, if_neg (by simp [h0, h1])]
    · rw [if_neg (by simp [h1]), if_pos (Or.inr h1)]
end Tg
namespace Tag
open Go.RowKit
theorem alloc_below (w : World) (o : Obj) : Below w.heap.size w (w.alloc o) := (Below.refl _ w).alloc (Nat.le_refl _) o
set_option maxHeartbeats 400000 in
theorem begins_any (s p : ByteArray) (w : World) :
    Calls Tryz.prog 46 #[.string s, .string p] w fun e w' => e = .returned (.bool (Lib.hasPrefix s.data.toList p.data.toList)) ∧ w = w' := by
  by_cases h : p.size ≤ s.size
  · have HP := Lib.hid (pre_take s p)
    have b0 : decide ((p.size : Int) ≤ (s.size : Int)) = true := decide_eq_true (by omega)
    go_enter Tryz.func46, Tryz.ntmps46
    go_wp2
    go_ret
    exact ⟨ret_bool HP.out.symm, rfl⟩
  · have b0 : decide ((p.size : Int) ≤ (s.size : Int)) = false := decide_eq_false (by omega)
    go_enter Tryz.func46, Tryz.ntmps46
    go_wp2
    go_ret
    exact ⟨ret_bool (pre_len s p (by omega)).symm, rfl⟩
set_option maxHeartbeats 1000000 in
set_option maxRecDepth 100000 in
theorem one_any (s : ByteArray) (b : Nat) (ws : List ByteArray) (w : World) (hn : ws.length ≤ 100) (hcell : ∀ j x, ws[j]? = some x → w.cell? ⟨b, j, none⟩ = some (.string x)) :
    Calls Tryz.prog 94 #[.string s, .slice (some ⟨b, 0, none⟩) ws.length ws.length] w fun e w' => e = .returned (.bool (ws.any fun x => x.toList == s.toList)) ∧ w = w' := by
  obtain ⟨ANS, hANS⟩ : ∃ ANS, (ws.any fun x => x.toList == s.toList) = ANS := ⟨_, rfl⟩
  rw [hANS]
  have HA : Hid (((ws.drop 0).any fun x => x.toList == s.toList) = ANS) := hANS
  have HC := Lib.hid hcell
  clear hANS hcell
  go_enter Tryz.func94, Tryz.ntmps94
  go_wp2
  go_loop [5] (fun i => ∃ k : Nat, k ≤ ws.length ∧ i = .int .i64 k ∧ Hid (((ws.drop k).any fun x => x.toList == s.toList) = ANS)) (fun i => ws.length - (intOf i).toNat)
  case atStart => exact ⟨0, by omega, rfl, HA⟩
  case round =>
    obtain ⟨k, hk, rfl, HK⟩ := hrel
    clear HA
    by_cases hlt : k < ws.length
    · have hc := HC.out k ws[k] (List.getElem?_eq_getElem hlt)
      have HS : Hid ((ws[k].toList == s.toList || (ws.drop (k + 1)).any fun x => x.toList == s.toList) = ANS) := by
        have h := HK.out; rw [List.drop_eq_getElem_cons hlt, List.any_cons] at h; exact h
      clear HK
      generalize ws[k] = x at *
      cases hx : (x.toList == s.toList)
      · have HN : Hid (((ws.drop (k + 1)).any fun x => x.toList == s.toList) = ANS) := by have h := HS.out; rw [hx, Bool.false_or] at h; exact h
        clear HS
        go_wp2
        go_round
        case rel => exact ⟨k + 1, by omega, by go_num, HN⟩
        case measure => simp [intOf]; omega
      · have HF : Hid (true = ANS) := by have h := HS.out; rw [hx, Bool.true_or] at h; exact h
        clear HS
        go_wp2
        go_ret
        exact ⟨ret_bool HF.out, rfl⟩
    · have HF : Hid (false = ANS) := by have h := HK.out; rw [List.drop_eq_nil_of_le (by omega)] at h; exact h
      clear HK
      go_wp2
      go_ret
      exact ⟨ret_bool HF.out, rfl⟩
/-- over a row that has just been laid -/
theorem one_new (s : ByteArray) (ws : List (List UInt8)) (w : World) (hn : ws.length ≤ 100) :
    Calls Tryz.prog 94 #[.string s, .slice (some ⟨w.heap.size, 0, none⟩) (ws.map str).length (ws.map str).length] (w.alloc (.cells ((ws.map str).map fun x => Value.string x).toArray 9)) fun e w' =>
      e = .returned (.bool (ws.contains s.data.toList)) ∧ (w.alloc (.cells ((ws.map str).map fun x => Value.string x).toArray 9)) = w' := by
  have hcell : ∀ j x, (ws.map str)[j]? = some x → (w.alloc (.cells ((ws.map str).map fun x => Value.string x).toArray 9)).cell? ⟨w.heap.size, j, none⟩ = some (.string x) := by
    intro j x hj
    simp only [World.cell?, World.alloc]
    simp
    simpa using hj
  have c := one_any s w.heap.size (ws.map str) (w.alloc (.cells ((ws.map str).map fun x => Value.string x).toArray 9)) (by simpa using hn) hcell
  have e : ((ws.map str).any fun x => x.toList == s.toList) = ws.contains s.data.toList := by
    rw [List.any_map, Bool.eq_iff_iff, List.any_eq_true, List.contains_iff_mem]
    constructor
    · rintro ⟨x, hx, he⟩
      have he' : (str x).toList = s.toList := beq_iff_eq.1 he
      rw [str_toList, Lib.toList_data] at he'
      rw [← he']; exact hx
    · intro h
      refine ⟨_, h, ?_⟩
      show ((str s.data.toList).toList == s.toList) = true
      rw [str_toList, Lib.toList_data]; simp
  rw [e] at c
  exact c
theorem only_at (s : ByteArray) (of : List UInt8) (k : Nat) (h : k < s.size) : (s.data.toList.drop k).all (of.contains ·) = (of.contains s[k] && (s.data.toList.drop (k + 1)).all (of.contains ·)) := by
  rw [drop_cons s k h, List.all_cons]
theorem has_at (o : ByteArray) (y : UInt8) (q : Nat) (h : q < o.size) : (o.data.toList.drop q).contains y = (o[q] == y || (o.data.toList.drop (q + 1)).contains y) := by
  rw [drop_cons o q h, List.contains_cons, Bool.beq_comm]
set_option maxHeartbeats 2000000 in
set_option maxRecDepth 100000 in
theorem onlyR_any (s o : ByteArray) (w : World) (hs : s.size ≤ 1000000) (ho : o.size ≤ 1000000) :
    Calls Tryz.prog 95 #[.string s, .string o] w fun e w' => e = .returned (.bool (Tg.only s.data.toList o.data.toList)) ∧ Below w.heap.size w w' := by
  unfold Tg.only
  obtain ⟨ALL, hALL⟩ : ∃ ALL, s.data.toList.all (o.data.toList.contains ·) = ALL := ⟨_, rfl⟩
  obtain ⟨EMP, hEMP⟩ : ∃ EMP, s.data.toList.isEmpty = EMP := ⟨_, rfl⟩
  rw [hALL, hEMP]
  have HA : Hid ((s.data.toList.drop 0).all (o.data.toList.contains ·) = ALL) := hALL
  have hE : s.toList.isEmpty = EMP := by rw [Lib.toList_data]; exact hEMP
  have HE := Lib.hid hE
  clear hALL hEMP hE
  go_enter Tryz.func95, Tryz.ntmps95
  go_wp2
  go_loopw [5] (fun i wr => ∃ p : Nat, p ≤ s.size ∧ i = .int .i64 p ∧ Below w.heap.size w wr ∧ Hid ((s.data.toList.drop p).all (o.data.toList.contains ·) = ALL)) (fun i _ => s.size - (intOf i).toNat)
  case atStart => exact ⟨0, by omega, rfl, Below.refl _ _, HA⟩
  case round =>
    obtain ⟨p, hp, rfl, hbw, HK⟩ := hrel
    clear HA
    by_cases hlt : p < s.size
    · have HS : Hid ((o.data.toList.contains s[p] && (s.data.toList.drop (p + 1)).all (o.data.toList.contains ·)) = ALL) := by
        have h := HK.out; rw [only_at s _ p hlt] at h; exact h
      clear HK
      obtain ⟨C, hC⟩ : ∃ C, o.data.toList.contains s[p] = C := ⟨_, rfl⟩
      rw [hC] at HS
      have HCI : Hid ((false || (o.data.toList.drop 0).contains s[p]) = C) := by show _ = _; rw [Bool.false_or]; exact hC
      clear hC
      go_wp2
      go_loopw [6, 7] (fun v i wr => ∃ (q : Nat) (b : Bool), q ≤ o.size ∧ v = .bool b ∧ i = .int .i64 q ∧ Below w.heap.size w wr ∧ Hid ((b || (o.data.toList.drop q).contains s[p]) = C)) (fun _ i _ => o.size - (intOf i).toNat)
      case atStart => exact ⟨0, false, by omega, rfl, rfl, hbw, HCI⟩
      case round =>
        obtain ⟨q, b, hq, rfl, rfl, hbr, HQ⟩ := hrel
        clear HCI
        by_cases hql : q < o.size
        · cases b
          · have HT : Hid ((o[q] == s[p] || (o.data.toList.drop (q + 1)).contains s[p]) = C) := by
              have h := HQ.out; rw [Bool.false_or, has_at o s[p] q hql] at h; exact h
            clear HQ
            by_cases hc : o[q] = s[p]
            · have b1 : ((o[q].toNat : Int) == (s[p].toNat : Int)) = true := by rw [hc]; simp
              have HN : Hid ((true || (o.data.toList.drop (q + 1)).contains s[p]) = C) := by
                have h := HT.out; rw [hc, beq_self_eq_true] at h; exact h
              clear HT hc
              go_wp2
              go_quiet (fail)
              go_wp2
              go_roundw
              case rel => exact ⟨q + 1, true, by omega, rfl, by go_num, below_drewN hbr _, HN⟩
              case measure => simp [intOf]; omega
            · have b1 : ((o[q].toNat : Int) == (s[p].toNat : Int)) = false := beq_eq_false_iff_ne.2 (fun e => hc (UInt8.toNat_inj.1 (by omega)))
              have HN : Hid ((false || (o.data.toList.drop (q + 1)).contains s[p]) = C) := by
                have h := HT.out; rw [beq_eq_false_iff_ne.2 hc] at h; exact h
              clear HT hc
              go_wp2
              go_quiet (fail)
              go_wp2
              go_roundw
              case rel => exact ⟨q + 1, false, by omega, rfl, by go_num, below_drewN hbr _, HN⟩
              case measure => simp [intOf]; omega
          · have HN : Hid ((true || (o.data.toList.drop (q + 1)).contains s[p]) = C) := by
              have h := HQ.out; rw [Bool.true_or] at h; show _ = _; rw [Bool.true_or]; exact h
            clear HQ
            go_wp2
            go_quiet (fail)
            go_wp2
            go_roundw
            case rel => exact ⟨q + 1, true, by omega, rfl, by go_num, below_drewN hbr _, HN⟩
            case measure => simp [intOf]; omega
        · have HB : Hid (b = C) := by
            have h := HQ.out; rw [drop_nil o q (by omega)] at h; show _ = _; rw [← h]; simp
          clear HQ
          cases b
          · have HF : Hid (ALL = false) := by have h := HS.out; rw [← HB.out, Bool.false_and] at h; exact h.symm
            clear HS HB
            go_wp2
            go_ret
            exact ⟨ret_bool (by rw [HF.out]; rfl), hbr⟩
          · have HN : Hid ((s.data.toList.drop (p + 1)).all (o.data.toList.contains ·) = ALL) := by have h := HS.out; rw [← HB.out, Bool.true_and] at h; exact h
            clear HS HB
            go_wp2
            go_roundw
            case rel => exact ⟨p + 1, by omega, by go_num, hbr, HN⟩
            case measure => simp [intOf]; omega
    · have HF : Hid (ALL = true) := by have h := HK.out; rw [drop_nil s p (by omega)] at h; exact h.symm
      clear HK
      by_cases h0 : s.size = 0
      · obtain rfl := ba_nil s h0
        have hEM : EMP = true := by rw [← HE.out, Lib.toList_data]; rfl
        subst hEM
        go_wp2
        go_ret
        exact ⟨ret_bool (by rw [HF.out]; rfl), hbw⟩
      · have h1 : 0 < s.size := by omega
        have hemp := ba_isEmpty s h1
        have hnil := ba_notnil s h1
        have hEM : EMP = false := by rw [← HE.out]; exact hemp
        subst hEM
        go_wp2
        go_ret
        exact ⟨ret_bool (by rw [HF.out]; rfl), hbw⟩
def coresO : Obj := .cells #[.string ⟨#[110, 117, 108, 108]⟩, .string ⟨#[98, 111, 111, 108]⟩, .string ⟨#[105, 110, 116]⟩, .string ⟨#[102, 108, 111, 97, 116]⟩, .string ⟨#[115, 116, 114]⟩, .string ⟨#[115, 101, 113]⟩, .string ⟨#[109, 97, 112]⟩] 9
theorem one_cores (s : ByteArray) (w : World) (b : Nat) (hb : b = w.heap.size) : Calls Tryz.prog 94 #[.string s, .slice (some ⟨b, 0, none⟩) 7 7] (w.alloc coresO) fun e w' => e = .returned (.bool (Tg.cores.contains s.data.toList)) ∧ w.alloc coresO = w' :=
  hb ▸ one_new s Tg.cores w (by decide)
theorem onlyN (s : ByteArray) (w : World) (hs : s.size ≤ 1000000) :
    Calls Tryz.prog 95 #[.string s, .string ⟨#[48, 49, 50, 51, 52, 53, 54, 55, 56, 57, 97, 98, 99, 100, 101, 102, 103, 104, 105, 106, 107, 108, 109, 110, 111, 112, 113, 114, 115, 116, 117, 118, 119, 120, 121, 122, 65, 66, 67, 68, 69, 70, 71, 72, 73, 74, 75, 76, 77, 78, 79, 80, 81, 82, 83, 84, 85, 86, 87, 88, 89, 90, 45]⟩] w fun e w' => e = .returned (.bool (Tg.only s.data.toList Tg.names)) ∧ Below w.heap.size w w' :=
  onlyR_any s ⟨#[48, 49, 50, 51, 52, 53, 54, 55, 56, 57, 97, 98, 99, 100, 101, 102, 103, 104, 105, 106, 107, 108, 109, 110, 111, 112, 113, 114, 115, 116, 117, 118, 119, 120, 121, 122, 65, 66, 67, 68, 69, 70, 71, 72, 73, 74, 75, 76, 77, 78, 79, 80, 81, 82, 83, 84, 85, 86, 87, 88, 89, 90, 45]⟩ w hs (by decide)
set_option maxHeartbeats 2000000 in
set_option maxRecDepth 100000 in
theorem ownR_any (s : ByteArray) (w : World) (hs : s.size ≤ 1000000) :
    Calls Tryz.prog 77 #[.string s] w fun e w' => e = .returned (.bool (Tg.ownR s.data.toList)) ∧ Below w.heap.size w w' := by
  unfold Tg.ownR
  have c1 := begins_any s ⟨#[33]⟩ w
  rw [show (⟨#[33]⟩ : ByteArray).data.toList = [33] from rfl] at c1
  rw [← Lib.size_eq]
  cases h1 : Lib.hasPrefix s.data.toList [33]
  · rw [h1] at c1
    clear h1
    rw [Bool.false_and, Bool.false_and]
    go_enter Tryz.func77, Tryz.ntmps77
    go_wp2_with fail
    refine c1.mono ?_
    rintro e w1 ⟨rfl, rfl⟩
    go_wp2
    go_ret
    exact ⟨rfl, Below.refl _ _⟩
  · have hl : 1 ≤ s.size := pre_le s ⟨#[33]⟩ h1
    rw [h1] at c1
    clear h1
    rw [Bool.true_and]
    by_cases h2 : s.size ≤ 41
    · have b1 : decide ((s.size : Int) ≤ 41) = true := decide_eq_true (by omega)
      rw [decide_eq_true h2, Bool.true_and]
      obtain ⟨T, hT⟩ : ∃ T, T = s.extract 1 s.size := ⟨_, rfl⟩
      have hTd : s.data.toList.drop 1 = T.data.toList := by rw [hT, ext_drop]
      have hTs : T.size ≤ 1000000 := by have := ext_size_le s 1; rw [← hT] at this; omega
      rw [hTd]
      have HT := Lib.hid hT
      clear hT hTd
      have CT := Lib.hid (fun w1 => onlyN T w1 hTs)
      go_enter Tryz.func77, Tryz.ntmps77
      go_wp2_with fail
      refine c1.mono ?_
      rintro e w1 ⟨rfl, rfl⟩
      go_wp2_with fail
      rw [← HT.out]
      refine (CT.out _).mono ?_
      rintro e w1 ⟨rfl, hb⟩
      go_wp2
      go_ret
      exact ⟨rfl, hb⟩
    · have b1 : decide ((s.size : Int) ≤ 41) = false := decide_eq_false (by omega)
      rw [decide_eq_false h2, Bool.false_and]
      go_enter Tryz.func77, Tryz.ntmps77
      go_wp2_with fail
      refine c1.mono ?_
      rintro e w1 ⟨rfl, rfl⟩
      go_wp2
      go_ret
      exact ⟨rfl, Below.refl _ _⟩
set_option maxHeartbeats 1000000 in
theorem coreR_any (s : ByteArray) (w : World) :
    Calls Tryz.prog 76 #[.string s] w fun e w' => e = .returned (.bool (Tg.core s.data.toList)) ∧ Below w.heap.size w w' := by
  unfold Tg.core
  have C1 := Lib.hid (fun w1 b hb => one_cores s w1 b hb)
  unfold coresO at C1
  obtain ⟨c, hc⟩ : ∃ c, Tg.cores.contains s.data.toList = c := ⟨_, rfl⟩
  rw [hc] at C1 ⊢
  clear hc
  go_enter Tryz.func76, Tryz.ntmps76
  go_wp2_with fail
  refine (C1.out _ _ (by simp)).mono ?_
  rintro e w1 ⟨rfl, rfl⟩
  go_wp2
  go_ret
  exact ⟨rfl, alloc_below _ _⟩
set_option maxHeartbeats 1000000 in
theorem rightR_any (s : ByteArray) (w : World) (hs : s.size ≤ 1000000) :
    Calls Tryz.prog 79 #[.string s] w fun e w' => e = .returned (.bool (Tg.rightR s.data.toList)) ∧ Below w.heap.size w w' := by
  unfold Tg.rightR
  have c1 := coreR_any s w
  cases h1 : Tg.core s.data.toList
  · rw [h1] at c1
    clear h1
    have C2 := Lib.hid (fun w1 => ownR_any s w1 hs)
    rw [Bool.false_or]
    go_enter Tryz.func79, Tryz.ntmps79
    go_wp2_with fail
    refine c1.mono ?_
    rintro e w1 ⟨rfl, hb⟩
    go_wp2_with fail
    refine (C2.out _).mono ?_
    rintro e w2 ⟨rfl, hb2⟩
    go_wp2
    go_ret
    exact ⟨rfl, Below.then hb hb2⟩
  · rw [h1] at c1
    clear h1
    rw [Bool.true_or]
    go_enter Tryz.func79, Tryz.ntmps79
    go_wp2_with fail
    refine c1.mono ?_
    rintro e w1 ⟨rfl, hb⟩
    go_wp2
    go_ret
    exact ⟨rfl, hb⟩
set_option maxHeartbeats 1000000 in
theorem wordR_any (s : ByteArray) (w : World) (hs : s.size ≤ 1000000) :
    Calls Tryz.prog 47 #[.string s] w fun e w' => e = .returned (.string (str (Tg.wordR s.data.toList))) ∧ Below w.heap.size w w' := by
  unfold Tg.wordR
  have c1 := coreR_any s w
  cases h1 : Tg.core s.data.toList
  · rw [h1] at c1
    clear h1
    have C2 := Lib.hid (fun w1 => ownR_any s w1 hs)
    rw [if_neg (by simp)]
    cases h2 : Tg.ownR s.data.toList
    · rw [h2] at C2
      clear h2
      rw [if_neg (by simp)]
      go_enter Tryz.func47, Tryz.ntmps47
      go_wp2_with fail
      refine c1.mono ?_
      rintro e w1 ⟨rfl, hb⟩
      go_wp2_with fail
      refine (C2.out _).mono ?_
      rintro e w2 ⟨rfl, hb2⟩
      go_wp2
      go_ret
      exact ⟨rfl, Below.then hb hb2⟩
    · rw [h2] at C2
      clear h2
      rw [if_pos rfl, str_eq]
      go_enter Tryz.func47, Tryz.ntmps47
      go_wp2_with fail
      refine c1.mono ?_
      rintro e w1 ⟨rfl, hb⟩
      go_wp2_with fail
      refine (C2.out _).mono ?_
      rintro e w2 ⟨rfl, hb2⟩
      go_wp2
      go_ret
      exact ⟨rfl, Below.then hb hb2⟩
  · rw [h1] at c1
    clear h1
    rw [if_pos rfl]
    go_enter Tryz.func47, Tryz.ntmps47
    go_wp2_with fail
    refine c1.mono ?_
    rintro e w1 ⟨rfl, hb⟩
    go_wp2
    go_ret
    exact ⟨ret_str (to_str (by rw [app_data]; rfl)), hb⟩
set_option maxHeartbeats 2000000 in
theorem readR_any (s : ByteArray) (w : World) (hs : s.size ≤ 1000000) :
    Calls Tryz.prog 27 #[.string s] w fun e w' => e = readE (Tg.readR s.data.toList) ∧ Below w.heap.size w w' := by
  unfold Tg.readR
  have c1 := begins_any s ⟨#[33, 33]⟩ w
  rw [show (⟨#[33, 33]⟩ : ByteArray).data.toList = [33, 33] from rfl] at c1
  -- which text is held against its word
  obtain ⟨T, hTd, hTc⟩ : ∃ T : ByteArray, (if Lib.hasPrefix s.data.toList [33, 33] = true then s.data.toList.drop 2 else s.data.toList) = T.data.toList ∧ ((Lib.hasPrefix s.data.toList [33, 33] = true ∧ T = s.extract 2 s.size) ∨ (Lib.hasPrefix s.data.toList [33, 33] = false ∧ T = s)) := by
    cases h : Lib.hasPrefix s.data.toList [33, 33]
    · exact ⟨s, by simp, Or.inr ⟨rfl, rfl⟩⟩
    · exact ⟨s.extract 2 s.size, by rw [ext_drop]; simp, Or.inl ⟨rfl, rfl⟩⟩
  rw [hTd]
  have hTs : T.size ≤ 1000000 := by
    rcases hTc with ⟨_, rfl⟩ | ⟨_, rfl⟩
    · have := ext_size_le s 2; omega
    · exact hs
  have C2 := Lib.hid (fun w1 => wordR_any T w1 hTs)
  obtain ⟨Wd, hWd⟩ : ∃ Wd, Wd = str (Tg.wordR T.data.toList) := ⟨_, rfl⟩
  have hWl : Tg.wordR T.data.toList = Wd.data.toList := by rw [hWd]; rfl
  rw [← hWd] at C2
  rw [hWl]
  clear hWd hWl hTd
  -- how it ends
  by_cases h0 : T.size = 0
  · have e0 : T.data.toList = [] := by rw [ba_nil T h0]
    rw [if_pos (Or.inl e0)]
    unfold readE
    simp only [Option.getD_none, Option.isSome_none, if_false, Bool.false_eq_true]
    clear e0 C2
    rcases hTc with ⟨h1, hT⟩ | ⟨h1, rfl⟩
    · have hl : 2 ≤ s.size := pre_le s ⟨#[33, 33]⟩ h1
      rw [h1] at c1
      have hz : s.extract 2 s.size = ⟨#[]⟩ := by rw [← hT]; exact ba_nil T h0
      clear h1 hT h0
      go_enter Tryz.func27, Tryz.ntmps27
      go_wp2_with fail
      refine c1.mono ?_
      rintro e w1 ⟨rfl, rfl⟩
      go_wp2
      go_ret2
      exact ⟨rfl, Below.refl _ _⟩
    · obtain rfl := ba_nil T h0
      rw [h1] at c1
      clear h1 h0
      go_enter Tryz.func27, Tryz.ntmps27
      go_wp2_with fail
      refine c1.mono ?_
      rintro e w1 ⟨rfl, rfl⟩
      go_wp2
      go_ret2
      exact ⟨rfl, Below.refl _ _⟩
  · have hp0 : 0 < T.size := by omega
    have hemp := ba_isEmpty T hp0
    have hnil := ba_notnil T hp0
    have e0 : ¬ T.data.toList = [] := by rw [← Lib.toList_data]; exact hnil
    by_cases he : Wd = s
    · subst he
      rw [if_neg (by simp [e0])]
      unfold readE
      simp only [Option.getD_some, Option.isSome_some, if_true, str_eq]
      clear e0 h0
      rcases hTc with ⟨h1, hT⟩ | ⟨h1, rfl⟩
      · have hl : 2 ≤ Wd.size := pre_le Wd ⟨#[33, 33]⟩ h1
        rw [h1] at c1
        have HT := Lib.hid hT
        rw [hT] at hemp hnil
        clear h1 hT
        go_enter Tryz.func27, Tryz.ntmps27
        go_wp2_with fail
        refine c1.mono ?_
        rintro e w1 ⟨rfl, rfl⟩
        go_wp2_with fail
        rw [← HT.out]
        refine (C2.out _).mono ?_
        rintro e w1 ⟨rfl, hb⟩
        go_wp2
        go_ret2
        exact ⟨rfl, hb⟩
      · rw [h1] at c1
        clear h1
        go_enter Tryz.func27, Tryz.ntmps27
        go_wp2_with fail
        refine c1.mono ?_
        rintro e w1 ⟨rfl, rfl⟩
        go_wp2_with fail
        refine (C2.out _).mono ?_
        rintro e w1 ⟨rfl, hb⟩
        go_wp2
        go_ret2
        exact ⟨rfl, hb⟩
    · have he' : Wd.data.toList ≠ s.data.toList := fun x => he (str_inj x)
      have b1 : (Wd.toList == s.toList) = false := by rw [Lib.toList_data, Lib.toList_data]; simpa using he'
      have b2 : (Wd.toList != s.toList) = true := by rw [Lib.toList_data, Lib.toList_data]; simpa using he'
      rw [if_pos (Or.inr he')]
      unfold readE
      simp only [Option.getD_none, Option.isSome_none, if_false, Bool.false_eq_true]
      clear he he' e0 h0
      rcases hTc with ⟨h1, hT⟩ | ⟨h1, rfl⟩
      · have hl : 2 ≤ s.size := pre_le s ⟨#[33, 33]⟩ h1
        rw [h1] at c1
        have HT := Lib.hid hT
        rw [hT] at hemp hnil
        clear h1 hT
        go_enter Tryz.func27, Tryz.ntmps27
        go_wp2_with fail
        refine c1.mono ?_
        rintro e w1 ⟨rfl, rfl⟩
        go_wp2_with fail
        rw [← HT.out]
        refine (C2.out _).mono ?_
        rintro e w1 ⟨rfl, hb⟩
        go_wp2
        go_ret2
        exact ⟨rfl, hb⟩
      · rw [h1] at c1
        clear h1
        go_enter Tryz.func27, Tryz.ntmps27
        go_wp2_with fail
        refine c1.mono ?_
        rintro e w1 ⟨rfl, rfl⟩
        go_wp2_with fail
        refine (C2.out _).mono ?_
        rintro e w1 ⟨rfl, hb⟩
        go_wp2
        go_ret2
        exact ⟨rfl, hb⟩
end Tag
end Go.Proofs.YthkedlcmpibkjaaGreatDoor
