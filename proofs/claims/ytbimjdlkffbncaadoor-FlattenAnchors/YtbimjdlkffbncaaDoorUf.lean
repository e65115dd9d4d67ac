/-
  Walks of lex: inName, Name.
  Rows of events that are read; walks of event: Depth, isNode, Nodes.
  Walks of event: mayName, mayTag, isFilled.
  Walks of event: openedBy (what group an event opens), and what closes it.
  The groups that stand open: a row of pointers to blocks of their own; the walk of isNested.
  The walk of isNested.
  The walk of event.Right.
-/
import Derived.Test.YtbimjdlkffbncaaDoorGg
import Derived.Test.YtbimjdlkffbncaaDoorWi
import Derived.Test.YtbimjdlkffbncaaDoorVa
import Derived.Test.YtbimjdlkffbncaaDoorXe
import Derived.Test.YtbimjdlkffbncaaDoorXs
import Derived.Maps.AppendAt
import Derived.BigQuiet
import Derived.Laws.EntriesVeiled
import Derived.Deep.QuietTactic
namespace Go.Proofs.YtbimjdlkffbncaaDoor
namespace Evn
namespace Lx
def inName (b : UInt8) : Bool := (decide (65 ≤ b.toNat) && decide (b.toNat ≤ 90)) || (decide (97 ≤ b.toNat) && decide (b.toNat ≤ 122)) || (decide (48 ≤ b.toNat) && decide (b.toNat ≤ 57)) || decide (b.toNat = 45) || decide (b.toNat = 95)
def name (l : List UInt8) : Bool := !l.isEmpty && decide (l.length ≤ 40) && l.all inName
theorem getD_at (s : ByteArray) (k : Nat) (h : k < s.size) : s.data.toList.getD k 0 = s[k] := Tag.getD_at s k h
end Lx
open Go.RowKit

set_option maxHeartbeats 1000000 in
theorem linName_any (b : UInt8) (w : World) :
    Calls Tryd.prog 112 #[.int .u8 b.toNat] w fun e w' => e = .returned (.bool (Lx.inName b)) ∧ w = w' := by
  have hb := b.toNat_lt
  go_enter Tryd.func112, Tryd.ntmps112
  go_wp2
  all_goals go_ret
  all_goals exact ⟨ret_bool (by unfold Lx.inName; rw [Bool.eq_iff_iff]; simp at *; omega), rfl⟩
theorem lall_at (s : ByteArray) (k : Nat) (h : k < s.size) : (s.data.toList.drop k).all Lx.inName = (Lx.inName s[k] && (s.data.toList.drop (k + 1)).all Lx.inName) := by
  rw [Sc.drop_cons s k h, List.all_cons]

set_option maxHeartbeats 1000000 in
set_option maxRecDepth 100000 in
theorem lname_any (s : ByteArray) (w : World) (hs : s.size ≤ 1000000) :
    Calls Tryd.prog 92 #[.string s] w fun e w' => e = .returned (.bool (Lx.name s.data.toList)) ∧ Below w.heap.size w w' := by
  by_cases h0 : s.size = 0
  · obtain rfl := Tag.ba_nil s h0
    clear h0
    go_enter Tryd.func92, Tryd.ntmps92
    go_wp2
    go_ret
    exact ⟨rfl, Below.refl _ _⟩
  · have hp : 0 < s.size := by omega
    have hemp := ba_isEmpty s hp
    have hnil := ba_notnil s hp
    have hne : s.data.toList.isEmpty = false := by rw [← Lib.toList_data]; exact hemp
    unfold Lx.name
    rw [hne, ← Lib.size_eq]
    clear hne
    by_cases h4 : s.size ≤ 40
    · have b1 : decide ((40 : Int) < (s.size : Int)) = false := decide_eq_false (by omega)
      rw [decide_eq_true h4]
      obtain ⟨ANS, hANS⟩ : ∃ ANS, s.data.toList.all Lx.inName = ANS := ⟨_, rfl⟩
      rw [hANS]
      have HA : Hid ((s.data.toList.drop 0).all Lx.inName = ANS) := hANS
      clear hANS
      have hcv := Lib.run_convert_string_bytes (P := Tryd.prog) w 9 133 5 s (u := .string) Tryd.underlying9 Tryd.underlying133 Tryd.underlying5
      have hbw := Lib.bytesWorld_below w 5 s
      have HC := Lib.hid (fun j hj => Lib.bytesWorld_cell w 5 s j hj)
      generalize Lib.bytesWorld w 5 s = W1 at hcv hbw HC
      go_enter Tryd.func92, Tryd.ntmps92
      go_wp2
      go_loop [15] (fun i => ∃ k : Nat, k ≤ s.size ∧ i = .int .i64 k ∧ Hid ((s.data.toList.drop k).all Lx.inName = ANS)) (fun i => s.size - (intOf i).toNat)
      case atStart => exact ⟨0, by omega, rfl, HA⟩
      case round =>
        obtain ⟨k, hk, rfl, HK⟩ := hrel
        clear HA hcv
        by_cases hlt : k < s.size
        · have HS : Hid (_ = _) := lall_at s k hlt
          have hc := HC.out k hlt
          rw [Lx.getD_at s k hlt] at hc
          have cI := linName_any s[k] W1
          cases hi : Lx.inName s[k]
          · rw [hi] at cI
            have HF : Hid (ANS = false) := by have h := HK.out; rw [HS.out, hi, Bool.false_and] at h; exact h.symm
            clear HS HK hi
            go_wp2_with (go_at_call 112; refine cI.mono ?_; rintro e w' ⟨rfl, rfl⟩)
            go_ret
            exact ⟨ret_bool (by rw [HF.out] <;> rfl), hbw⟩
          · rw [hi] at cI
            have HN : Hid ((s.data.toList.drop (k + 1)).all Lx.inName = ANS) := by have h := HK.out; rw [HS.out, hi, Bool.true_and] at h; exact h
            clear HS HK hi
            go_wp2_with (go_at_call 112; refine cI.mono ?_; rintro e w' ⟨rfl, rfl⟩)
            go_round
            case rel => exact ⟨k + 1, by omega, by go_num, HN⟩
            case measure => simp [intOf]; omega
        · have HF : Hid (ANS = true) := by have h := HK.out; rw [Sc.drop_nil s k (by omega)] at h; exact h.symm
          clear HK
          go_wp2
          go_ret
          exact ⟨ret_bool (by rw [HF.out] <;> rfl), hbw⟩
    · have b1 : decide ((40 : Int) < (s.size : Int)) = true := decide_eq_true (by omega)
      rw [decide_eq_false h4]
      go_enter Tryd.func92, Tryd.ntmps92
      go_wp2
      go_ret
      exact ⟨rfl, Below.refl _ _⟩
end Evn
end Go.Proofs.YtbimjdlkffbncaaDoor
namespace Go.Proofs.YtbimjdlkffbncaaDoor
namespace Evn
open Go.RowKit

set_option maxHeartbeats 2000000 in
set_option maxRecDepth 100000 in
theorem depth_any (v : Value) (es : List Ev.E) (w : World) (h : RdE w w.heap.size v es) (hl : es.length ≤ 1000000) :
    Calls Tryd.prog 35 #[v] w fun e w' => e = .returned (.int .i64 (Ev.dmax (Ev.kinds es))) ∧ Below w.heap.size w w' := by
  obtain ⟨a, c, rfl, hc, hcl⟩ := h
  obtain ⟨ANS, hANS⟩ : ∃ ANS, Ev.dmax (Ev.kinds es) = ANS := ⟨_, rfl⟩
  rw [hANS]
  have HA : Hid (Ev.depthGo 0 0 ((Ev.kinds es).drop 0) = ANS) := by show _ = _; rw [List.drop_zero, Ev.depthGo_zero, hANS]
  have HC := Lib.hid hcl
  clear hANS hcl
  go_enter Tryd.func35, Tryd.ntmps35
  go_wp2
  go_loopw [3, 4, 9] (fun dv mv i wr => ∃ (j : Nat) (d m : Int), j ≤ es.length ∧ dv = .int .i64 d ∧ mv = .int .i64 m ∧ i = .int .i64 j ∧ Hid (Ev.depthGo d m ((Ev.kinds es).drop j) = ANS) ∧ -(j : Int) ≤ d ∧ d ≤ j ∧ Below w.heap.size w wr) (fun _ _ i _ => es.length - (intOf i).toNat)
  case atStart => exact ⟨0, 0, 0, by omega, rfl, rfl, rfl, HA, by omega, by omega, Below.refl _ _⟩
  case round =>
    obtain ⟨j, d, m, hj, rfl, rfl, rfl, HK, hd1, hd2, hbw⟩ := hrel
    clear HA
    have hBr := hbw.size
    by_cases hlt : j < es.length
    · obtain ⟨g, o, rfl, hg, hcl⟩ := HC.out (by omega)
      obtain ⟨c0, c1, c2, c3, c4⟩ := (hcl j hlt).below hbw hg
      have hK := HK.out
      rw [Ev.kinds_drop es j hlt] at hK
      unfold Ev.depthGo at hK
      clear hcl HK
      generalize es[j].kind = k at *
      generalize es[j] = x at *
      by_cases k2 : k = 2 ∨ k = 4
      · have e : Ev.dstep k = 1 := if_pos k2
        rw [e] at hK
        have HK := Lib.hid hK
        clear hK e
        rcases k2 with rfl | rfl
        all_goals go_wp2
        all_goals go_roundw
        case rel => exact ⟨j + 1, d + 1, max m (d + 1), by omega, by go_num, by go_num, by go_num, HK, by omega, by omega, hbw.alloc hBr _⟩
        case measure => simp [intOf]; omega
        case rel => exact ⟨j + 1, d + 1, max m (d + 1), by omega, by go_num, by go_num, by go_num, HK, by omega, by omega, hbw.alloc hBr _⟩
        case measure => simp [intOf]; omega
      · by_cases k3 : k = 3 ∨ k = 5
        · have e : Ev.dstep k = -1 := by unfold Ev.dstep; rw [if_neg k2, if_pos k3]
          rw [e] at hK
          have HK := Lib.hid hK
          clear hK e k2
          rcases k3 with rfl | rfl
          all_goals go_wp2
          all_goals go_roundw
          case rel => exact ⟨j + 1, d - 1, max m (d - 1), by omega, by go_num, by go_num, by go_num, HK, by omega, by omega, hbw.alloc hBr _⟩
          case measure => simp [intOf]; omega
          case rel => exact ⟨j + 1, d - 1, max m (d - 1), by omega, by go_num, by go_num, by go_num, HK, by omega, by omega, hbw.alloc hBr _⟩
          case measure => simp [intOf]; omega
        · have e : Ev.dstep k = 0 := by unfold Ev.dstep; rw [if_neg k2, if_neg k3]
          rw [e, Int.add_zero] at hK
          have HK := Lib.hid hK
          have b2 : (k == 2) = false := beq_eq_false_iff_ne.2 (by omega)
          have b3 : (k == 3) = false := beq_eq_false_iff_ne.2 (by omega)
          have b4 : (k == 4) = false := beq_eq_false_iff_ne.2 (by omega)
          have b5 : (k == 5) = false := beq_eq_false_iff_ne.2 (by omega)
          clear hK e k2 k3
          go_wp2
          go_roundw
          case rel => exact ⟨j + 1, d, max m d, by omega, by go_num, by go_num, by go_num, HK, by omega, by omega, hbw.alloc hBr _⟩
          case measure => simp [intOf]; omega
    · have hje : j = es.length := by omega
      subst hje
      have HD : Hid (m = ANS) := by
        have h := HK.out
        rw [List.drop_of_length_le (by rw [Ev.kinds_len]; exact Nat.le_refl _)] at h
        exact h
      clear HK
      go_wp2
      go_ret
      exact ⟨ret_int HD.out, hbw⟩

set_option maxHeartbeats 1000000 in
theorem isNode_any (k : Int) (w : World) :
    Calls Tryd.prog 54 #[.int .i64 k] w fun e w' => e = .returned (.bool (Ev.isNode k)) ∧ w = w' := by
  go_enter Tryd.func54, Tryd.ntmps54
  go_wp2
  all_goals go_ret
  all_goals exact ⟨ret_bool (by unfold Ev.isNode; rw [Bool.eq_iff_iff]; first | (simp at *; omega) | simp at *), rfl⟩

set_option maxHeartbeats 2000000 in
set_option maxRecDepth 100000 in
theorem nodes_any (v : Value) (es : List Ev.E) (w : World) (h : RdE w w.heap.size v es) (hl : es.length ≤ 1000000) :
    Calls Tryd.prog 25 #[v] w fun e w' => e = .returned (.int .i64 (Ev.nodesOf (Ev.kinds es) : Nat)) ∧ Below w.heap.size w w' := by
  obtain ⟨a, c, rfl, hc, hcl⟩ := h
  obtain ⟨ANS, hANS⟩ : ∃ ANS, Ev.nodesOf (Ev.kinds es) = ANS := ⟨_, rfl⟩
  rw [hANS]
  have HA : Hid (0 + Ev.nodesOf ((Ev.kinds es).drop 0) = ANS) := by show _ = _; rw [List.drop_zero, Nat.zero_add, hANS]
  have HC := Lib.hid hcl
  clear hANS hcl
  go_enter Tryd.func25, Tryd.ntmps25
  go_wp2
  go_loopw [3, 8] (fun nv i wr => ∃ (j n : Nat), j ≤ es.length ∧ nv = .int .i64 n ∧ i = .int .i64 j ∧ Hid (n + Ev.nodesOf ((Ev.kinds es).drop j) = ANS) ∧ n ≤ j ∧ Below w.heap.size w wr) (fun _ i _ => es.length - (intOf i).toNat)
  case atStart => exact ⟨0, 0, by omega, rfl, rfl, HA, by omega, Below.refl _ _⟩
  case round =>
    obtain ⟨j, n, hj, rfl, rfl, HK, hn, hbw⟩ := hrel
    clear HA
    have hBr := hbw.size
    by_cases hlt : j < es.length
    · obtain ⟨g, o, rfl, hg, hcl⟩ := HC.out (by omega)
      obtain ⟨c0, c1, c2, c3, c4⟩ := (hcl j hlt).below hbw hg
      have hK := HK.out
      rw [Ev.kinds_drop es j hlt] at hK
      unfold Ev.nodesOf at hK
      rw [List.countP_cons] at hK
      clear hcl HK
      generalize es[j].kind = k at *
      generalize es[j] = x at *
      have cN := Lib.hid (fun w => isNode_any k w)
      cases hn1 : Ev.isNode k
      · rw [hn1] at cN
        rw [hn1, if_neg (by decide)] at hK
        have HK : Hid (n + Ev.nodesOf ((Ev.kinds es).drop (j + 1)) = ANS) := by show _ = _; unfold Ev.nodesOf; omega
        clear hK hn1
        go_wp2_with (go_at_call 54; refine (cN.out _).mono ?_; rintro e w' ⟨rfl, rfl⟩)
        go_roundw
        case rel => exact ⟨j + 1, n, by omega, by go_num, by go_num, HK, by omega, hbw.alloc hBr _⟩
        case measure => simp [intOf]; omega
      · rw [hn1] at cN
        rw [hn1, if_pos rfl] at hK
        have HK : Hid (n + 1 + Ev.nodesOf ((Ev.kinds es).drop (j + 1)) = ANS) := by show _ = _; unfold Ev.nodesOf; omega
        clear hK hn1
        go_wp2_with (go_at_call 54; refine (cN.out _).mono ?_; rintro e w' ⟨rfl, rfl⟩)
        go_roundw
        case rel => exact ⟨j + 1, n + 1, by omega, by go_num, by go_num, HK, by omega, hbw.alloc hBr _⟩
        case measure => simp [intOf]; omega
    · have hje : j = es.length := by omega
      subst hje
      have HD : Hid ((n : Int) = (ANS : Nat)) := by
        have h := HK.out
        rw [List.drop_of_length_le (by rw [Ev.kinds_len]; exact Nat.le_refl _)] at h
        show _ = _
        rw [← h]; rfl
      clear HK
      go_wp2
      go_ret
      exact ⟨ret_int HD.out, hbw⟩
end Evn
end Go.Proofs.YtbimjdlkffbncaaDoor
namespace Go.Proofs.YtbimjdlkffbncaaDoor
open Go.Proofs.YtbimjdlkffbncaaDoor.Ev
namespace Evn
namespace Ev
def mayName (l : List UInt8) : Bool := l.isEmpty || Lx.name l
def mayTag (l : List UInt8) : Bool := l.isEmpty || Tg.right l
/-- has an event just those fields that its kind may have? -/
def filled (x : E) : Bool :=
  if x.kind = 2 ∨ x.kind = 4 then (x.text.isEmpty && !x.plain) && mayName x.anchor && mayTag x.tag
  else if x.kind = 6 then mayName x.anchor && mayTag x.tag && Lib.validD x.text
  else if x.kind = 7 then (x.tag.isEmpty && x.text.isEmpty && !x.plain) && Lx.name x.anchor
  else x.anchor.isEmpty && x.tag.isEmpty && x.text.isEmpty && !x.plain
/-- the fields are of a size that is asked -/
def Small (x : E) : Prop := x.anchor.length ≤ 50000 ∧ x.tag.length ≤ 50000 ∧ x.text.length ≤ 50000
end Ev
open Go.RowKit


set_option maxHeartbeats 1000000 in
theorem mayName_any (l : List UInt8) (w : World) (hl : l.length ≤ 50000) :
    Calls Tryd.prog 90 #[.string (str l)] w fun e w' => e = .returned (.bool (Ev.mayName l)) ∧ Below w.heap.size w w' := by
  have cN := lname_any (str l) w (by rw [str_len]; omega)
  rw [str_dat] at cN
  cases l with
  | nil =>
    rw [str_nil]
    clear cN
    go_enter Tryd.func90, Tryd.ntmps90
    go_wp2
    go_ret
    exact ⟨rfl, Below.refl _ _⟩
  | cons b t =>
    have hemp := ba_isEmpty (str (b :: t)) (by rw [str_len]; simp)
    have hnil := ba_notnil (str (b :: t)) (by rw [str_len]; simp)
    unfold Ev.mayName
    generalize Lx.name (b :: t) = r at *
    generalize str (b :: t) = s at *
    go_enter Tryd.func90, Tryd.ntmps90
    go_wp2_with (go_at_call 92; refine cN.mono ?_; rintro e w' ⟨rfl, hb⟩)
    go_ret
    exact ⟨rfl, hb⟩

set_option maxHeartbeats 1000000 in
theorem mayTag_any (l : List UInt8) (w : World) (hl : l.length ≤ 50000) :
    Calls Tryd.prog 91 #[.string (str l)] w fun e w' => e = .returned (.bool (Ev.mayTag l)) ∧ Below w.heap.size w w' := by
  have cN := Tag.right_any (str l) w (by rw [str_len]; omega)
  rw [str_dat] at cN
  cases l with
  | nil =>
    rw [str_nil]
    clear cN
    go_enter Tryd.func91, Tryd.ntmps91
    go_wp2
    go_ret
    exact ⟨rfl, Below.refl _ _⟩
  | cons b t =>
    have hemp := ba_isEmpty (str (b :: t)) (by rw [str_len]; simp)
    have hnil := ba_notnil (str (b :: t)) (by rw [str_len]; simp)
    unfold Ev.mayTag
    generalize Tg.right (b :: t) = r at *
    generalize str (b :: t) = s at *
    go_enter Tryd.func91, Tryd.ntmps91
    go_wp2_with (go_at_call 79; refine cN.mono ?_; rintro e w' ⟨rfl, hb⟩)
    go_ret
    exact ⟨rfl, hb⟩

set_option maxHeartbeats 2000000 in
set_option maxRecDepth 100000 in
theorem isFilled_any (x : Ev.E) (w : World) (hs : Ev.Small x) (hE : Env w) :
    Calls Tryd.prog 55 #[.agg #[.int .i64 x.kind, .string (str x.anchor), .string (str x.tag), .string (str x.text), .bool x.plain]] w fun e w' => e = .returned (.bool (Ev.filled x)) ∧ Below w.heap.size w w' := by
  obtain ⟨k, an, tg, tx, pl⟩ := x
  obtain ⟨h1, h2, h3⟩ := hs
  simp only at h1 h2 h3
  have cN := Lib.hid (fun w => mayName_any an w h1)
  have cT := Lib.hid (fun w => mayTag_any tg w h2)
  have cV := Lib.hid (fun w hE => valid_any (str tx) w (by rw [str_len]; omega) hE)
  have cL := Lib.hid (fun w => lname_any (str an) w (by rw [str_len]; omega))
  have HE := Lib.hid hE
  clear hE
  have eT : (str tx).data.toList = tx := rfl
  have eA : (str an).data.toList = an := rfl
  rw [eT] at cV
  rw [eA] at cL
  unfold Ev.filled
  by_cases k2 : k = 2 ∨ k = 4
  · rw [if_pos k2]
    clear cV cL
    cases hn : Ev.mayName an <;> rw [hn] at cN <;> cases ht : Ev.mayTag tg <;> rw [ht] at cT <;> clear hn ht
    all_goals rcases k2 with rfl | rfl
    all_goals go_enter Tryd.func55, Tryd.ntmps55
    all_goals go_wp2_with (first
      | (go_at_call 90; refine (cN.out _).mono ?_; rintro e w1 ⟨rfl, hb1⟩; have d2 := cell_after hb1 2 _ rfl)
      | (go_at_call 91; refine (cT.out _).mono ?_; rintro e w2 ⟨rfl, hb2⟩))
    all_goals go_ret
    all_goals refine ⟨ret_bool (by simp_all [str_toL]), ?_⟩
    all_goals first
      | exact bnew w _
      | exact bthen (bnew w _) hb1
      | exact bthen (bnew w _) (bthen hb1 hb2)
  · rw [if_neg k2]
    have b2 : (k == 2) = false := beq_eq_false_iff_ne.2 (by omega)
    have b4 : (k == 4) = false := beq_eq_false_iff_ne.2 (by omega)
    by_cases k6 : k = 6
    · rw [if_pos k6]
      clear cL
      cases hn : Ev.mayName an <;> rw [hn] at cN <;> cases ht : Ev.mayTag tg <;> rw [ht] at cT <;> clear hn ht
      all_goals subst k6
      all_goals go_enter Tryd.func55, Tryd.ntmps55
      all_goals go_wp2_with (first
        | (go_at_call 90; refine (cN.out _).mono ?_; rintro e w1 ⟨rfl, hb1⟩; have d2 := cell_after hb1 2 _ rfl)
        | (go_at_call 91; refine (cT.out _).mono ?_; rintro e w2 ⟨rfl, hb2⟩; have d3 := cell_after (bthen hb1 hb2) 3 _ rfl; have HE2 := Lib.hid (HE.out.below (bthen (bnew w _) (bthen hb1 hb2))))
        | (go_at_call 86; refine (cV.out _ HE2.out).mono ?_; rintro e w3 ⟨rfl, hb3⟩))
      all_goals go_ret
      all_goals refine ⟨ret_bool (by simp_all), ?_⟩
      all_goals first
        | exact bnew w _
        | exact bthen (bnew w _) hb1
        | exact bthen (bnew w _) (bthen hb1 hb2)
        | exact bthen (bnew w _) (bthen hb1 (bthen hb2 hb3))
    · rw [if_neg k6]
      have b6 : (k == 6) = false := beq_eq_false_iff_ne.2 k6
      clear cN cT cV
      by_cases k7 : k = 7
      · rw [if_pos k7]
        subst k7
        go_enter Tryd.func55, Tryd.ntmps55
        go_wp2_with (go_at_call 92; refine (cL.out _).mono ?_; rintro e w1 ⟨rfl, hb1⟩)
        all_goals go_ret
        all_goals refine ⟨ret_bool (by simp_all [str_toL]), ?_⟩
        all_goals first
          | exact bnew w _
          | exact bthen (bnew w _) hb1
      · rw [if_neg k7]
        have b7 : (k == 7) = false := beq_eq_false_iff_ne.2 k7
        clear cL
        go_enter Tryd.func55, Tryd.ntmps55
        go_wp2
        all_goals go_ret
        all_goals refine ⟨ret_bool (by simp_all [str_toL]), ?_⟩
        all_goals exact bnew w _
end Evn
end Go.Proofs.YtbimjdlkffbncaaDoor
namespace Go.Proofs.YtbimjdlkffbncaaDoor
open Go.Proofs.YtbimjdlkffbncaaDoor.Ev
namespace Evn
open Go.RowKit

set_option maxHeartbeats 2000000 in
theorem opened_none (k : Int) (w : World) (h : Ev.opens k = false) :
    Calls Tryd.prog 93 #[.int .i64 k] w fun e w' => e = .returned (.pointer none) ∧ Below w.heap.size w w' := by
  have b0 : (k == 0) = false := beq_eq_false_iff_ne.2 (by intro e; subst e; cases h)
  have b2 : (k == 2) = false := beq_eq_false_iff_ne.2 (by intro e; subst e; cases h)
  have b4 : (k == 4) = false := beq_eq_false_iff_ne.2 (by intro e; subst e; cases h)
  clear h
  go_enter Tryd.func93, Tryd.ntmps93
  go_wp2
  go_ret
  refine ⟨rfl, ?_⟩
  exact bthen (bnew w _) (bnew _ _)

/-- what tells whether an event closes a group -/
def closer (k : Int) (b : Nat) : Value :=
  if k = 0 then .func (.func 113) #[] #[.pointer (some ⟨b + 1, 0, none⟩)]
  else if k = 2 then .func (.func 114) #[] #[]
  else .func (.func 115) #[] #[.pointer (some ⟨b + 1, 0, none⟩)]

theorem frozen_cells {w : World} {b i : Nat} {c : Array Value} {t : TypeId} (h : w.heap[b]? = some (.cells c t (0, 0))) : w.frozen? ⟨b, i, none⟩ = false := frozen_blk h i

theorem two_blk (w : World) (o p : Obj) : ((w.alloc o).alloc p).heap[w.heap.size]? = some o := by
  show ((w.heap.push o).push p)[w.heap.size]? = _
  rw [Array.getElem?_push, if_neg (by simp), Array.getElem?_push, if_pos rfl]
theorem two_blk' (w : World) (o p : Obj) : ((w.alloc o).alloc p).heap[w.heap.size + 1]? = some p := by
  show ((w.heap.push o).push p)[w.heap.size + 1]? = _
  rw [Array.getElem?_push, if_pos (by simp)]
theorem two_set (w : World) (c d : Array Value) (t u : TypeId) (i : Nat) (v : Value) : ((w.alloc (.cells c t)).alloc (.cells d u)).setCell ⟨w.heap.size, i, none⟩ v = (w.alloc (.cells (c.setIfInBounds i v) t)).alloc (.cells d u) := by
  unfold World.setCell World.alloc
  simp only
  congr 1
  apply Array.ext_getElem?
  intro j
  rw [Array.getElem?_modify]
  simp only [Array.getElem?_push, Array.size_push]
  split <;> split <;> (try split) <;> (try split) <;> simp_all <;> omega

set_option maxHeartbeats 2000000 in
theorem opened_some (k : Int) (w : World) (h : k = 0 ∨ k = 2 ∨ k = 4) :
    Calls Tryd.prog 93 #[.int .i64 k] w fun e w' => e = .returned (.pointer (some ⟨w.heap.size, 0, none⟩)) ∧ w' = (w.alloc (.cells #[.int .i64 0, closer k w.heap.size] 112)).alloc (.cells #[.pointer (some ⟨w.heap.size, 0, none⟩)] 113) := by
  have hB := two_blk w (.cells #[.int .i64 0, Value.nilFunc] 112) (.cells #[.pointer (some ⟨w.heap.size, 0, none⟩)] 113)
  have hc := cell_blk hB 1 _ rfl
  have hf := frozen_blk hB 1
  clear hB
  rcases h with rfl | rfl | rfl
  all_goals go_enter Tryd.func93, Tryd.ntmps93
  all_goals go_wp2
  all_goals go_ret
  all_goals refine ⟨rfl, ?_⟩
  all_goals rfl

set_option maxHeartbeats 1000000 in
theorem closes_doc (k : Int) (n b : Nat) (f : Value) (w : World) (h1 : w.heap[b]? = some (.cells #[.int .i64 n, f] 112)) (h2 : w.heap[b + 1]? = some (.cells #[.pointer (some ⟨b, 0, none⟩)] 113)) :
    Calls Tryd.prog 113 #[.int .i64 k, .pointer (some ⟨b + 1, 0, none⟩)] w fun e w' => e = .returned (.bool (decide (k = 1) && decide (n = 1))) ∧ w = w' := by
  have c1 := cell_blk h1 0 _ rfl
  have c2 := cell_blk h2 0 _ rfl
  simp only [List.getElem_toArray, List.getElem_cons_zero] at c1 c2
  go_enter Tryd.func113, Tryd.ntmps113
  go_wp2
  all_goals go_ret
  all_goals exact ⟨ret_bool (by rw [Bool.eq_iff_iff]; first | (simp at *; omega) | simp_all), rfl⟩
set_option maxHeartbeats 1000000 in
theorem closes_seq (k : Int) (w : World) :
    Calls Tryd.prog 114 #[.int .i64 k] w fun e w' => e = .returned (.bool (decide (k = 3))) ∧ w = w' := by
  go_enter Tryd.func114, Tryd.ntmps114
  go_wp2
  all_goals go_ret
  all_goals exact ⟨ret_bool (by rw [Bool.eq_iff_iff]; first | (simp at *; omega) | simp_all), rfl⟩
set_option maxHeartbeats 1000000 in
theorem closes_map (k : Int) (n b : Nat) (f : Value) (w : World) (h1 : w.heap[b]? = some (.cells #[.int .i64 n, f] 112)) (h2 : w.heap[b + 1]? = some (.cells #[.pointer (some ⟨b, 0, none⟩)] 113)) :
    Calls Tryd.prog 115 #[.int .i64 k, .pointer (some ⟨b + 1, 0, none⟩)] w fun e w' => e = .returned (.bool (decide (k = 5) && decide (n % 2 = 0))) ∧ w = w' := by
  have c1 := cell_blk h1 0 _ rfl
  have c2 := cell_blk h2 0 _ rfl
  simp only [List.getElem_toArray, List.getElem_cons_zero] at c1 c2
  have hm : (n : Int).tmod 2 = ((n % 2 : Nat) : Int) := (Int.ofNat_tmod n 2).symm
  by_cases hp : n % 2 = 0
  · rw [hp] at hm
    go_enter Tryd.func115, Tryd.ntmps115
    go_wp2
    all_goals go_ret
    all_goals exact ⟨ret_bool (by rw [Bool.eq_iff_iff]; first | (simp at *; omega) | simp_all), rfl⟩
  · have hq : n % 2 = 1 := by omega
    rw [hq] at hm
    go_enter Tryd.func115, Tryd.ntmps115
    go_wp2
    all_goals go_ret
    all_goals exact ⟨ret_bool (by rw [Bool.eq_iff_iff]; first | (simp at *; omega) | simp_all), rfl⟩
theorem opened_new (k : Int) (w : World) (h : k = 0 ∨ k = 2 ∨ k = 4) :
    Calls Tryd.prog 93 #[.int .i64 k] w fun e w' => e = .returned (.pointer (some ⟨w.heap.size, 0, none⟩)) ∧ Below w.heap.size w w' ∧ w.heap.size + 2 = w'.heap.size ∧ w'.heap[w.heap.size]? = some (.cells #[.int .i64 0, closer k w.heap.size] 112) ∧ w'.heap[w.heap.size + 1]? = some (.cells #[.pointer (some ⟨w.heap.size, 0, none⟩)] 113) := by
  refine (opened_some k w h).mono ?_
  rintro e w' ⟨rfl, rfl⟩
  exact ⟨rfl, bthen (bnew w _) (bnew _ _), by rw [World.size_alloc, World.size_alloc], two_blk _ _ _, two_blk' _ _ _⟩
theorem opened_grp (k : Int) (w : World) (h : k = 0 ∨ k = 2 ∨ k = 4) :
    Calls Tryd.prog 93 #[.int .i64 k] w fun e w' => ∃ b, e = .returned (.pointer (some ⟨b, 0, none⟩)) ∧ w.heap.size = b ∧ Below w.heap.size w w' ∧ b + 2 = w'.heap.size ∧ w'.heap[b]? = some (.cells #[.int .i64 0, closer k b] 112) ∧ w'.heap[b + 1]? = some (.cells #[.pointer (some ⟨b, 0, none⟩)] 113) :=
  (opened_new k w h).mono fun _ _ ⟨h1, h2, h3, h4, h5⟩ => ⟨_, h1, rfl, h2, h3, h4, h5⟩
end Evn
end Go.Proofs.YtbimjdlkffbncaaDoor
namespace Go.Proofs.YtbimjdlkffbncaaDoor
open Go.Proofs.YtbimjdlkffbncaaDoor.Ev
namespace Evn
namespace Ev
def closed : Option St → Bool
  | some [] => true
  | _ => false
theorem nested_closed (l : List Int) : nested l = closed (run [] l) := by
  unfold nested closed
  rfl
end Ev
open Go.RowKit

structure Grp where
  kind : Int
  n : Nat
  b : Nat
def Grp.ptr (g : Grp) : Value := .pointer (some ⟨g.b, 0, none⟩)
def GrpAt (w : World) (g : Grp) : Prop :=
  w.heap[g.b]? = some (.cells #[.int .i64 g.n, closer g.kind g.b] 112) ∧ w.heap[g.b + 1]? = some (.cells #[g.ptr] 113)
theorem GrpAt.kept {w w' : World} {g : Grp} (h : GrpAt w g) (h1 : w'.heap[g.b]? = w.heap[g.b]?) (h2 : w'.heap[g.b + 1]? = w.heap[g.b + 1]?) : GrpAt w' g := ⟨h1.trans h.1, h2.trans h.2⟩
theorem GrpAt.lt {w : World} {g : Grp} (h : GrpAt w g) : g.b + 1 < w.heap.size := (Array.getElem?_eq_some_iff.1 h.2).1
/-- the groups that stand open, the last one last -/
structure Opn (w : World) (B : Nat) (v : Value) (gs : List Grp) : Prop where
  row : w.ownsRow B 113 1 v gs.length (gs.map Grp.ptr)
  at_ : ∀ g ∈ gs, B ≤ g.b ∧ GrpAt w g ∧ v.ownBlock ≠ some g.b ∧ v.ownBlock ≠ some (g.b + 1) ∧ (g.kind = 0 ∨ g.kind = 2 ∨ g.kind = 4)
  inc : gs.Pairwise (fun g h => g.b + 1 < h.b)
theorem Opn.nil (w : World) (B : Nat) : Opn w B (.slice none 0 0) [] := ⟨World.ownsRow_nil _ _ _ _, fun g hg => (by cases hg), .nil⟩
theorem Opn.below {w w' : World} {B : Nat} {v : Value} {gs : List Grp} (h : Opn w B v gs) (hb : Below w.heap.size w w') : Opn w' B v gs := by
  refine ⟨row_below h.row hb, fun g hg => ?_, h.inc⟩
  obtain ⟨h1, h2, h3⟩ := h.at_ g hg
  have := h2.lt
  exact ⟨h1, h2.kept (hb.block _ (by omega)) (hb.block _ (by omega)), h3⟩
def stOf (gs : List Grp) : Ev.St := (gs.map fun g => (g.kind, g.n)).reverse
theorem stOf_snoc (gs : List Grp) (g : Grp) : stOf (gs ++ [g]) = (g.kind, g.n) :: stOf gs := by simp [stOf]
theorem Opn.bump {w : World} {B : Nat} {v : Value} {gs : List Grp} {g : Grp} (h : Opn w B v (gs ++ [g])) (u : Value) (hu : u = .int .i64 ((g.n + 1 : Nat) : Int)) : Opn (w.setCell ⟨g.b, 0, none⟩ u) B v (gs ++ [⟨g.kind, g.n + 1, g.b⟩]) := by
  subst hu
  obtain ⟨g1, g2, g3, g4, g5⟩ := h.at_ g (by simp)
  have hinc := List.pairwise_append.1 h.inc
  refine ⟨?_, ?_, ?_⟩
  · have hr := row_kept (w' := w.setCell ⟨g.b, 0, none⟩ (.int .i64 ((g.n + 1 : Nat) : Int))) h.row (fun k hk => Below.heap_setCell w _ _ k (fun e => g3 (by rw [hk]; exact congrArg some e)))
    simpa [List.map_append, Grp.ptr] using hr
  · intro x hx
    rcases List.mem_append.1 hx with hx | hx
    · obtain ⟨x1, x2, x3⟩ := h.at_ x (by simp [hx])
      have hlt := hinc.2.2 x hx g (by simp)
      exact ⟨x1, x2.kept (Below.heap_setCell w _ _ _ (by show _ ≠ g.b; omega)) (Below.heap_setCell w _ _ _ (by show _ ≠ g.b; omega)), x3⟩
    · simp only [List.mem_cons, List.not_mem_nil, or_false] at hx
      subst hx
      exact ⟨g1, ⟨blk_set g2.1 0 _, (Below.heap_setCell w _ _ _ (by show _ ≠ g.b; simp only; omega)).trans g2.2⟩, g3, g4, g5⟩
  · refine List.pairwise_append.2 ⟨hinc.1, by simp, fun x hx y hy => ?_⟩
    simp only [List.mem_cons, List.not_mem_nil, or_false] at hy
    subst hy
    exact hinc.2.2 x hx g (by simp)
theorem Opn.form {w : World} {B : Nat} {v : Value} {gs : List Grp} {g : Grp} (h : Opn w B v (gs ++ [g])) : ∃ gb c, v = .slice (some ⟨gb, 0, none⟩) (gs.length + 1) c ∧ gs.length + 1 ≤ c ∧ gb < w.heap.size ∧ w.cell? ⟨gb, gs.length, none⟩ = some g.ptr := by
  have hr := h.row
  rw [List.length_append, List.length_singleton] at hr
  rcases hr.2 with ⟨rfl, h0⟩ | ⟨gb, c, cur, rfl, hB, hh, hc, hm, hsz, htk⟩
  · omega
  · refine ⟨gb, c, rfl, hc, (Array.getElem?_eq_some_iff.1 hh).1, ?_⟩
    rw [World.ownsRow.cellAt hr _ (by omega)]
    simp
theorem Opn.pop {w : World} {B gb n c : Nat} {gs : List Grp} {g : Grp} (h : Opn w B (.slice (some ⟨gb, 0, none⟩) n c) (gs ++ [g])) : Opn w B (.slice (some ⟨gb, 0, none⟩) gs.length c) gs := by
  refine ⟨?_, fun x hx => h.at_ x (by simp [hx]), (List.pairwise_append.1 h.inc).1⟩
  refine ⟨by simp, ?_⟩
  rcases h.row.2 with ⟨h0, _⟩ | ⟨gb', c', cur, he, hB, hh, hc, hm, hsz, htk⟩
  · cases h0
  · cases he
    refine .inr ⟨gb, c, cur, rfl, hB, hh, ?_, hm, hsz, ?_⟩
    · rw [List.length_append] at hc; omega
    · have := congrArg (List.take gs.length) htk
      rw [List.take_take, List.map_append, List.take_append_of_le_length (by simp), List.take_of_length_le (l := gs.map Grp.ptr) (by simp)] at this
      rw [← this]
      congr 1
      simp
theorem infoG : (Tryd.prog.info? 113).map (fun i => (i.zero, i.size, i.bytes)) = some (some (.pointer none), 1, 8) := by kernel_rfl

/-- 'append' of the group that was just laid -/
theorem wpList_pushG {ops : Array Oper} {rest : List Oper} {o : Oper} {a : Act} {Q : Exit → Act → World → Prop} (hgd : o.guard = none) (s x : Operand)
    (ho : o.op = .call { callee := .builtin .append, args := #[s, x], argTypes := #[110, 110] }) (B : Nat) (v : Value) (gs : List Grp) (g : Grp) (w0 : World) (C : Array Value) (c : Nat)
    (hs : a.eval s = v) (ga : Nat) (hx : a.eval x = .slice (some ⟨ga, 0, none⟩) 1 c) (hga : ga = w0.heap.size) (hC : C = #[g.ptr]) (hown : Opn w0 B v gs) (hg : GrpAt w0 g) (hgB : B ≤ g.b) (hinc : ∀ x ∈ gs, x.b + 1 < g.b) (hv : ∀ k, v.ownBlock = some k → k < g.b) (hk : g.kind = 0 ∨ g.kind = 2 ∨ g.kind = 4) (hl : gs.length ≤ 2000000)
    (h : ∀ v' w', Opn w' B v' (gs ++ [g]) → Below B w0 w' → B ≤ w'.heap.size → wpList Tryd.prog ops Q rest (a.put o.dst v') w') :
    wpList Tryd.prog ops Q (o :: rest) a (w0.alloc (.cells C 113)) := by
  subst hC hga
  have hB : B ≤ w0.heap.size := by have := hg.lt; omega
  obtain ⟨i0, hi, hz0, hz1, hz2⟩ := info_parts infoG
  refine wpList_append_own_at _ hgd s x 110 ho B 113 i0 _ 1 8 Tryd.underlying110 hi hz0 hz1 hz2 rfl (by decide) v gs.length (gs.map Grp.ptr) hs (World.ownsRow.alloc hown.row _) ⟨w0.heap.size, 0, none⟩ 1 c [g.ptr] hx rfl
    (fun j u hu => cells_of_new w0 113 [g.ptr] j u hu) (fun u hu => by simp only [List.mem_cons, List.not_mem_nil, or_false] at hu; subst hu; rfl) (by simp only [maxLen]; omega) (by omega) (by rw [World.size_alloc]; omega) ?_
  intro v' w' ho' hgr _ hbl
  have hbel : Below B w0 w' := ((Below.refl B w0).alloc hB _).grown hgr (by rw [World.size_alloc]; omega) (fun k hk => (World.ownsRow.lt hown.row k hk).1)
  have hkeep : ∀ k, k < w0.heap.size → v.ownBlock ≠ some k → w'.heap[k]? = w0.heap[k]? := fun k hk hne => by
    rw [hgr.block k (by rw [World.size_alloc]; omega) hne.symm]
    show (w0.heap.push _)[k]? = _
    rw [Array.getElem?_push, if_neg (by omega)]
  have hnew : ∀ k, k < w0.heap.size → v.ownBlock ≠ some k → v'.ownBlock ≠ some k := fun k hk hne => by
    rcases hbl with e | e
    · rw [e]; exact hne
    · rw [e]; intro e'; rw [World.size_alloc] at e'; simp at e'; omega
  refine h v' w' ⟨?_, ?_, ?_⟩ hbel (Nat.le_trans hB hbel.size)
  · rw [List.length_append, List.map_append]
    exact ho'
  · intro x hx
    rcases List.mem_append.1 hx with hx | hx
    · obtain ⟨x1, x2, x3, x4, x5⟩ := hown.at_ x hx
      have := x2.lt
      exact ⟨x1, x2.kept (hkeep _ (by omega) x3) (hkeep _ (by omega) x4), hnew _ (by omega) x3, hnew _ (by omega) x4, x5⟩
    · simp only [List.mem_cons, List.not_mem_nil, or_false] at hx
      subst hx
      have hlt := hg.lt
      have n1 : v.ownBlock ≠ some x.b := fun e => by have := hv _ e; omega
      have n2 : v.ownBlock ≠ some (x.b + 1) := fun e => by have := hv _ e; omega
      exact ⟨hgB, hg.kept (hkeep _ (by omega) n1) (hkeep _ (by omega) n2), hnew _ (by omega) n1, hnew _ (by omega) n2, hk⟩
  · refine List.pairwise_append.2 ⟨hown.inc, by simp, fun x hx y hy => ?_⟩
    simp only [List.mem_cons, List.not_mem_nil, or_false] at hy
    subst hy
    exact hinc x hx
end Evn
end Go.Proofs.YtbimjdlkffbncaaDoor
namespace Go.Proofs.YtbimjdlkffbncaaDoor
namespace Ev
theorem step_base (k : Int) (hk : k ≠ 0) : step [] k = none := by simp only [step, if_neg hk]
theorem step_zero (g : Int) (n : Nat) (r : St) : step ((g, n) :: r) 0 = none := by simp only [step, if_true]
theorem step_node (g : Int) (n : Nat) (r : St) (k : Int) (hk : k ≠ 0) (h : isNode k = true) : step ((g, n) :: r) k = some (push k ((g, n + 1) :: r)) := by simp only [step, if_neg hk, h, if_true]
theorem step_close (g : Int) (n : Nat) (r : St) (k : Int) (hk : k ≠ 0) (h : isNode k = false) (hc : closes g n k = true) : step ((g, n) :: r) k = some r := by simp only [step, if_neg hk, h, hc, if_true, Bool.false_eq_true, if_false]
theorem step_bad (g : Int) (n : Nat) (r : St) (k : Int) (hk : k ≠ 0) (h : isNode k = false) (hc : closes g n k = false) : step ((g, n) :: r) k = none := by simp only [step, if_neg hk, h, hc, Bool.false_eq_true, if_false]
theorem opens_node (k : Int) (hk : k ≠ 0) (h : isNode k = false) : opens k = false := by
  unfold isNode at h; unfold opens
  simp only [Bool.or_eq_false_iff, decide_eq_false_iff_not] at h ⊢
  omega
theorem opens_cases (k : Int) (h : opens k = true) : k = 0 ∨ k = 2 ∨ k = 4 := by
  unfold opens at h
  simp only [Bool.or_eq_true, decide_eq_true_eq] at h
  omega
end Ev
open Go.Proofs.YtbimjdlkffbncaaDoor.Ev
namespace Evn
open Go.RowKit

theorem quiet_same {P : Program} {f : FuncId} {args : Array Value} {w : World} {n : Nat} {v : Value}
    (h : Calls P f args (w.drewN n) fun e w' => e = .returned v ∧ w.drewN n = w') :
    Calls P f args (w.drewN n) fun e w'' => e = .returned v ∧ ∃ m, w'' = w.drewN m :=
  h.mono fun _ _ ⟨he, hm⟩ => ⟨he, n, hm.symm⟩
theorem below_drawn {B : Nat} {a w : World} (h : Below B a w) (n : Nat) : Below B a (w.drewN n) := ⟨h.os, h.tape, h.output, h.size, h.block⟩
theorem opn_drawn {w : World} {B : Nat} {v : Value} {gs : List Grp} (h : Opn w B v gs) (n : Nat) : Opn (w.drewN n) B v gs := h.below ⟨rfl, rfl, rfl, Nat.le_refl _, fun _ _ => rfl⟩

theorem Opn.room {w : World} {B b : Nat} {v : Value} {gs : List Grp} (h : Opn w B v gs) (hb : w.heap.size = b) : (∀ x ∈ gs, x.b + 1 < b) ∧ (∀ k, v.ownBlock = some k → k < b) :=
  ⟨fun x hx => by have := (h.at_ x hx).2.1.lt; omega, fun k hk => by have := (World.ownsRow.lt h.row k hk).2; omega⟩
theorem Opn.same {w : World} {B : Nat} {v u : Value} {gs gs' : List Grp} (h : Opn w B v gs) (hv : v = u) (hg : gs = gs') : Opn w B u gs' := by subst hv hg; exact h

theorem slice_eq {a a' : Option Addr} {n n' c c' : Nat} (h1 : a = a') (h2 : n = n') (h3 : c = c') : Value.slice a n c = Value.slice a' n' c' := by subst h1 h2 h3; rfl
theorem closes0 (n : Nat) (k : Int) : (decide (k = 1) && decide (n = 1)) = Ev.closes 0 n k := by simp [Ev.closes]
theorem closes2 (n : Nat) (k : Int) : decide (k = 3) = Ev.closes 2 n k := by simp [Ev.closes]
theorem closes4 (n : Nat) (k : Int) : (decide (k = 5) && decide (n % 2 = 0)) = Ev.closes 4 n k := by simp [Ev.closes]

set_option maxHeartbeats 8000000 in
set_option maxRecDepth 100000 in
theorem isNested_any (v : Value) (es : List Ev.E) (w : World) (h : RdE w w.heap.size v es) (hl : es.length ≤ 1000000) :
    Calls Tryd.prog 56 #[v] w fun e w' => e = .returned (.bool (Ev.nested (Ev.kinds es))) ∧ Below w.heap.size w w' := by
  obtain ⟨a, c, rfl, hc, hcl⟩ := h
  obtain ⟨ANS, hANS⟩ : ∃ ANS, Ev.nested (Ev.kinds es) = ANS := ⟨_, rfl⟩
  rw [hANS]
  have HA : Hid (Ev.closed (Ev.run (stOf []) ((Ev.kinds es).drop 0)) = ANS) := by show _ = _; rw [List.drop_zero, ← hANS, Ev.nested_closed]; rfl
  have HC := Lib.hid hcl
  clear hANS hcl
  go_enter Tryd.func56, Tryd.ntmps56
  go_wp2
  go_loopw [3, 10] (fun ov i wr => ∃ (j : Nat) (gs : List Grp), j ≤ es.length ∧ i = .int .i64 j ∧ Opn wr w.heap.size ov gs ∧ (∀ g ∈ gs, g.n ≤ j) ∧ gs.length ≤ j ∧ Hid (Ev.closed (Ev.run (stOf gs) ((Ev.kinds es).drop j)) = ANS) ∧ Below w.heap.size w wr) (fun _ i _ => es.length - (intOf i).toNat)
  case atStart => exact ⟨0, [], by omega, rfl, Opn.nil _ _, (fun g hg => by cases hg), by simp, HA, Below.refl _ _⟩
  case round =>
    obtain ⟨j, gs, hj, rfl, hop, hgn, hgl, HK, hbw⟩ := hrel
    clear HA
    have hBr := hbw.size
    obtain ⟨N, hN⟩ : ∃ N, gs.length = N := ⟨_, rfl⟩
    have hrow := hop.row
    rw [hN] at hrow
    obtain ⟨va, vc, rfl⟩ := own_slice hrow
    clear hrow
    have HOP := Lib.hid hop
    have HGN := Lib.hid hgn
    clear hgn
    by_cases hlt : j < es.length
    · obtain ⟨g, o, rfl, hg, hcl⟩ := HC.out (by omega)
      obtain ⟨c0, c1, c2, c3, c4⟩ := (hcl j hlt).below hbw hg
      have hK := HK.out
      rw [Ev.kinds_drop es j hlt] at hK
      unfold Ev.run at hK
      clear hcl HK
      generalize es[j].kind = k at *
      generalize es[j] = x at *
      have cN := Lib.hid (fun w => isNode_any k w)
      rcases List.eq_nil_or_concat gs with rfl | ⟨gi, p, rfl⟩
      · have hN0 : N = 0 := hN.symm
        subst hN0
        by_cases k0 : k = 0
        · subst k0
          rw [show Ev.isNode 0 = false from rfl] at cN
          have HK : Hid (Ev.closed (Ev.run (stOf [⟨0, 0, 0⟩]) ((Ev.kinds es).drop (j + 1))) = ANS) := hK
          clear hK hop
          go_wp2_with (first
            | (go_at_call 54; refine (cN.out _).mono ?_; rintro e w' ⟨rfl, rfl⟩)
            | (go_at_call 93; refine (opened_grp 0 _ (.inl rfl)).mono ?_; rintro e w2 ⟨b, rfl, hb, hb2, hs2, h58, h59⟩; have HP2 := Lib.hid (((HOP.out.below (bnew wr _)).below hb2)); have HR := Lib.hid ((HOP.out.below (bnew wr _)).room hb); have HB2 := Lib.hid (bthen (bnew wr _) hb2); have HG := Lib.hid (And.intro h58 h59); have hgB : w.heap.size ≤ b := (by rw [← hb, World.size_alloc]; omega); clear h58 h59 hb2)
            | (at_builtin; refine wpList_pushG rfl (.tmp 61) (.tmp 63) rfl w.heap.size (.slice va 0 vc) [] ⟨0, 0, b⟩ w2 _ _ rfl _ rfl ?ga ?hC ?hown ?hG ?gB ?h1 ?h2 ?h3 ?h4 ?_; (case ga => rfl); (case hC => rfl); (case hown => exact HP2.out); (case hG => exact HG.out); (case gB => exact hgB); (case h1 => exact HR.out.1); (case h2 => exact HR.out.2); (case h3 => exact .inl rfl); (case h4 => simp); intro v' w3 ho3 hb3 hB3))
          go_roundw
          case rel => exact ⟨j + 1, [] ++ [⟨0, 0, b⟩], by omega, by go_num, ho3, (fun g hg => by simp at hg; subst hg; simp), by simp, HK, hbw.trans ((HB2.out.mono hBr).trans hb3)⟩
          case measure => simp [intOf]; omega
        · have b0 : (k == 0) = false := beq_eq_false_iff_ne.2 k0
          rw [show stOf [] = [] from rfl, Ev.step_base k k0] at hK
          obtain rfl : ANS = false := by rw [← hK]; rfl
          clear hK hop
          go_wp2_with (go_at_call 54; refine (cN.out _).mono ?_; rintro e w' ⟨rfl, rfl⟩)
          go_ret
          exact ⟨rfl, hbw.alloc hBr _⟩
      · rw [List.concat_eq_append] at *
        obtain ⟨gb, c', hvf, hcc, hgb, hcell⟩ := hop.form
        obtain ⟨rfl, hNM, rfl⟩ : va = some ⟨gb, 0, none⟩ ∧ N = gi.length + 1 ∧ vc = c' := by injection hvf with e1 e2 e3; exact ⟨e1, e2, e3⟩
        have hM : gi.length = N - 1 := by omega
        rw [hM] at hcell
        obtain ⟨pB, pA, pn1, pn2, pk5⟩ := hop.at_ p (by simp)
        have hpn := HGN.out p (by simp)
        obtain ⟨pk, pn, pb⟩ := p
        simp only at pB pA pn1 pn2 pk5 hpn
        have hcell' : wr.cell? ⟨gb, N - 1, none⟩ = some (.pointer (some ⟨pb, 0, none⟩)) := hcell
        have hpl := pA.lt
        simp only at hpl
        have hpb : pb < wr.heap.size := by omega
        have d0 : wr.cell? ⟨pb, 0, none⟩ = some (.int .i64 pn) := cell_blk pA.1 0 _ rfl
        have f0 : wr.frozen? ⟨pb, 0, none⟩ = false := frozen_blk pA.1 0
        have d1 : wr.cell? ⟨pb, 1, none⟩ = some (closer pk pb) := cell_blk pA.1 1 _ rfl
        have HGA : Hid (∀ o n, GrpAt ((wr.alloc o).drewN n) ⟨pk, pn, pb⟩) := fun o n => pA.kept ((bnew wr o).block _ (by simp only; omega)) ((bnew wr o).block _ (by simp only; omega))
        have i1 : (1 : Int) ≤ (N : Int) := by omega
        have i2 : (0 : Int) ≤ (N : Int) - 1 := by omega
        have i3 : ((N : Int) - 1).toNat = N - 1 := by omega
        have i4 : (N : Int) - 1 < (N : Int) := by omega
        have i5 : decide ((N : Int) - 1 < 0) = false := decide_eq_false (by omega)
        have hNb : N ≤ 1000001 := by omega
        have hNj : N ≤ j := by rw [← hN]; exact hgl
        have i6 : ¬ ((vc : Int) < (N : Int) - 1) := by omega
        have HN : Hid (gi.length = N - 1 ∧ gi.length + 1 ≤ vc ∧ (∀ g ∈ gi, g.n ≤ j)) := ⟨hM, hcc, fun g hg => HGN.out g (by simp [hg])⟩
        clear hcell pA hop hvf pn1 pn2 hgl hM hNM hN hpl hcc HGN
        by_cases k0 : k = 0
        · subst k0
          rw [stOf_snoc, Ev.step_zero] at hK
          obtain rfl : ANS = false := by rw [← hK]; rfl
          clear hK cN
          go_wp2
          go_ret
          exact ⟨rfl, hbw.alloc hBr _⟩
        · have b0 : (k == 0) = false := beq_eq_false_iff_ne.2 k0
          cases hnd : Ev.isNode k
          · rw [hnd] at cN
            have hopk := Ev.opens_node k k0 hnd
            have cO := Lib.hid (fun w => opened_none k w hopk)
            rw [stOf_snoc] at hK
            clear hopk
            cases hcs : Ev.closes pk pn k
            · rw [Ev.step_bad _ _ _ _ k0 hnd hcs] at hK
              obtain rfl : ANS = false := by rw [← hK]; rfl
              clear hK hnd
              rcases pk5 with rfl | rfl | rfl
              · have CC := Lib.hid (fun W (h : GrpAt W ⟨0, pn, pb⟩) => closes_doc k pn pb _ W h.1 h.2)
                rw [closes0, hcs] at CC
                have d1' : wr.cell? ⟨pb, 1, none⟩ = some (.func (.func 113) #[] #[.pointer (some ⟨pb + 1, 0, none⟩)]) := d1
                clear hcs d1
                go_wp2_with (go_at_call 54; refine (cN.out _).mono ?_; rintro e w' ⟨rfl, rfl⟩)
                go_quiet ((go_at_call 113; exact quiet_same (CC.out _ (HGA.out _ _))))
                go_wp2
                go_ret
                exact ⟨rfl, below_drawn (hbw.alloc hBr _) _⟩
              · have CC := Lib.hid (fun W (_h : GrpAt W ⟨2, pn, pb⟩) => closes_seq k W)
                rw [closes2 pn, hcs] at CC
                have d1' : wr.cell? ⟨pb, 1, none⟩ = some (.func (.func 114) #[] #[]) := d1
                clear hcs d1
                go_wp2_with (go_at_call 54; refine (cN.out _).mono ?_; rintro e w' ⟨rfl, rfl⟩)
                go_quiet ((go_at_call 114; exact quiet_same (CC.out _ (HGA.out _ _))))
                go_wp2
                go_ret
                exact ⟨rfl, below_drawn (hbw.alloc hBr _) _⟩
              · have CC := Lib.hid (fun W (h : GrpAt W ⟨4, pn, pb⟩) => closes_map k pn pb _ W h.1 h.2)
                rw [closes4, hcs] at CC
                have d1' : wr.cell? ⟨pb, 1, none⟩ = some (.func (.func 115) #[] #[.pointer (some ⟨pb + 1, 0, none⟩)]) := d1
                clear hcs d1
                go_wp2_with (go_at_call 54; refine (cN.out _).mono ?_; rintro e w' ⟨rfl, rfl⟩)
                go_quiet ((go_at_call 115; exact quiet_same (CC.out _ (HGA.out _ _))))
                go_wp2
                go_ret
                exact ⟨rfl, below_drawn (hbw.alloc hBr _) _⟩
            · rw [Ev.step_close _ _ _ _ k0 hnd hcs] at hK
              have HK : Hid (Ev.closed (Ev.run (stOf gi) ((Ev.kinds es).drop (j + 1))) = ANS) := hK
              clear hK hnd
              rcases pk5 with rfl | rfl | rfl
              · have CC := Lib.hid (fun W (h : GrpAt W ⟨0, pn, pb⟩) => closes_doc k pn pb _ W h.1 h.2)
                rw [closes0, hcs] at CC
                have d1' : wr.cell? ⟨pb, 1, none⟩ = some (.func (.func 113) #[] #[.pointer (some ⟨pb + 1, 0, none⟩)]) := d1
                clear hcs d1
                go_wp2_with (go_at_call 54; refine (cN.out _).mono ?_; rintro e w' ⟨rfl, rfl⟩)
                go_quiet ((go_at_call 113; exact quiet_same (CC.out _ (HGA.out _ _))))
                go_wp2_with (go_at_call 93; refine (cO.out _).mono ?_; rintro e w2 ⟨rfl, hb2⟩; have HP2 := Lib.hid ((Opn.below (opn_drawn (HOP.out.pop.below (bnew wr _)) _) hb2)); have HB2 := Lib.hid (bthen (below_drawn (hbw.alloc hBr _) _) hb2); clear hb2)
                go_roundw
                case rel => exact ⟨j + 1, gi, by omega, by go_num, HP2.out.same (slice_eq rfl (by have := HN.out.1; omega) rfl) rfl, (fun g hg => by have := HN.out.2.2 g hg; omega), by have := HN.out.1; omega, HK, HB2.out⟩
                case measure => simp [intOf]; omega
              · have CC := Lib.hid (fun W (_h : GrpAt W ⟨2, pn, pb⟩) => closes_seq k W)
                rw [closes2 pn, hcs] at CC
                have d1' : wr.cell? ⟨pb, 1, none⟩ = some (.func (.func 114) #[] #[]) := d1
                clear hcs d1
                go_wp2_with (go_at_call 54; refine (cN.out _).mono ?_; rintro e w' ⟨rfl, rfl⟩)
                go_quiet ((go_at_call 114; exact quiet_same (CC.out _ (HGA.out _ _))))
                go_wp2_with (go_at_call 93; refine (cO.out _).mono ?_; rintro e w2 ⟨rfl, hb2⟩; have HP2 := Lib.hid ((Opn.below (opn_drawn (HOP.out.pop.below (bnew wr _)) _) hb2)); have HB2 := Lib.hid (bthen (below_drawn (hbw.alloc hBr _) _) hb2); clear hb2)
                go_roundw
                case rel => exact ⟨j + 1, gi, by omega, by go_num, HP2.out.same (slice_eq rfl (by have := HN.out.1; omega) rfl) rfl, (fun g hg => by have := HN.out.2.2 g hg; omega), by have := HN.out.1; omega, HK, HB2.out⟩
                case measure => simp [intOf]; omega
              · have CC := Lib.hid (fun W (h : GrpAt W ⟨4, pn, pb⟩) => closes_map k pn pb _ W h.1 h.2)
                rw [closes4, hcs] at CC
                have d1' : wr.cell? ⟨pb, 1, none⟩ = some (.func (.func 115) #[] #[.pointer (some ⟨pb + 1, 0, none⟩)]) := d1
                clear hcs d1
                go_wp2_with (go_at_call 54; refine (cN.out _).mono ?_; rintro e w' ⟨rfl, rfl⟩)
                go_quiet ((go_at_call 115; exact quiet_same (CC.out _ (HGA.out _ _))))
                go_wp2_with (go_at_call 93; refine (cO.out _).mono ?_; rintro e w2 ⟨rfl, hb2⟩; have HP2 := Lib.hid ((Opn.below (opn_drawn (HOP.out.pop.below (bnew wr _)) _) hb2)); have HB2 := Lib.hid (bthen (below_drawn (hbw.alloc hBr _) _) hb2); clear hb2)
                go_roundw
                case rel => exact ⟨j + 1, gi, by omega, by go_num, HP2.out.same (slice_eq rfl (by have := HN.out.1; omega) rfl) rfl, (fun g hg => by have := HN.out.2.2 g hg; omega), by have := HN.out.1; omega, HK, HB2.out⟩
                case measure => simp [intOf]; omega
          · rw [hnd] at cN
            rw [stOf_snoc, Ev.step_node _ _ _ _ k0 hnd, Option.bind_some] at hK
            have hu : Value.int .i64 ((pn : Int) + 1) = .int .i64 ((pn + 1 : Nat) : Int) := by simp
            have hpn2 : pn ≤ 1000000 := by omega
            have HBS := Lib.hid (hbw.setCell (p := ⟨pb, 0, none⟩) pB (.int .i64 ((pn : Int) + 1)))
            have HBP : Hid (Opn (wr.setCell ⟨pb, 0, none⟩ (.int .i64 ((pn : Int) + 1))) w.heap.size (.slice (some ⟨gb, 0, none⟩) N vc) (gi ++ [⟨pk, pn + 1, pb⟩])) := Opn.bump HOP.out _ hu
            clear hnd d1
            cases hop : Ev.opens k
            · have HK : Hid (Ev.closed (Ev.run (stOf (gi ++ [⟨pk, pn + 1, pb⟩])) ((Ev.kinds es).drop (j + 1))) = ANS) := by
                show _ = _
                rw [stOf_snoc]
                unfold Ev.push at hK
                rw [hop, if_neg (by decide)] at hK
                exact hK
              have cO := Lib.hid (fun w => opened_none k w hop)
              clear hK hop
              go_wp2_with (first
                | (go_at_call 54; refine (cN.out _).mono ?_; rintro e w' ⟨rfl, rfl⟩)
                | (go_at_call 93; refine (cO.out _).mono ?_; rintro e w2 ⟨rfl, hb2⟩; have HP2 := Lib.hid ((HBP.out.below (bnew _ _)).below hb2); have HB2 := Lib.hid (bthen (bthen HBS.out (bnew _ _)) hb2); clear hb2))
              go_roundw
              case rel => exact ⟨j + 1, gi ++ [⟨pk, pn + 1, pb⟩], by omega, by go_num, HP2.out, (fun g hg => by rcases List.mem_append.1 hg with hg | hg; (have := HN.out.2.2 g hg; omega); (simp only [List.mem_cons, List.not_mem_nil, or_false] at hg; subst hg; simp only; omega)), by have := HN.out.1; rw [List.length_append, List.length_singleton]; omega, HK, HB2.out⟩
              case measure => simp [intOf]; omega
            · have HK : Hid (∀ b, Ev.closed (Ev.run (stOf ((gi ++ [⟨pk, pn + 1, pb⟩]) ++ [⟨k, 0, b⟩])) ((Ev.kinds es).drop (j + 1))) = ANS) := by
                intro b
                rw [stOf_snoc, stOf_snoc]
                unfold Ev.push at hK
                rw [hop, if_pos rfl] at hK
                exact hK
              have cO := Lib.hid (fun w => opened_grp k w (Ev.opens_cases k hop))
              have hkk := Lib.hid (Ev.opens_cases k hop)
              clear hK hop
              go_wp2_with (first
                | (go_at_call 54; refine (cN.out _).mono ?_; rintro e w' ⟨rfl, rfl⟩)
                | (go_at_call 93; refine (cO.out _).mono ?_; rintro e w2 ⟨b, rfl, hb, hb2, hs2, h58, h59⟩; have HP2 := Lib.hid ((HBP.out.below (bnew _ _)).below hb2); have HR := Lib.hid ((HBP.out.below (bnew _ _)).room hb); have HB2 := Lib.hid (bthen (bthen HBS.out (bnew _ _)) hb2); have HG := Lib.hid (And.intro h58 h59); have hgB : w.heap.size ≤ b := (by rw [← hb]; exact (bthen HBS.out (bnew _ _)).size); clear h58 h59 hb2)
                | (at_builtin; refine wpList_pushG rfl (.tmp 61) (.tmp 63) rfl w.heap.size (.slice (some ⟨gb, 0, none⟩) N vc) (gi ++ [⟨pk, pn + 1, pb⟩]) ⟨k, 0, b⟩ w2 _ _ rfl _ rfl ?ga ?hC ?hown ?hG ?gB ?h1 ?h2 ?h3 ?h4 ?_; (case ga => rfl); (case hC => rfl); (case hown => exact HP2.out); (case hG => exact HG.out); (case gB => exact hgB); (case h1 => exact HR.out.1); (case h2 => exact HR.out.2); (case h3 => exact hkk.out); (case h4 => have := HN.out.1; rw [List.length_append, List.length_singleton]; omega); intro v' w3 ho3 hb3 hB3))
              go_roundw
              case rel => exact ⟨j + 1, (gi ++ [⟨pk, pn + 1, pb⟩]) ++ [⟨k, 0, b⟩], by omega, by go_num, ho3, (fun g hg => by rcases List.mem_append.1 hg with hg | hg; (rcases List.mem_append.1 hg with hg | hg; (have := HN.out.2.2 g hg; omega); (simp only [List.mem_cons, List.not_mem_nil, or_false] at hg; subst hg; simp only; omega)); (simp only [List.mem_cons, List.not_mem_nil, or_false] at hg; subst hg; simp only; omega)), by have := HN.out.1; rw [List.length_append, List.length_append, List.length_singleton, List.length_singleton]; omega, Lib.hid (HK.out b), HB2.out.trans hb3⟩
              case measure => simp [intOf]; omega
    · have hje : j = es.length := by omega
      subst hje
      have hK := HK.out
      rw [List.drop_of_length_le (by rw [Ev.kinds_len]; exact Nat.le_refl _)] at hK
      have hD : decide (N = 0) = ANS := by
        rw [← hK, ← hN]
        rcases List.eq_nil_or_concat gs with rfl | ⟨gi, p, rfl⟩
        · rfl
        · simp [Ev.run, stOf, Ev.closed]
      have HD := Lib.hid hD
      clear hK HK hop hD
      by_cases hN0 : N = 0
      · subst hN0
        go_wp2
        go_ret
        exact ⟨ret_bool HD.out, hbw⟩
      · have bN : ((N : Int) == 0) = false := beq_eq_false_iff_ne.2 (by omega)
        have HF : Hid (false = ANS) := by show _ = _; rw [← HD.out]; simp [hN0]
        go_wp2
        go_ret
        exact ⟨ret_bool HF.out, hbw⟩
end Evn
end Go.Proofs.YtbimjdlkffbncaaDoor
namespace Go.Proofs.YtbimjdlkffbncaaDoor
open Go.Proofs.YtbimjdlkffbncaaDoor.Ev
namespace Evn
namespace Ev
/-- may there be such a row of events? -/
def right (es : List E) : Bool := decide (dmax (kinds es) ≤ 40) && (es.all filled && nested (kinds es))
theorem all_drop (es : List E) (j : Nat) (h : j < es.length) : (es.drop j).all filled = (filled es[j] && (es.drop (j + 1)).all filled) := by
  rw [List.drop_eq_getElem_cons h, List.all_cons]
end Ev
open Go.RowKit

set_option maxHeartbeats 4000000 in
set_option maxRecDepth 100000 in
theorem evRight_any (v : Value) (es : List Ev.E) (w : World) (h : RdE w w.heap.size v es) (hl : es.length ≤ 1000000) (hs : ∀ x ∈ es, Ev.Small x) (hE : Env w) :
    Calls Tryd.prog 26 #[v] w fun e w' => e = .returned (.bool (Ev.right es)) ∧ Below w.heap.size w w' := by
  have HR := Lib.hid h
  obtain ⟨a, c, rfl, hc, hcl⟩ := h
  have HC := Lib.hid hcl
  have HS := Lib.hid hs
  have HE := Lib.hid hE
  have cD := Lib.hid (depth_any _ es w HR.out hl)
  clear hs hE hcl
  have hd0 := Ev.dmax_nonneg (Ev.kinds es)
  have hd1 := Ev.dmax_le (Ev.kinds es)
  rw [Ev.kinds_len] at hd1
  by_cases hd : Ev.dmax (Ev.kinds es) ≤ 40
  · have hA : Ev.right es = (es.all Ev.filled && Ev.nested (Ev.kinds es)) := by unfold Ev.right; rw [decide_eq_true hd, Bool.true_and]
    rw [hA]
    clear hA
    have dd : decide ((40 : Int) < Ev.dmax (Ev.kinds es)) = false := decide_eq_false (by omega)
    generalize Ev.dmax (Ev.kinds es) = D at *
    obtain ⟨ANS, hANS⟩ : ∃ ANS, (es.all Ev.filled && Ev.nested (Ev.kinds es)) = ANS := ⟨_, rfl⟩
    rw [hANS]
    have HA : Hid (((es.drop 0).all Ev.filled && Ev.nested (Ev.kinds es)) = ANS) := by show _ = _; rw [List.drop_zero, hANS]
    clear hANS
    go_enter Tryd.func26, Tryd.ntmps26
    go_wp2_with (go_at_call 35; refine cD.out.mono ?_; rintro e w1 ⟨rfl, hb1⟩)
    go_loopw [10] (fun i wr => ∃ (j : Nat), j ≤ es.length ∧ i = .int .i64 j ∧ Hid (((es.drop j).all Ev.filled && Ev.nested (Ev.kinds es)) = ANS) ∧ Below w.heap.size w wr) (fun i _ => es.length - (intOf i).toNat)
    case atStart => exact ⟨0, by omega, rfl, HA, hb1⟩
    case round =>
      obtain ⟨j, hj, rfl, HK, hbw⟩ := hrel
      clear HA
      have hBr := hbw.size
      by_cases hlt : j < es.length
      · obtain ⟨g, o, rfl, hg, hcl⟩ := HC.out (by omega)
        obtain ⟨c0, c1, c2, c3, c4⟩ := (hcl j hlt).below hbw hg
        have hK := HK.out
        rw [Ev.all_drop es j hlt] at hK
        have cF := fun w hE => isFilled_any es[j] w (HS.out _ (List.getElem_mem hlt)) hE
        clear hcl HK
        cases hf : Ev.filled es[j]
        · rw [hf] at hK cF
          obtain rfl : ANS = false := by rw [← hK]; rfl
          have CF := Lib.hid cF
          clear hK hf cF
          generalize es[j] = x at *
          go_wp2_with (go_at_call 55; refine (CF.out _ ((HE.out.below hbw).below (bnew wr _))).mono ?_; rintro e w2 ⟨rfl, hb2⟩)
          go_ret
          exact ⟨rfl, bthen (hbw.alloc hBr _) hb2⟩
        · rw [hf] at hK cF
          rw [Bool.true_and] at hK
          have HK : Hid (((es.drop (j + 1)).all Ev.filled && Ev.nested (Ev.kinds es)) = ANS) := hK
          have CF := Lib.hid cF
          clear hK hf cF
          generalize es[j] = x at *
          go_wp2_with (go_at_call 55; refine (CF.out _ ((HE.out.below hbw).below (bnew wr _))).mono ?_; rintro e w2 ⟨rfl, hb2⟩)
          go_roundw
          case rel => exact ⟨j + 1, by omega, by go_num, HK, bthen (hbw.alloc hBr _) hb2⟩
          case measure => simp [intOf]; omega
      · have hje : j = es.length := by omega
        subst hje
        have hK := HK.out
        rw [List.drop_of_length_le (Nat.le_refl _)] at hK
        have HK2 : Hid (Ev.nested (Ev.kinds es) = ANS) := hK
        have cN := Lib.hid (isNested_any _ es wr ((HR.out.below hbw).mono hBr) hl)
        clear hK HK
        go_wp2_with (go_at_call 56; refine cN.out.mono ?_; rintro e w2 ⟨rfl, hb2⟩)
        go_ret
        exact ⟨ret_bool HK2.out, bthen hbw hb2⟩
  · have hA : Ev.right es = false := by unfold Ev.right; rw [decide_eq_false hd, Bool.false_and]
    rw [hA]
    clear hA
    have dd : (40 : Int) < Ev.dmax (Ev.kinds es) := by omega
    generalize Ev.dmax (Ev.kinds es) = D at *
    go_enter Tryd.func26, Tryd.ntmps26
    go_wp2_with (go_at_call 35; refine cD.out.mono ?_; rintro e w1 ⟨rfl, hb1⟩)
    go_ret
    exact ⟨rfl, hb1⟩
end Evn
end Go.Proofs.YtbimjdlkffbncaaDoor
