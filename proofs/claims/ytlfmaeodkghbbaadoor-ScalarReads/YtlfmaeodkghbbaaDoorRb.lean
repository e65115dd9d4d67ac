/-
  Walks of the document's own small functions: Character, lead, Bytes, May; rows of integers that a call owns; slices that are read.
-/
import Derived.Test.YtlfmaeodkghbbaaDoorWf
import Derived.Test.YtlfmaeodkghbbaaDoorRa
namespace Go.Proofs.YtlfmaeodkghbbaaDoor
open Go.RowKit

/-- is an integer a character? -/
def chI (r : Int) : Bool := decide (0 ≤ r) && decide (r ≤ 1114111) && (decide (r < 55296) || decide (57343 < r))
theorem chI_nat (r : Nat) : chI (r : Int) = decide (Sc.isCh r) := by
  by_cases h : Sc.isCh r
  · rw [decide_eq_true h]; unfold chI; unfold Sc.isCh at h
    simp only [Bool.and_eq_true, Bool.or_eq_true, decide_eq_true_eq]; omega
  · rw [decide_eq_false h, Bool.eq_false_iff]; unfold chI; unfold Sc.isCh at h
    simp only [ne_eq, Bool.and_eq_true, Bool.or_eq_true, decide_eq_true_eq]; omega

set_option maxHeartbeats 1000000 in
set_option maxRecDepth 100000 in
theorem character_any (r : Int) (w : World) : Calls Tryd.prog 49 #[.int .i64 r] w fun e w' => e = .returned (.bool (chI r)) ∧ w = w' := by
  go_enter Tryd.func49, Tryd.ntmps49
  go_wp2
  all_goals go_ret
  all_goals exact ⟨ret_bool (by unfold chI; rw [Bool.eq_iff_iff]; simp at *; omega), rfl⟩

set_option maxHeartbeats 1000000 in
set_option maxRecDepth 100000 in
theorem lead_any (c : Nat) (w : World) (hc : c < 256) : Calls Tryd.prog 81 #[.int .i64 c] w fun e w' => e = .returned (.tuple #[.int .i64 (Sc.leadN c).1, .int .i64 (Sc.leadN c).2]) ∧ w = w' := by
  go_enter Tryd.func81, Tryd.ntmps81
  go_wp2
  all_goals go_ret2
  all_goals refine ⟨ret_ii ?_ ?_, rfl⟩
  all_goals unfold Sc.leadN
  all_goals (repeat' split) <;> simp <;> omega

/-- the document's May -/
def mayD (r : Int) : Bool := decide (r = 9) || decide (r = 10) || decide (r = 13) || (decide (32 ≤ r) && decide (r ≤ 126)) || decide (r = 133) || (chI r && decide (160 ≤ r) && !decide (r = 65279) && !decide (r = 65534) && !decide (r = 65535))
theorem mayD_eq (r : Int) : mayD r = Sc.mayB r := by
  unfold mayD Sc.mayB chI; rw [Bool.eq_iff_iff]; simp; omega
set_option maxHeartbeats 1000000 in
set_option maxRecDepth 100000 in
theorem mayR_any (r : Int) (w : World) : Calls Tryd.prog 30 #[.int .i64 r] w fun e w' => e = .returned (.bool (Sc.mayB r)) ∧ w = w' := by
  rw [← mayD_eq]
  go_enter Tryd.func30, Tryd.ntmps30
  go_wp2_with (go_at_call 49; refine (character_any _ _).mono ?_; rintro e w' ⟨rfl, rfl⟩)
  all_goals go_ret
  all_goals exact ⟨ret_bool (by unfold mayD; unfold chI at *; rw [Bool.eq_iff_iff]; simp at *; omega), rfl⟩

set_option maxHeartbeats 1000000 in
set_option maxRecDepth 1000000 in
/-- Bytes of a character: a new slice of its bytes -/
theorem bytes_any (r : Nat) (w : World) (h : Sc.isCh r) :
    Calls Tryd.prog 50 #[.int .i64 r] w fun e w' => e = .returned (.slice (some ⟨w.heap.size, 0, none⟩) (Sc.enc r).length (Sc.enc r).length) ∧ w' = w.alloc (.cells (Lib.byteCells (Sc.enc r)).toArray 5) := by
  unfold Sc.isCh at h
  by_cases h1 : r ≤ 127
  · rw [Sc.enc1 r h1]
    have e1 : (Lib.byteCells [UInt8.ofNat r]).toArray = #[Value.int .u8 r] := by simp [Lib.byteCells]; omega
    rw [e1]
    go_enter Tryd.func50, Tryd.ntmps50
    go_wp2
    go_ret
    exact ⟨rfl, rfl⟩
  · by_cases h2 : r ≤ 2047
    · rw [Sc.enc2 r (by omega) h2]
      have e1 : (Lib.byteCells [UInt8.ofNat (192 + r / 64), UInt8.ofNat (128 + r % 64)]).toArray = #[Value.int .u8 (192 + (r : Int) / 64), Value.int .u8 (128 + (r : Int) % 64)] := by
        simp only [Lib.byteCells, List.map_cons, List.map_nil]
        rw [Sc.toNat_of _ (by omega), Sc.toNat_of _ (by omega)]; simp
      rw [e1]
      clear e1
      go_enter Tryd.func50, Tryd.ntmps50
      go_wp2
      go_ret
      exact ⟨rfl, rfl⟩
    · by_cases h3 : r ≤ 65535
      · rw [Sc.enc3 r (by omega)]
        have e1 : (Lib.byteCells [UInt8.ofNat (224 + r / 4096), UInt8.ofNat (128 + r / 64 % 64), UInt8.ofNat (128 + r % 64)]).toArray = #[Value.int .u8 (224 + (r : Int) / 4096), Value.int .u8 (128 + (r : Int) / 64 % 64), Value.int .u8 (128 + (r : Int) % 64)] := by
          simp only [Lib.byteCells, List.map_cons, List.map_nil]
          rw [Sc.toNat_of _ (by omega), Sc.toNat_of _ (by omega), Sc.toNat_of _ (by omega)]; simp
        rw [e1]
        clear e1
        have b1 : decide ((r : Int) < 128) = false := decide_eq_false (by omega)
        have b2 : decide ((r : Int) < 2048) = false := decide_eq_false (by omega)
        have b3 : decide ((r : Int) < 65536) = true := decide_eq_true (by omega)
        have hr0 : r ≤ 65535 := by omega
        clear h h1 h2 h3
        go_enter Tryd.func50, Tryd.ntmps50
        go_wp2
        go_ret
        exact ⟨rfl, rfl⟩
      · rw [Sc.enc4 r (by omega) (by omega)]
        have e1 : (Lib.byteCells [UInt8.ofNat (240 + r / 262144), UInt8.ofNat (128 + r / 4096 % 64), UInt8.ofNat (128 + r / 64 % 64), UInt8.ofNat (128 + r % 64)]).toArray = #[Value.int .u8 (240 + (r : Int) / 262144), Value.int .u8 (128 + (r : Int) / 4096 % 64), Value.int .u8 (128 + (r : Int) / 64 % 64), Value.int .u8 (128 + (r : Int) % 64)] := by
          simp only [Lib.byteCells, List.map_cons, List.map_nil]
          rw [Sc.toNat_of _ (by omega), Sc.toNat_of _ (by omega), Sc.toNat_of _ (by omega), Sc.toNat_of _ (by omega)]; simp
        rw [e1]
        clear e1
        have b1 : decide ((r : Int) < 128) = false := decide_eq_false (by omega)
        have b2 : decide ((r : Int) < 2048) = false := decide_eq_false (by omega)
        have b3 : decide ((r : Int) < 65536) = false := decide_eq_false (by omega)
        have hr0 : r ≤ 1114111 := by omega
        clear h h1 h2 h3
        go_enter Tryd.func50, Tryd.ntmps50
        go_wp2
        go_ret
        exact ⟨rfl, rfl⟩

/-- a slice of bytes that is read: it lies below block B -/
def RdB (w : World) (B : Nat) (a : Option Addr) (l : List UInt8) : Prop :=
  0 < l.length → ∃ g off, a = some ⟨g, off, none⟩ ∧ g < B ∧ ∀ (j : Nat) (h : j < l.length), w.cell? ⟨g, off + j, none⟩ = some (.int .u8 (l[j]'h).toNat)
/-- a slice of integers that is read -/
def RdI (w : World) (B : Nat) (a : Option Addr) (l : List Nat) : Prop :=
  0 < l.length → ∃ g off, a = some ⟨g, off, none⟩ ∧ g < B ∧ ∀ (j : Nat) (h : j < l.length), w.cell? ⟨g, off + j, none⟩ = some (.int .i64 (l[j]'h : Nat))
theorem RdB.below {w w' : World} {B : Nat} {a : Option Addr} {l : List UInt8} (h : RdB w B a l) (hb : Below B w w') : RdB w' B a l := fun h0 => by
  obtain ⟨g, off, e, hg, hc⟩ := h h0
  exact ⟨g, off, e, hg, fun j hj => (hb.cell (p := ⟨g, off + j, none⟩) hg).trans (hc j hj)⟩
theorem RdI.below {w w' : World} {B : Nat} {a : Option Addr} {l : List Nat} (h : RdI w B a l) (hb : Below B w w') : RdI w' B a l := fun h0 => by
  obtain ⟨g, off, e, hg, hc⟩ := h h0
  exact ⟨g, off, e, hg, fun j hj => (hb.cell (p := ⟨g, off + j, none⟩) hg).trans (hc j hj)⟩
theorem RdB.more {w : World} {B B' : Nat} {a : Option Addr} {l : List UInt8} (h : RdB w B a l) (hB : B ≤ B') : RdB w B' a l := fun h0 => by
  obtain ⟨g, off, e, hg, hc⟩ := h h0
  exact ⟨g, off, e, by omega, hc⟩
theorem RdI.more {w : World} {B B' : Nat} {a : Option Addr} {l : List Nat} (h : RdI w B a l) (hB : B ≤ B') : RdI w B' a l := fun h0 => by
  obtain ⟨g, off, e, hg, hc⟩ := h h0
  exact ⟨g, off, e, by omega, hc⟩
/-- the address of a cut -/
def cutA (a : Option Addr) (k : Nat) : Option Addr := a.map (·.add k)
theorem RdB.cut {w : World} {B : Nat} {a : Option Addr} {l : List UInt8} (h : RdB w B a l) (k : Nat) (hk : k < l.length) : RdB w B (cutA a k) (l.drop k) := fun h0 => by
  obtain ⟨g, off, rfl, hg, hc⟩ := h (by omega)
  have e : (⟨g, off, none⟩ : Addr).add k = ⟨g, off + k, none⟩ := by unfold Addr.add; split <;> simp_all
  refine ⟨g, off + k, by simp [cutA, e], hg, fun j hj => ?_⟩
  rw [List.length_drop] at hj
  rw [Nat.add_assoc, hc (k + j) (by omega), List.getElem_drop]
theorem RdI.cut {w : World} {B : Nat} {a : Option Addr} {l : List Nat} (h : RdI w B a l) (k : Nat) (hk : k < l.length) : RdI w B (cutA a k) (l.drop k) := fun h0 => by
  obtain ⟨g, off, rfl, hg, hc⟩ := h (by omega)
  have e : (⟨g, off, none⟩ : Addr).add k = ⟨g, off + k, none⟩ := by unfold Addr.add; split <;> simp_all
  refine ⟨g, off + k, by simp [cutA, e], hg, fun j hj => ?_⟩
  rw [List.length_drop] at hj
  rw [Nat.add_assoc, hc (k + j) (by omega), List.getElem_drop]
/-- integers that the call owns -/
def OwnI (w : World) (B : Nat) (v : Value) (l : List Nat) : Prop := w.ownsRow B 3 1 v l.length (l.map fun (r : Nat) => Value.int .i64 (r : Int))
theorem ownI_nil (w : World) (B : Nat) : OwnI w B (.slice none 0 0) [] := World.ownsRow_nil w B 3 1
theorem ownI_alloc {w : World} {B : Nat} {v : Value} {l : List Nat} (h : OwnI w B v l) (o : Obj) : OwnI (w.alloc o) B v l := World.ownsRow.alloc h o
theorem ownI_below {w w' : World} {B : Nat} {v : Value} {l : List Nat} (h : OwnI w B v l) (hb : Below w.heap.size w w') : OwnI w' B v l := by
  obtain ⟨h1, h2⟩ := h
  refine ⟨h1, ?_⟩
  rcases h2 with h2 | ⟨g, cap, cur, hv, hB, hh, hr⟩
  · exact .inl h2
  · exact .inr ⟨g, cap, cur, hv, hB, (hb.block g (Array.getElem?_eq_some_iff.1 hh).1).trans hh, hr⟩
/-- what is owned can be read -/
theorem OwnI.form {w : World} {B : Nat} {v : Value} {l : List Nat} (h : OwnI w B v l) : ∃ a cap, v = .slice a l.length cap ∧ l.length ≤ cap ∧ cap ≤ maxLen ∧ RdI w w.heap.size a l := by
  have h' := h
  rcases h.2 with ⟨rfl, h0⟩ | ⟨g, cap, cur, rfl, hB, hh, hn, hm, hr⟩
  · exact ⟨none, 0, by rw [h0], by omega, by decide, fun hp => absurd hp (by omega)⟩
  · refine ⟨_, cap, rfl, hn, hm, fun _ => ⟨g, 0, rfl, (Array.getElem?_eq_some_iff.1 hh).1, fun j hj => ?_⟩⟩
    have := World.ownsRow.cells h' (g := g) rfl j (.int .i64 (l[j] : Nat)) (by simp [hj])
    have e : (⟨g, 0, none⟩ : Addr).add j = ⟨g, 0 + j, none⟩ := by unfold Addr.add; split <;> simp_all
    rw [e] at this
    exact this
theorem Own.form {w : World} {B : Nat} {v : Value} {l : List UInt8} (h : Own w B v l) : ∃ a cap, v = .slice a l.length cap ∧ l.length ≤ cap ∧ cap ≤ maxLen ∧ RdB w w.heap.size a l := by
  have h' := h
  rcases h.2 with ⟨rfl, h0⟩ | ⟨g, cap, cur, rfl, hB, hh, hn, hm, hr⟩
  · exact ⟨none, 0, by rw [h0], by omega, by decide, fun hp => absurd hp (by omega)⟩
  · refine ⟨_, cap, rfl, hn, hm, fun _ => ⟨g, 0, rfl, (Array.getElem?_eq_some_iff.1 hh).1, fun j hj => ?_⟩⟩
    have := World.ownsRow.cells h' (g := g) rfl j (.int .u8 (l[j]).toNat) (by simp [Lib.byteCells, hj])
    have e : (⟨g, 0, none⟩ : Addr).add j = ⟨g, 0 + j, none⟩ := by unfold Addr.add; split <;> simp_all
    rw [e] at this
    exact this

theorem info3 : (Tryd.prog.info? 3).map (fun i => (i.zero, i.size, i.bytes)) = some (some (.int .i64 0), 1, 8) := by kernel_rfl
/-- 'append' of one integer that was just laid, onto integers that the call owns -/
theorem wpList_pushI {ops : Array Oper} {rest : List Oper} {o : Oper} {a : Act} {Q : Exit → Act → World → Prop} (hgd : o.guard = none) (s x : Operand)
    (ho : o.op = .call { callee := .builtin .append, args := #[s, x], argTypes := #[34, 34] }) (B : Nat) (v : Value) (l m : List Nat) (w0 : World) (C : Array Value) (n c : Nat)
    (hs : a.eval s = v) (ga : Nat) (hx : a.eval x = .slice (some ⟨ga, 0, none⟩) n c) (hga : ga = w0.heap.size) (hC : C = (m.map fun (r : Nat) => Value.int .i64 (r : Int)).toArray) (hm : n = m.length) (hown : OwnI w0 B v l) (hl : l.length + m.length ≤ 2000000) (hB : B ≤ w0.heap.size)
    (h : ∀ v' w', OwnI w' B v' (l ++ m) → Below B w0 w' → B ≤ w'.heap.size → wpList Tryd.prog ops Q rest (a.put o.dst v') w') :
    wpList Tryd.prog ops Q (o :: rest) a (w0.alloc (.cells C 3)) := by
  subst hC hm hga
  obtain ⟨i0, hi, hz0, hz1, hz2⟩ := info_parts info3
  refine wpList_append_own _ hgd s x 34 ho B 3 i0 (.int .i64 0) 1 8 Tryd.underlying34 hi hz0 hz1 hz2 rfl (by decide) v l.length (l.map fun (r : Nat) => Value.int .i64 (r : Int)) hs (ownI_alloc hown _) ⟨w0.heap.size, 0, none⟩ m.length c (m.map fun (r : Nat) => Value.int .i64 (r : Int)) hx (by rw [List.length_map, Nat.mul_one])
    (fun j u hu => cells_of_new w0 3 _ j u hu) (fun u hu => by simp only [List.mem_map] at hu; obtain ⟨b, _, rfl⟩ := hu; rfl) (by simp only [maxLen]; omega) (by omega) (by rw [World.size_alloc]; omega) ?_
  intro v' w' ho' hg _
  have hk : Below B w0 w' := ((Below.refl B w0).alloc hB _).grown hg (by rw [World.size_alloc]; omega) (fun k hk => (hown.lt k hk).1)
  refine h v' w' ?_ hk (Nat.le_trans hB hk.size)
  unfold OwnI
  rw [List.length_append, List.map_append]
  exact ho'
end Go.Proofs.YtlfmaeodkghbbaaDoor
