/-
  Walks of scalar.numbered, escaped and Unquote.
  Walk of scalar.escaped.
  Walk of scalar.Unquote.
-/
import Derived.Test.YtbimjdlkffbncaaDoorWf
import Derived.Laws.IdiomStrings
import Derived.BigQuiet
import Derived.Deep.QuietTactic
namespace Go.Proofs.YtbimjdlkffbncaaDoor
open Go.RowKit

theorem digB_lt (b : UInt8) (d : Nat) (h : Sc.digB b = some d) : d < 16 := by
  unfold Sc.digB at h
  repeat' split at h
  all_goals first | (cases h; omega) | cases h

/-- the number that hexadecimal digits are -/
def hexNum : List UInt8 → Nat → Option Nat
  | [], n => some n
  | b :: t, n => match Sc.digB b with
    | none => none
    | some d => hexNum t (n * 16 + d)
/-- the character of so many digits behind a letter, and how many bytes: (0, 0): there is none -/
def numOf (l : List UInt8) (d : Nat) : Nat × Nat :=
  if l.length < 1 + d then (0, 0) else
    match hexNum ((l.drop 1).take d) 0 with
    | none => (0, 0)
    | some n => if Sc.isCh n then (n, 1 + d) else (0, 0)

theorem conv_bytes (s : ByteArray) (w : World) : ∃ cap C fr, (convert 9 133 (.string s)).run Tryd.prog w = .ok (.slice (some ⟨w.heap.size, 0, none⟩) s.size cap) (w.drew.alloc (.cells C 5 fr)) ∧ ∀ (k : Nat) (h : k < s.size), (w.alloc (.cells C 5 fr)).cell? ⟨w.heap.size, k, none⟩ = some (.int .u8 (s[k]'h).toNat) := by
  refine ⟨_, _, _, run_bytes_of_string (P := Tryd.prog) w 9 133 5 s Tryd.underlying9 Tryd.underlying133 Tryd.underlying5, fun k h => ?_⟩
  rw [World.cell?_alloc_mark]
  unfold bytesRow
  have hk : k < s.data.size := h
  simp [Array.getElem?_append]
  rw [if_pos h, Array.getElem?_eq_getElem hk]
  rfl

theorem or_dig (n d : Nat) (hn : n < 268435456) (hd : d < 16) : bits BinOp.or IntKind.u32 ((n : Int) * 16) (d : Int) = (n : Int) * 16 + d := by
  have hw : ∀ n : Int, 0 ≤ n → n < 2 ^ 32 → IntKind.u32.wrap n = n := fun n h0 h1 => by rw [IntKind.wrap_u32]; omega
  exact bits_join .u32 32 (by decide) hw 4 ((n : Int) * 16) d (by omega) (by omega) (by omega) (by omega) (by omega) (by omega)

end Go.Proofs.YtbimjdlkffbncaaDoor
namespace Go.Proofs.YtbimjdlkffbncaaDoor
open Go.RowKit

theorem bel_drewN {B : Nat} {a w : World} (h : Below B a w) (n : Nat) : Below B a (w.drewN n) := ⟨h.os, h.tape, h.output, h.size, h.block⟩
/-- the character of a letter -/
def charFrom (k b : Nat) : Option Nat := ((namedTab.drop k).find? fun p => p.2 == b).map (·.1)
theorem charFrom_step (k b : Nat) (h : k < 15) : charFrom k b = if lt k = b then some (ch k) else charFrom (k + 1) b := by
  unfold charFrom ch lt
  have : namedTab.drop k = namedTab.getD k (0, 0) :: namedTab.drop (k + 1) := by
    have hl : k < namedTab.length := h
    rw [List.drop_eq_getElem_cons hl]; simp [List.getD, hl]
  rw [this, List.find?_cons]
  generalize namedTab.getD k (0, 0) = x
  by_cases e : x.2 = b
  · have : (x.2 == b) = true := beq_iff_eq.2 e
    rw [this, if_pos e]; rfl
  · have : (x.2 == b) = false := beq_eq_false_iff_ne.2 e
    rw [this, if_neg e]
def nmR : Option Nat → Nat × Nat
  | some r => (r, 1)
  | none => (0, 0)
/-- the character of what stands behind a backslash, and its bytes: (0, 0): there is none -/
def escOf : List UInt8 → Nat × Nat
  | [] => (0, 0)
  | c :: t => if c.toNat = 47 then (47, 1) else if c.toNat = 120 then numOf (c :: t) 2 else if c.toNat = 117 then numOf (c :: t) 4 else if c.toNat = 85 then numOf (c :: t) 8 else nmR (charFrom 0 c.toNat)

def pairR (p : Nat × Nat) : Ending := .returned (.tuple #[.int .i32 p.1, .int .i64 p.2])

theorem ba_zero (s : ByteArray) (h : s.size = 0) : s = ⟨#[]⟩ := by
  cases s with
  | mk d => have hd : d.size = 0 := h
            rw [Array.size_eq_zero_iff] at hd; rw [hd]
end Go.Proofs.YtbimjdlkffbncaaDoor
namespace Go.Proofs.YtbimjdlkffbncaaDoor
open Go.RowKit

theorem charFrom_le (b r : Nat) (h : charFrom 0 b = some r) : r ≤ 10000 := by
  unfold charFrom at h
  obtain ⟨p, hp, rfl⟩ := Option.map_eq_some_iff.1 h
  have hm := List.mem_of_find?_eq_some hp
  have : ∀ q ∈ namedTab, q.1 ≤ 10000 := by decide
  exact this p (by simpa using hm)
theorem numOf_le (l : List UInt8) (d : Nat) : (numOf l d).1 ≤ 1114111 ∧ (numOf l d).2 ≤ l.length := by
  unfold numOf
  split
  · exact ⟨by simp, by simp⟩
  · rename_i hl
    cases hexNum ((l.drop 1).take d) 0 with
    | none => exact ⟨by simp, by simp⟩
    | some n =>
      simp only
      split
      · rename_i hc; unfold Sc.isCh at hc; exact ⟨by simp only; omega, by simp only; omega⟩
      · exact ⟨by simp, by simp⟩
theorem escOf_le (l : List UInt8) : (escOf l).1 ≤ 1114111 ∧ (escOf l).2 ≤ l.length := by
  cases l with
  | nil => simp [escOf]
  | cons c t =>
    simp only [escOf]
    repeat' split
    · simp
    · exact numOf_le _ _
    · exact numOf_le _ _
    · exact numOf_le _ _
    · cases h : charFrom 0 c.toNat with
      | none => simp [nmR]
      | some r => have := charFrom_le _ _ h; simp [nmR]; omega

/-- what stands between double quotes, with fuel -/
def unqGo : Nat → List UInt8 → Option (List UInt8)
  | 0, _ => some []
  | _ + 1, [] => some []
  | n + 1, b :: t =>
    if b.toNat = 34 ∨ b.toNat = 10 then none
    else if b.toNat = 92 then (if (escOf t).2 = 0 then none else (unqGo n (t.drop (escOf t).2)).map (Sc.enc (escOf t).1 ++ ·))
    else (unqGo n t).map ([b] ++ ·)
theorem unqGo_fuel : ∀ (n m : Nat) (l : List UInt8), l.length ≤ n → l.length ≤ m → unqGo n l = unqGo m l
  | 0, m, l, h, _ => by
    have : l = [] := List.eq_nil_of_length_eq_zero (by omega)
    subst this; cases m <;> rfl
  | n + 1, 0, l, _, h => by
    have : l = [] := List.eq_nil_of_length_eq_zero (by omega)
    subst this; rfl
  | n + 1, m + 1, [], _, _ => rfl
  | n + 1, m + 1, b :: t, h1, h2 => by
    simp only [List.length_cons] at h1 h2
    simp only [unqGo]
    rw [unqGo_fuel n m t (by omega) (by omega), unqGo_fuel n m (t.drop (escOf t).2) (by rw [List.length_drop]; omega) (by rw [List.length_drop]; omega)]
def unq (l : List UInt8) : Option (List UInt8) := unqGo l.length l
theorem unq_nil : unq [] = some [] := rfl
theorem unq_cons (b : UInt8) (t : List UInt8) : unq (b :: t) = if b.toNat = 34 ∨ b.toNat = 10 then none
    else if b.toNat = 92 then (if (escOf t).2 = 0 then none else (unq (t.drop (escOf t).2)).map (Sc.enc (escOf t).1 ++ ·)) else (unq t).map ([b] ++ ·) := by
  unfold unq
  simp only [List.length_cons, unqGo]
  rw [unqGo_fuel t.length (t.drop (escOf t).2).length (t.drop (escOf t).2) (by rw [List.length_drop]; omega) (Nat.le_refl _)]

/-- Unquote, by its bytes -/
def unquoteOf (l : List UInt8) : Option (List UInt8) :=
  if Lib.validD l = true ∧ 2 ≤ l.length ∧ l.head? = some 34 ∧ l.getLast? = some 34 then unq ((l.drop 1).take (l.length - 2)) else none

theorem own_below {w w' : World} {B : Nat} {v : Value} {l : List UInt8} (h : Own w B v l) (hb : Below w.heap.size w w') : Own w' B v l := by
  obtain ⟨h1, h2⟩ := h
  refine ⟨h1, ?_⟩
  rcases h2 with h2 | ⟨g, cap, cur, hv, hB, hh, hr⟩
  · exact .inl h2
  · exact .inr ⟨g, cap, cur, hv, hB, (hb.block g (Array.getElem?_eq_some_iff.1 hh).1).trans hh, hr⟩
/-- the loop's word: what was read, and what is left -/
def Joins (a : List UInt8) (o ANS : Option (List UInt8)) : Prop := o.map (a ++ ·) = ANS
theorem Joins.step {a x : List UInt8} {o ANS : Option (List UInt8)} (h : Joins a (o.map (x ++ ·)) ANS) : Joins (a ++ x) o ANS := by
  unfold Joins at *
  rw [← h, Option.map_map]
  congr 1
  funext y
  simp

theorem txtR_none : txtR none = .returned (.tuple #[.string ⟨#[]⟩, .int .i64 10]) := rfl
theorem ba_last (s : ByteArray) (h : 0 < s.size) : s.data.toList.getLast? = some s[s.size - 1] := by
  rw [List.getLast?_eq_getElem?, ← Lib.size_eq]
  exact Lib.data_getElem? s (s.size - 1) (by omega)
theorem ba_head (s : ByteArray) (h : 0 < s.size) : s.data.toList.head? = some s[0] := by
  rw [List.head?_eq_getElem?]
  exact Lib.data_getElem? s 0 h
theorem u8_34 (b : UInt8) : (b = 34) ↔ (b.toNat : Int) = 34 := ⟨fun h => by rw [h]; rfl, fun h => Sc.u8_eq 34 (by omega)⟩
end Go.Proofs.YtbimjdlkffbncaaDoor
