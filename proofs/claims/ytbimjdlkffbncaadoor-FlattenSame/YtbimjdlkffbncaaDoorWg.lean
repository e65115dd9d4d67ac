/-
  Walks of scalar.numbered, escaped and Unquote.
-/
import Derived.Test.YtbimjdlkffbncaaDoorWf
import Derived.Laws.IdiomStrings
namespace Go.Proofs.YtbimjdlkffbncaaDoor
open Go.RowKit

theorem digB_lt (b : UInt8) (d : Nat) (h : Sc.digB b = some d) : d < 16 := by
  unfold Sc.digB at h
  repeat' split at h
  all_goals first | (cases h; omega) | cases h

/-- the number that hexadecimal digits are -/
def hexNum : List UInt8 → Nat → Option Nat
  | [], n => some n
  | b :: t, n => match Sc.digB b with
    | none => none
    | some d => hexNum t (n * 16 + d)
/-- the character of so many digits behind a letter, and how many bytes: (0, 0): there is none -/
def numOf (l : List UInt8) (d : Nat) : Nat × Nat :=
  if l.length < 1 + d then (0, 0) else
    match hexNum ((l.drop 1).take d) 0 with
    | none => (0, 0)
    | some n => if Sc.isCh n then (n, 1 + d) else (0, 0)

theorem conv_bytes (s : ByteArray) (w : World) : ∃ cap C fr, (convert 9 133 (.string s)).run Tryd.prog w = .ok (.slice (some ⟨w.heap.size, 0, none⟩) s.size cap) (w.drew.alloc (.cells C 5 fr)) ∧ ∀ (k : Nat) (h : k < s.size), (w.alloc (.cells C 5 fr)).cell? ⟨w.heap.size, k, none⟩ = some (.int .u8 (s[k]'h).toNat) := by
  refine ⟨_, _, _, run_bytes_of_string (P := Tryd.prog) w 9 133 5 s Tryd.underlying9 Tryd.underlying133 Tryd.underlying5, fun k h => ?_⟩
  rw [World.cell?_alloc_mark]
  unfold bytesRow
  have hk : k < s.data.size := h
  simp [Array.getElem?_append]
  rw [if_pos h, Array.getElem?_eq_getElem hk]
  rfl

theorem or_dig (n d : Nat) (hn : n < 268435456) (hd : d < 16) : bits BinOp.or IntKind.u32 ((n : Int) * 16) (d : Int) = (n : Int) * 16 + d := by
  have hw : ∀ n : Int, 0 ≤ n → n < 2 ^ 32 → IntKind.u32.wrap n = n := fun n h0 h1 => by rw [IntKind.wrap_u32]; omega
  exact bits_join .u32 32 (by decide) hw 4 ((n : Int) * 16) d (by omega) (by omega) (by omega) (by omega) (by omega) (by omega)

end Go.Proofs.YtbimjdlkffbncaaDoor
