/-
  Plain mathematics: as many lines of a list, or of a map, tell as many entries, or pairs.
-/
import Derived.Test.YtjcfmghijfnehaaGreatDoorKe
namespace Go.Proofs.YtjcfmghijfnehaaGreatDoor
namespace Px
open Lx (Wd Ln)
/-- what stands behind the dash, or behind the colon -/
def vals : List (List UInt8) := [[], [32, 97], [32, 91, 93], [32, 38, 120, 32, 98], [32, 123, 99, 58, 32, 100, 125]]
def valR (r : Nat) : List UInt8 := vals.getD r []
def xs (i : Nat) : List UInt8 := Lib.repeatL [120] i
def rowP (k : Nat) : List UInt8 := 45 :: valR (k % 5)
def keyT (i : Nat) : List UInt8 := 107 :: xs i
def pairP (i k : Nat) : List UInt8 := keyT i ++ 58 :: valR (k % 5)
def rowsL (ks : List Nat) : List UInt8 := ks.flatMap fun k => rowP k ++ [10]
def pairsL : Nat → List Nat → List UInt8
  | _, [] => []
  | i, k :: t => pairP i k ++ 10 :: pairsL (i + 1) t
/-- the words of it, so far to the right -/
def wordsR (p : Nat) : Nat → List Wd
  | 0 => []
  | 1 => [⟨0, [97], p + 2⟩]
  | 2 => [⟨6, [], p + 2⟩, ⟨7, [], p + 3⟩]
  | 3 => [⟨3, [120], p + 2⟩, ⟨0, [98], p + 5⟩]
  | _ => [⟨8, [], p + 2⟩, ⟨0, [99], p + 3⟩, ⟨11, [], p + 4⟩, ⟨0, [100], p + 6⟩, ⟨9, [], p + 7⟩]
def bodyR : Nat → List Ev.E
  | 0 => []
  | 1 => [⟨6, [], [], [97], true⟩]
  | 2 => [ev 2, ev 3]
  | 3 => [⟨6, [120], [], [98], true⟩]
  | _ => [ev 4, ⟨6, [], [], [99], true⟩, ⟨6, [], [], [100], true⟩, ev 5]
def waitsR (r : Nat) : Bool := decide (r = 0)
def rowLn (k : Nat) : Ln := ⟨0, 0, ⟨12, [], 0⟩ :: wordsR 0 (k % 5), []⟩
def pairLn (i k : Nat) : Ln := ⟨0, 0, ⟨0, keyT i, 0⟩ :: ⟨11, [], i + 1⟩ :: wordsR (i + 1) (k % 5), []⟩
theorem five_cases (k : Nat) : k % 5 = 0 ∨ k % 5 = 1 ∨ k % 5 = 2 ∨ k % 5 = 3 ∨ k % 5 = 4 := by omega
theorem row_line (k : Nat) : Lx.lineOf (rowP k) = .ok (rowLn k) := by
  unfold rowP rowLn
  rcases five_cases k with h | h | h | h | h <;> rw [h] <;> kernel_rfl
theorem pair_all : (List.range 200).map (fun n => Lx.lineOf (pairP (n / 5) (n % 5))) = (List.range 200).map (fun n => (.ok (pairLn (n / 5) (n % 5)) : Except Nat Ln)) := by kernel_rfl
theorem pair_line (i k : Nat) (hi : i < 40) : Lx.lineOf (pairP i k) = .ok (pairLn i k) := by
  have h := congrArg (fun l => l[i * 5 + k % 5]?) pair_all
  have hk := Nat.mod_lt k (show 0 < 5 by decide)
  rw [List.getElem?_map, List.getElem?_map, List.getElem?_range (by omega)] at h
  simp only [Option.map_some, Option.some.injEq] at h
  have e1 : (i * 5 + k % 5) / 5 = i := by omega
  have e2 : (i * 5 + k % 5) % 5 = k % 5 := by omega
  rw [e1, e2] at h
  unfold pairP pairLn at h ⊢
  rw [Nat.mod_mod] at h
  exact h
theorem no10_val (k : Nat) : ∀ b ∈ valR (k % 5), b ≠ 10 := by
  rcases five_cases k with h | h | h | h | h <;> rw [h] <;> decide
theorem no10_row (k : Nat) : ∀ b ∈ rowP k, b ≠ 10 := by
  intro b hb
  unfold rowP at hb
  rcases List.mem_cons.1 hb with rfl | hb
  · decide
  · exact no10_val k b hb
theorem no10_pair (i k : Nat) : ∀ b ∈ pairP i k, b ≠ 10 := by
  intro b hb
  unfold pairP keyT xs at hb
  have hx : ∀ i, ∀ b ∈ Lib.repeatL [120] i, b ≠ 10 := by
    intro i
    induction i with
    | zero => intro b hb; simp [Lib.repeatL] at hb
    | succ i ih =>
      intro b hb
      have e : Lib.repeatL [120] (i + 1) = 120 :: Lib.repeatL [120] i := rfl
      rw [e] at hb
      rcases List.mem_cons.1 hb with rfl | hb
      · decide
      · exact ih b hb
  rcases List.mem_append.1 hb with hb | hb
  · rcases List.mem_cons.1 hb with rfl | hb
    · decide
    · exact hx i b hb
  · rcases List.mem_cons.1 hb with rfl | hb
    · decide
    · exact no10_val k b hb
theorem lastBar_val (ws : List Wd) (p r : Nat) (w : Wd) (hw : w.kind ≠ 13) : Lx.lastBar (ws ++ w :: wordsR p r) = false := by
  unfold Lx.lastBar
  have e : (ws ++ w :: wordsR p r).getLast? = (w :: wordsR p r).getLast? := by
    rw [List.getLast?_append]
    cases h : (w :: wordsR p r).getLast? with
    | none => simp at h
    | some x => rfl
  rw [e]
  rcases r with _ | _ | _ | _ | r
  · simp [wordsR, hw]
  · rfl
  · rfl
  · rfl
  · rfl
theorem rd_row (p : List UInt8) (x : Ln) (rest : List (List UInt8)) (h : Lx.lineOf p = .ok x) (hb : Lx.lastBar x.words = false) (hs : Lx.says x = true) : Lx.rd (p :: rest) = Lx.consL x (Lx.rd rest) := by
  rw [Lx.rd_cons, h]
  simp only
  rw [if_neg (by rw [hb]; decide), if_pos hs]
theorem read_rows (ks : List Nat) : Lx.read (rowsL ks) = .ok (ks.map rowLn) := by
  induction ks with
  | nil => rfl
  | cons k t ih =>
    have e : rowsL (k :: t) = rowP k ++ 10 :: rowsL t := by unfold rowsL; rw [List.flatMap_cons]; simp
    rw [Lx.read_rd] at ih ⊢
    rw [e, Lx.pieces_ten, Lx.pieces_one _ (no10_row k), List.singleton_append, rd_row _ _ _ (row_line k) (lastBar_val [] 0 _ ⟨12, [], 0⟩ (by decide)) (by unfold Lx.says rowLn; simp), ih]
    rfl
theorem read_pairs (ks : List Nat) : ∀ i, i + ks.length ≤ 40 → ∃ ls, Lx.read (pairsL i ks) = .ok ls ∧ ls = (ks.zipIdx i).map fun p => pairLn p.2 p.1 := by
  induction ks with
  | nil => intro i _; exact ⟨[], rfl, rfl⟩
  | cons k t ih =>
    intro i hi
    simp only [List.length_cons] at hi
    obtain ⟨ls, h1, h2⟩ := ih (i + 1) (by omega)
    refine ⟨pairLn i k :: ls, ?_, by rw [h2]; simp⟩
    unfold pairsL
    rw [Lx.read_rd] at h1 ⊢
    rw [Lx.pieces_ten, Lx.pieces_one _ (no10_pair i k), List.singleton_append, rd_row _ _ _ (pair_line i k (by omega)) (lastBar_val [⟨0, keyT i, 0⟩] (i + 1) _ ⟨11, [], i + 1⟩ (by simp)) (by unfold Lx.says pairLn; simp), h1]
    rfl
/-- the events of an entry -/
def rowEv (k : Nat) : List Ev.E := if k % 5 = 0 then [hole] else bodyR (k % 5)
def keyEv (i : Nat) : Ev.E := ⟨6, [], [], keyT i, true⟩
def pairEv : Nat → List Nat → List Ev.E
  | _, [] => []
  | i, k :: t => keyEv i :: (rowEv k ++ pairEv (i + 1) t)
def fl (w : Bool) (out : List Ev.E) : List Ev.E := if w then out ++ [hole] else out
def stR (kind : Int) (w : Bool) (out : List Ev.E) : St := ⟨[⟨kind, kind + 1, 0, w⟩, doc.still], nop, out⟩
theorem fl_body (k : Nat) (out : List Ev.E) : fl (waitsR (k % 5)) (out ++ bodyR (k % 5)) = out ++ rowEv k := by
  unfold fl waitsR rowEv
  by_cases h : k % 5 = 0
  · rw [h]; simp [bodyR]
  · simp [h]
theorem row_step (k : Nat) (w : Bool) (out : List Ev.E) : lineIn (stR 2 w out) (rowLn k) = .ok (stR 2 (waitsR (k % 5)) (fl w out ++ bodyR (k % 5))) := by
  unfold rowLn
  rcases five_cases k with h | h | h | h | h <;> rw [h]
  · show _ = Except.ok (stR 2 (waitsR 0) (fl w out ++ []))
    rw [List.append_nil]
    cases w <;> rfl
  all_goals cases w <;> rfl
theorem row_first (k : Nat) : lineIn st0 (rowLn k) = .ok (stR 2 (waitsR (k % 5)) ([ev 0, ev 2] ++ bodyR (k % 5))) := by
  unfold rowLn
  rcases five_cases k with h | h | h | h | h <;> rw [h] <;> rfl
theorem end_step (kind : Int) (w : Bool) (out : List Ev.E) : endDoc (stR kind w out) = ⟨[], nop, fl w out ++ [ev (kind + 1), ev 1]⟩ := by
  cases w
  · simp [endDoc, endGo, stR, close1, fl, doc, Bk.still]
  · simp [endDoc, endGo, stR, close1, fl, doc, Bk.still, nop, Pr.on, hole]
theorem rows_go (ks : List Nat) : ∀ w out, docsGo (ks.map rowLn) (stR 2 w out) = .ok ⟨[], nop, fl w out ++ ks.flatMap rowEv ++ [ev 3, ev 1]⟩ := by
  induction ks with
  | nil => intro w out; show Except.ok (endDoc _) = _; rw [end_step]; simp
  | cons k t ih =>
    intro w out
    rw [List.map_cons]
    unfold docsGo
    rw [row_step]
    simp only
    rw [ih, fl_body, List.flatMap_cons]
    simp
theorem text_rows (k : Nat) (t : List Nat) : text (rowsL (k :: t)) = .ok ([ev 0, ev 2] ++ (k :: t).flatMap rowEv ++ [ev 3, ev 1]) := by
  unfold text
  rw [read_rows]
  simp only
  unfold events
  rw [List.map_cons]
  unfold docsGo
  rw [row_first]
  simp only
  rw [rows_go, fl_body, List.flatMap_cons]
  simp [outOf]
theorem pair_step (i k : Nat) (w : Bool) (out : List Ev.E) : lineIn (stR 4 w out) (pairLn i k) = .ok (stR 4 (waitsR (k % 5)) ((fl w out ++ [keyEv i]) ++ bodyR (k % 5))) := by
  unfold pairLn
  rcases five_cases k with h | h | h | h | h <;> rw [h]
  · show _ = Except.ok (stR 4 (waitsR 0) ((fl w out ++ [keyEv i]) ++ []))
    rw [List.append_nil]
    cases w <;> rfl
  all_goals cases w <;> rfl
theorem pair_first (i k : Nat) : lineIn st0 (pairLn i k) = .ok (stR 4 (waitsR (k % 5)) ([ev 0, ev 4, keyEv i] ++ bodyR (k % 5))) := by
  unfold pairLn
  rcases five_cases k with h | h | h | h | h <;> rw [h] <;> rfl
theorem pairs_go (ks : List Nat) : ∀ i w out, docsGo ((ks.zipIdx i).map fun p => pairLn p.2 p.1) (stR 4 w out) = .ok ⟨[], nop, fl w out ++ pairEv i ks ++ [ev 5, ev 1]⟩ := by
  induction ks with
  | nil => intro i w out; show Except.ok (endDoc _) = _; rw [end_step]; simp [pairEv]
  | cons k t ih =>
    intro i w out
    rw [List.zipIdx_cons, List.map_cons]
    unfold docsGo
    simp only
    rw [pair_step]
    simp only
    rw [ih, fl_body]
    simp [pairEv]
theorem text_pairs (k : Nat) (t : List Nat) (h : t.length < 40) : text (pairsL 0 (k :: t)) = .ok ([ev 0, ev 4] ++ pairEv 0 (k :: t) ++ [ev 5, ev 1]) := by
  obtain ⟨ls, h1, h2⟩ := read_pairs (k :: t) 0 (by simp; omega)
  unfold text
  rw [h1, h2]
  simp only
  unfold events
  rw [List.zipIdx_cons, List.map_cons]
  unfold docsGo
  simp only
  rw [pair_first]
  simp only
  rw [pairs_go, fl_body]
  simp [outOf, pairEv]
/-- how many there are -/
theorem pair_count (ks : List Nat) : ∀ i, (pairEv i ks).length = (ks.flatMap rowEv).length + ks.length ∧ Ev.nodesOf ((pairEv i ks).map (·.kind)) = Ev.nodesOf ((ks.flatMap rowEv).map (·.kind)) + ks.length := by
  induction ks with
  | nil => intro i; exact ⟨rfl, rfl⟩
  | cons k t ih =>
    intro i
    obtain ⟨h1, h2⟩ := ih (i + 1)
    unfold pairEv
    rw [List.flatMap_cons]
    refine ⟨by simp only [List.length_cons, List.length_append]; omega, ?_⟩
    rw [List.map_cons, List.map_append, List.map_append, Ev.nodes_app]
    have e : ∀ l, Ev.nodesOf ((keyEv i).kind :: l) = Ev.nodesOf l + 1 := fun l => by
      unfold Ev.nodesOf; rw [List.countP_cons]; rfl
    rw [e, Ev.nodes_app, h2, List.length_cons]; omega
theorem rowEv_len (k : Nat) : (rowEv k).length ≤ 4 := by
  unfold rowEv
  rcases five_cases k with h | h | h | h | h <;> rw [h] <;> decide
theorem rows_len (ks : List Nat) : (ks.flatMap rowEv).length ≤ 4 * ks.length := by
  induction ks with
  | nil => simp
  | cons k t ih => have := rowEv_len k; rw [List.flatMap_cons, List.length_append, List.length_cons]; omega
theorem val_len (k : Nat) : (valR (k % 5)).length ≤ 7 := by
  rcases five_cases k with h | h | h | h | h <;> rw [h] <;> decide
end Px
end Go.Proofs.YtjcfmghijfnehaaGreatDoor
