/-
  Walk of lex.Words.
-/
import Derived.Test.YtmhakkahclbbjaaGreatDoorLj
namespace Go.Proofs.YtmhakkahclbbjaaGreatDoor
namespace Lx
/-- the words from a place on, with fuel -/
def wordsGo (l : List UInt8) : Nat → Nat → Bool → Except Nat (List Wd)
  | 0, _, _ => .ok []
  | n + 1, k, d => if over l k then .ok [] else
    match wordAt l k d with
    | .error e => .error e
    | .ok (x, z) => match wordsGo l n (past l (k + z)) (d && decide (x.kind = 12)) with
      | .error e => .error e
      | .ok xs => .ok (x :: xs)
/-- THE WORDS of a line, or their error -/
def words (l : List UInt8) : Except Nat (List Wd) := if isLine l then wordsGo l (l.length + 1) (past l 0) true else .error 5
/-- what was told, and what is to come -/
def joinW (acc : List Wd) : Except Nat (List Wd) → Except Nat (List Wd)
  | .ok xs => .ok (acc ++ xs)
  | .error e => .error e
theorem joinW_step (acc : List Wd) (x : Wd) (r : Except Nat (List Wd)) : joinW acc (match r with
      | .error e => .error e
      | .ok xs => .ok (x :: xs)) = joinW (acc ++ [x]) r := by
  cases r <;> simp [joinW]
theorem wordAt_err (l : List UInt8) (k : Nat) (d : Bool) (e : Nat) (h : wordAt l k d = .error e) : e ≠ 0 := by
  unfold wordAt at h
  simp only at h
  repeat' split at h
  all_goals first
    | (cases h; done)
    | (cases h; assumption)
    | (cases h; decide)
theorem wordAt_size (l : List UInt8) (k : Nat) (d : Bool) (x : Wd) (z : Nat) (hk : k < l.length) (hb : isB (l.getD k 0) 32 = false) (h : wordAt l k d = .ok (x, z)) : 1 ≤ z ∧ k + z ≤ l.length ∧ x.kind = kindOf (l.drop k) d ∧ x.at_ = k := by
  unfold wordAt at h
  simp only at h
  split at h
  · cases h
  · split at h
    · rename_i hz
      have hl : 0 < (l.drop k).length := by rw [List.length_drop]; omega
      have h1 := sizeOf_le (l.drop k) (kindOf (l.drop k) d) hl (fun _ => by rw [List.getD_eq_getElem?_getD, List.getElem?_drop, Nat.add_zero, ← List.getD_eq_getElem?_getD]; exact hb) hz
      rw [List.length_drop] at h1
      split at h
      · cases h
        exact ⟨h1.1, by omega, rfl, rfl⟩
      · cases h
    · cases h
theorem wordsGo_err (l : List UInt8) : ∀ n k d e, wordsGo l n k d = .error e → e ≠ 0
  | 0, _, _, _, h => by cases h
  | n + 1, k, d, e, h => by
    unfold wordsGo at h
    split at h
    · cases h
    · split at h
      · rename_i he; cases h; exact wordAt_err _ _ _ _ he
      · split at h
        · rename_i he; cases h; exact wordsGo_err l n _ _ _ he
        · cases h
theorem words_err (l : List UInt8) (e : Nat) (h : words l = .error e) : e ≠ 0 := by
  unfold words at h
  split at h
  · exact wordsGo_err _ _ _ _ _ h
  · cases h; decide
end Lx
open Go.RowKit

def wordCells (ws : List Lx.Wd) : List Value := ws.flatMap fun x => [.int .i64 x.kind, .string (str x.text), .int .i64 x.at_]
theorem wordCells_len (ws : List Lx.Wd) : (wordCells ws).length = ws.length * 3 := by
  induction ws with
  | nil => rfl
  | cons x t ih =>
    have : wordCells (x :: t) = [.int .i64 x.kind, .string (str x.text), .int .i64 x.at_] ++ wordCells t := rfl
    rw [this, List.length_append, ih]; simp; omega
theorem wordCells_snoc (ws : List Lx.Wd) (x : Lx.Wd) : wordCells (ws ++ [x]) = wordCells ws ++ [.int .i64 x.kind, .string (str x.text), .int .i64 x.at_] := by
  unfold wordCells; rw [List.flatMap_append]; simp
/-- words that the call owns -/
def OwnW (w : World) (B : Nat) (v : Value) (ws : List Lx.Wd) : Prop := w.ownsRow B 32 3 v ws.length (wordCells ws)
theorem row_below {w w' : World} {B e z n : Nat} {v : Value} {xs : List Value} (h : w.ownsRow B e z v n xs) (hb : Below w.heap.size w w') : w'.ownsRow B e z v n xs := by
  obtain ⟨h1, h2⟩ := h
  refine ⟨h1, ?_⟩
  rcases h2 with h2 | ⟨g, cap, cur, hv, hB, hh, hr⟩
  · exact .inl h2
  · exact .inr ⟨g, cap, cur, hv, hB, (hb.block g (Array.getElem?_eq_some_iff.1 hh).1).trans hh, hr⟩
theorem infoW : (Tryz.prog.info? 32).map (fun i => (i.zero, i.size, i.bytes)) = some (some (.agg #[.int .i64 0, .string ⟨#[]⟩, .int .i64 0]), 3, 32) := by kernel_rfl

/-- 'append' of one word that was just laid, onto words that the call owns -/
theorem wpList_pushW {ops : Array Oper} {rest : List Oper} {o : Oper} {a : Act} {Q : Exit → Act → World → Prop} (hgd : o.guard = none) (s x : Operand)
    (ho : o.op = .call { callee := .builtin .append, args := #[s, x], argTypes := #[28, 28] }) (B : Nat) (v : Value) (ws : List Lx.Wd) (y : Lx.Wd) (w0 : World) (C : Array Value) (c : Nat)
    (hs : a.eval s = v) (ga : Nat) (hx : a.eval x = .slice (some ⟨ga, 0, none⟩) 1 c) (hga : ga = w0.heap.size) (hC : C = #[.int .i64 y.kind, .string (str y.text), .int .i64 y.at_]) (hown : OwnW w0 B v ws) (hl : ws.length ≤ 2000000) (hB : B ≤ w0.heap.size)
    (h : ∀ v' w', OwnW w' B v' (ws ++ [y]) → Below B w0 w' → B ≤ w'.heap.size → (∀ k, k < w0.heap.size → v.ownBlock ≠ some k → w'.heap[k]? = w0.heap[k]?) → wpList Tryz.prog ops Q rest (a.put o.dst v') w') :
    wpList Tryz.prog ops Q (o :: rest) a (w0.alloc (.cells C 32)) := by
  subst hC hga
  obtain ⟨i0, hi, hz0, hz1, hz2⟩ := info_parts infoW
  refine wpList_append_own _ hgd s x 28 ho B 32 i0 _ 3 32 Tryz.underlying28 hi hz0 hz1 hz2 rfl (by decide) v ws.length (wordCells ws) hs (World.ownsRow.alloc hown _) ⟨w0.heap.size, 0, none⟩ 1 c [.int .i64 y.kind, .string (str y.text), .int .i64 y.at_] hx rfl
    (fun j u hu => cells_of_new w0 32 [.int .i64 y.kind, .string (str y.text), .int .i64 y.at_] j u hu) (fun u hu => by simp only [List.mem_cons, List.not_mem_nil, or_false] at hu; rcases hu with rfl | rfl | rfl <;> rfl) (by simp only [maxLen]; omega) (by omega) (by rw [World.size_alloc]; omega) ?_
  intro v' w' ho' hg _
  have hk : Below B w0 w' := ((Below.refl B w0).alloc hB _).grown hg (by rw [World.size_alloc]; omega) (fun k hk => (World.ownsRow.lt hown k hk).1)
  refine h v' w' ?_ hk (Nat.le_trans hB hk.size) (fun k hk hne => ?_)
  · unfold OwnW
    rw [List.length_append, wordCells_snoc]
    exact ho'
  · rw [hg.block k (by rw [World.size_alloc]; omega) hne.symm]
    show (w0.heap.push _)[k]? = _
    rw [Array.getElem?_push, if_neg (by omega)]
end Go.Proofs.YtmhakkahclbbjaaGreatDoor
