/-
  The lines of pieces: mathematics; lines that a call owns, and 'append' onto them.
-/
import Derived.Test.YtmhakkahclbbjaaGreatDoorLr
namespace Go.Proofs.YtmhakkahclbbjaaGreatDoor
namespace Lx
def consL (x : Ln) : Except Nat (List Ln) → Except Nat (List Ln)
  | .ok xs => .ok (x :: xs)
  | .error e => .error e
/-- the lines of pieces, with fuel -/
def readGo : Nat → List (List UInt8) → Except Nat (List Ln)
  | 0, _ => .ok []
  | _ + 1, [] => .ok []
  | n + 1, p :: t => match lineOf p with
    | .error e => .error e
    | .ok x => if lastBar x.words then
        (match textOf (t.take (textSize x.indent t)) with
        | .error e => .error e
        | .ok y => consL ⟨x.mark, x.indent, x.words, y⟩ (readGo n (t.drop (textSize x.indent t))))
      else if says x then consL x (readGo n t) else readGo n t
/-- THE LINES of a text, or their error -/
def read (l : List UInt8) : Except Nat (List Ln) := readGo (pieces l).length (pieces l)
def joinL (acc : List Ln) : Except Nat (List Ln) → Except Nat (List Ln)
  | .ok xs => .ok (acc ++ xs)
  | .error e => .error e
theorem joinL_cons (acc : List Ln) (x : Ln) (r : Except Nat (List Ln)) : joinL acc (consL x r) = joinL (acc ++ [x]) r := by
  cases r <;> simp [joinL, consL]
theorem textGo_err (off : Nat) (ps : List (List UInt8)) : ∀ e, textGo off ps = .error e → e ≠ 0 := by
  induction ps with
  | nil => intro e h; cases h
  | cons p t ih =>
    intro e h
    unfold textGo at h
    split at h
    · cases h; decide
    · split at h
      · split at h
        · cases h
        · rename_i he; cases h; exact ih _ he
      · split at h
        · cases h; decide
        · split at h
          · cases h
          · rename_i he; cases h; exact ih _ he
theorem lastBar_says (x : Ln) (h : lastBar x.words = true) : x.words.isEmpty = false := by
  cases hw : x.words with
  | nil => rw [hw] at h; cases h
  | cons a t => rfl
end Lx
open Go.RowKit

def lineCells (ps : List (Lx.Ln × Value)) : List Value := ps.flatMap fun p => [.int .i64 p.1.mark, .int .i64 p.1.indent, p.2, .string (str p.1.text)]
theorem lineCells_snoc (ps : List (Lx.Ln × Value)) (p : Lx.Ln × Value) : lineCells (ps ++ [p]) = lineCells ps ++ [.int .i64 p.1.mark, .int .i64 p.1.indent, p.2, .string (str p.1.text)] := by
  unfold lineCells; rw [List.flatMap_append]; simp
/-- lines that the call owns -/
def OwnL (w : World) (B : Nat) (v : Value) (ls : List Lx.Ln) : Prop :=
  ∃ ps : List (Lx.Ln × Value), ps.map (·.1) = ls ∧ w.ownsRow B 30 4 v ls.length (lineCells ps) ∧ ∀ p ∈ ps, OwnW w B p.2 p.1.words
theorem OwnL.below {w w' : World} {B : Nat} {v : Value} {ls : List Lx.Ln} (h : OwnL w B v ls) (hb : Below w.heap.size w w') : OwnL w' B v ls := by
  obtain ⟨ps, h1, h2, h3⟩ := h
  exact ⟨ps, h1, row_below h2 hb, fun p hp => row_below (h3 p hp) hb⟩
theorem ownL_nil (w : World) (B : Nat) : OwnL w B (.slice none 0 0) [] := ⟨[], rfl, World.ownsRow_nil _ _ _ _, fun p hp => by cases hp⟩
/-- rows of unlike types lie in unlike blocks -/
theorem own_ne {w : World} {B B' e e' z z' n m k : Nat} {v u : Value} {xs ys : List Value} (h : w.ownsRow B e z v n xs) (h' : w.ownsRow B' e' z' u m ys) (hne : e ≠ e') (hk : u.ownBlock = some k) : v.ownBlock ≠ some k := by
  intro hv
  rcases h.2 with ⟨rfl, _⟩ | ⟨g, cap, cur, rfl, _, hh, _⟩
  · cases hv
  · rcases h'.2 with ⟨rfl, _⟩ | ⟨g', cap', cur', rfl, _, hh', _⟩
    · cases hk
    · have e1 : g = k := by simpa [Value.ownBlock] using hv
      have e2 : g' = k := by simpa [Value.ownBlock] using hk
      subst e1; subst e2
      rw [hh] at hh'
      cases hh'; exact hne rfl
theorem row_kept {w w' : World} {B e z n : Nat} {v : Value} {xs : List Value} (h : w.ownsRow B e z v n xs) (hk : ∀ k, v.ownBlock = some k → w'.heap[k]? = w.heap[k]?) : w'.ownsRow B e z v n xs := by
  obtain ⟨h1, h2⟩ := h
  refine ⟨h1, ?_⟩
  rcases h2 with h2 | ⟨g, cap, cur, hv, hB, hh, hr⟩
  · exact .inl h2
  · exact .inr ⟨g, cap, cur, hv, hB, (hk g (by rw [hv]; rfl)).trans hh, hr⟩
theorem infoL : (Tryz.prog.info? 30).map (fun i => (i.zero, i.size, i.bytes)) = some (some (.agg #[.int .i64 0, .int .i64 0, .slice none 0 0, .string ⟨#[]⟩]), 4, 56) := by kernel_rfl

/-- 'append' of one line that was just laid, onto lines that the call owns -/
theorem wpList_pushL {ops : Array Oper} {rest : List Oper} {o : Oper} {a : Act} {Q : Exit → Act → World → Prop} (hgd : o.guard = none) (s x : Operand)
    (ho : o.op = .call { callee := .builtin .append, args := #[s, x], argTypes := #[24, 24] }) (B : Nat) (v : Value) (ls : List Lx.Ln) (y : Lx.Ln) (u : Value) (w0 : World) (C : Array Value) (c : Nat)
    (hs : a.eval s = v) (ga : Nat) (hx : a.eval x = .slice (some ⟨ga, 0, none⟩) 1 c) (hga : ga = w0.heap.size) (hC : C = #[.int .i64 y.mark, .int .i64 y.indent, u, .string (str y.text)]) (hown : OwnL w0 B v ls) (hu : OwnW w0 B u y.words) (hl : ls.length ≤ 2000000) (hB : B ≤ w0.heap.size)
    (h : ∀ v' w', OwnL w' B v' (ls ++ [y]) → Below B w0 w' → B ≤ w'.heap.size → (∀ k, k < w0.heap.size → v.ownBlock ≠ some k → w'.heap[k]? = w0.heap[k]?) → wpList Tryz.prog ops Q rest (a.put o.dst v') w') :
    wpList Tryz.prog ops Q (o :: rest) a (w0.alloc (.cells C 30)) := by
  subst hC hga
  obtain ⟨ps, hp1, hp2, hp3⟩ := hown
  obtain ⟨ua, uc, rfl⟩ := own_slice hu
  obtain ⟨i0, hi, hz0, hz1, hz2⟩ := info_parts infoL
  refine wpList_append_own _ hgd s x 24 ho B 30 i0 _ 4 56 Tryz.underlying24 hi hz0 hz1 hz2 rfl (by decide) v ls.length (lineCells ps) hs (World.ownsRow.alloc hp2 _) ⟨w0.heap.size, 0, none⟩ 1 c [.int .i64 y.mark, .int .i64 y.indent, .slice ua y.words.length uc, .string (str y.text)] hx rfl
    (fun j u hu => cells_of_new w0 30 [.int .i64 y.mark, .int .i64 y.indent, .slice ua y.words.length uc, .string (str y.text)] j u hu) (fun u hu => by simp only [List.mem_cons, List.not_mem_nil, or_false] at hu; rcases hu with rfl | rfl | rfl | rfl <;> rfl) (by simp only [maxLen]; omega) (by omega) (by rw [World.size_alloc]; omega) ?_
  intro v' w' ho' hg _
  have hk : Below B w0 w' := ((Below.refl B w0).alloc hB _).grown hg (by rw [World.size_alloc]; omega) (fun k hk => (World.ownsRow.lt hp2 k hk).1)
  have hkeep : ∀ k, k < w0.heap.size → v.ownBlock ≠ some k → w'.heap[k]? = w0.heap[k]? := fun k hk hne => by
    rw [hg.block k (by rw [World.size_alloc]; omega) hne.symm]
    show (w0.heap.push _)[k]? = _
    rw [Array.getElem?_push, if_neg (by omega)]
  have hkw : ∀ q ws, OwnW w0 B q ws → OwnW w' B q ws := fun q ws hq => row_kept hq fun k hk => hkeep k (World.ownsRow.lt hq k hk).2 (own_ne hp2 hq (by decide) hk)
  refine h v' w' ⟨ps ++ [(y, .slice ua y.words.length uc)], by rw [List.map_append, hp1]; rfl, ?_, ?_⟩ hk (Nat.le_trans hB hk.size) hkeep
  · rw [List.length_append, lineCells_snoc]
    exact ho'
  · intro p hp
    rcases List.mem_append.1 hp with hp | hp
    · exact hkw _ _ (hp3 p hp)
    · simp only [List.mem_cons, List.not_mem_nil, or_false] at hp
      subst hp
      exact hkw _ _ hu
end Go.Proofs.YtmhakkahclbbjaaGreatDoor
