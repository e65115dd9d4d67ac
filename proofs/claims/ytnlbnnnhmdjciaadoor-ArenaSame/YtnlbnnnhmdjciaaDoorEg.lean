/-
  Laws of append of a text, and of bytes, onto bytes that a call owns.
-/
import Derived.Test.YtnlbnnnhmdjciaaDoorAm
import Derived.Test.YtnlbnnnhmdjciaaDoorMq
import Derived.Lib.AppendStr
namespace Go.Proofs.YtnlbnnnhmdjciaaDoor
open Go.RowKit

theorem str_len (s : List UInt8) : (str s).size = s.length := by rw [Lib.size_eq, str_dat]
theorem strCells_str (s : List UInt8) : Lib.strCells (str s) = Lib.byteCells s := by
  unfold Lib.strCells Lib.byteCells
  simp [str]

/-- 'append' of a text onto bytes that a call owns: what it does -/
theorem run_addS (w0 : World) (ty : TypeId) (B : Nat) (v : Value) (l s : List UInt8) (hown : Own w0 B v l) (hl : l.length + s.length ≤ 1000000000000) (hB : B ≤ w0.heap.size) :
    ∃ v' w', (Builtin.append_ #[48, 9] ty #[v, .string (str s)]).run Tryd.prog w0 = .ok v' w' ∧ Own w' B v' (l ++ s) ∧ Kept B w0 w' := by
  obtain ⟨i0, hi, hz0, hz1, hz2⟩ := info_parts info5
  obtain ⟨v', w', hr, ho, hg, _⟩ := Lib.run_append_own_string (P := Tryd.prog) w0 B 48 9 ty 5 i0 Tryd.underlying48 Tryd.underlying9 hi hz0 hz1 hz2 v l.length (Lib.byteCells l) hown (str s) (by rw [str_len]; simp only [maxLen]; omega) (by rw [str_len]; omega) hB
  refine ⟨v', w', hr, ?_, (Kept.refl B w0).grown hown hg hB⟩
  rw [str_len, strCells_str] at ho
  exact own_of_append ho (by simp) (by rw [Lib.byteCells_append])
theorem wp_addS {o : Oper} {a : Act} {w0 : World} {K : Act → World → Prop} {Q : Exit → Act → World → Prop} (sl x : Operand)
    (ho : o.op = .call { callee := .builtin .append, args := #[sl, x], argTypes := #[48, 9] }) (B : Nat) (v : Value) (l s : List UInt8) (hs : a.eval sl = v) (hx : a.eval x = .string (str s)) (hown : Own w0 B v l) (hl : l.length + s.length ≤ 1000000000000) (hB : B ≤ w0.heap.size)
    (h : ∀ v' w', Own w' B v' (l ++ s) → Kept B w0 w' → K (a.put o.dst v') w') : o.wp Tryd.prog a w0 K Q := by
  obtain ⟨v', w', hr, h2, h3⟩ := run_addS w0 o.type B v l s hown hl hB
  unfold Oper.wp execOp
  simp only [ho, resolve, invoke, builtin, Sem.run_bind, Sem.run_pure, Result.andThen_ok, List.map_toArray, List.map_cons, List.map_nil, hs, hx, hr]
  exact h v' w' h2 h3
theorem wpList_addS {ops : Array Oper} {rest : List Oper} {o : Oper} {a : Act} {w0 : World} {Q : Exit → Act → World → Prop} (hgd : o.guard = none) (sl x : Operand)
    (ho : o.op = .call { callee := .builtin .append, args := #[sl, x], argTypes := #[48, 9] }) (B : Nat) (v : Value) (l s : List UInt8) (hs : a.eval sl = v) (hx : a.eval x = .string (str s)) (hown : Own w0 B v l) (hl : l.length + s.length ≤ 1000000000000) (hB : B ≤ w0.heap.size)
    (h : ∀ v' w', Own w' B v' (l ++ s) → Kept B w0 w' → wpList Tryd.prog ops Q rest (a.put o.dst v') w') : wpList Tryd.prog ops Q (o :: rest) a w0 :=
  wpList_plain hgd fun _ hK => wp_addS sl x ho B v l s hs hx hown hl hB fun v' w' h2 h3 => hK _ _ (h v' w' h2 h3)
theorem step_addS {ops : Array Oper} {o : Oper} {a : Act} {w0 : World} {K : Act → World → Prop} {Q : Exit → Act → World → Prop} {E : Prop} (hgd : o.guard = none) (sl x : Operand)
    (ho : o.op = .call { callee := .builtin .append, args := #[sl, x], argTypes := #[48, 9] }) (B : Nat) (v : Value) (l s : List UInt8) (hs : a.eval sl = v) (hx : a.eval x = .string (str s)) (hown : Own w0 B v l) (hl : l.length + s.length ≤ 1000000000000) (hB : B ≤ w0.heap.size)
    (h : ∀ v' w', Own w' B v' (l ++ s) → Kept B w0 w' → K (a.put o.dst v') w') :
    if Region.wanted o (yielded ops a.tmps) = true then Oper.wp Tryd.prog o a w0 K Q else E := by
  have hw : Region.wanted o (yielded ops a.tmps) = true := by simp [Region.wanted, hgd]
  rw [if_pos hw]
  exact wp_addS sl x ho B v l s hs hx hown hl hB h
/-- 'append' of bytes that were just laid (any length): as wpList_push, for longer rows -/
theorem wp_addB {o : Oper} {a : Act} {w0 : World} {K : Act → World → Prop} {Q : Exit → Act → World → Prop} (sl x : Operand)
    (ho : o.op = .call { callee := .builtin .append, args := #[sl, x], argTypes := #[48, 48] }) (B : Nat) (v : Value) (l : List UInt8) (b : UInt8) (g c : Nat) (hs : a.eval sl = v) (hx : a.eval x = .slice (some ⟨g, 0, none⟩) 1 c) (hg : w0.heap[g]? = some (.cells #[.int .u8 b.toNat] 5)) (hown : Own w0 B v l) (hl : l.length ≤ 1000000000000) (hB : B ≤ w0.heap.size)
    (h : ∀ v' w', Own w' B v' (l ++ [b]) → Kept B w0 w' → K (a.put o.dst v') w') : o.wp Tryd.prog a w0 K Q := by
  obtain ⟨i0, hi, hz0, hz1, hz2⟩ := info_parts info5
  refine wp_append_own _ sl x 48 ho B 5 i0 (.int .u8 0) 1 1 Tryd.underlying48 hi hz0 hz1 hz2 rfl (by decide) v l.length (Lib.byteCells l) hs hown ⟨g, 0, none⟩ 1 c [.int .u8 b.toNat] hx rfl (World.news_of_block hg) (fun u hu => by simp only [List.mem_cons, List.not_mem_nil, or_false] at hu; subst hu; rfl) (by simp only [maxLen]; omega) (by omega) hB ?_
  intro v' w' ho' hg' _
  exact h v' w' (own_of_append ho' (by simp) (by rw [Lib.byteCells_append]; rfl)) ((Kept.refl B w0).grown hown hg' hB)
theorem wpList_addB {ops : Array Oper} {rest : List Oper} {o : Oper} {a : Act} {w0 : World} {Q : Exit → Act → World → Prop} (hgd : o.guard = none) (sl x : Operand)
    (ho : o.op = .call { callee := .builtin .append, args := #[sl, x], argTypes := #[48, 48] }) (B : Nat) (v : Value) (l : List UInt8) (b : UInt8) (g c : Nat) (hs : a.eval sl = v) (hx : a.eval x = .slice (some ⟨g, 0, none⟩) 1 c) (hg : w0.heap[g]? = some (.cells #[.int .u8 b.toNat] 5)) (hown : Own w0 B v l) (hl : l.length ≤ 1000000000000) (hB : B ≤ w0.heap.size)
    (h : ∀ v' w', Own w' B v' (l ++ [b]) → Kept B w0 w' → wpList Tryd.prog ops Q rest (a.put o.dst v') w') : wpList Tryd.prog ops Q (o :: rest) a w0 :=
  wpList_plain hgd fun _ hK => wp_addB sl x ho B v l b g c hs hx hg hown hl hB fun v' w' h2 h3 => hK _ _ (h v' w' h2 h3)
theorem step_addB {ops : Array Oper} {o : Oper} {a : Act} {w0 : World} {K : Act → World → Prop} {Q : Exit → Act → World → Prop} {E : Prop} (hgd : o.guard = none) (sl x : Operand)
    (ho : o.op = .call { callee := .builtin .append, args := #[sl, x], argTypes := #[48, 48] }) (B : Nat) (v : Value) (l : List UInt8) (b : UInt8) (g c : Nat) (hs : a.eval sl = v) (hx : a.eval x = .slice (some ⟨g, 0, none⟩) 1 c) (hg : w0.heap[g]? = some (.cells #[.int .u8 b.toNat] 5)) (hown : Own w0 B v l) (hl : l.length ≤ 1000000000000) (hB : B ≤ w0.heap.size)
    (h : ∀ v' w', Own w' B v' (l ++ [b]) → Kept B w0 w' → K (a.put o.dst v') w') :
    if Region.wanted o (yielded ops a.tmps) = true then Oper.wp Tryd.prog o a w0 K Q else E := by
  have hw : Region.wanted o (yielded ops a.tmps) = true := by simp [Region.wanted, hgd]
  rw [if_pos hw]
  exact wp_addB sl x ho B v l b g c hs hx hg hown hl hB h
/-- a block of another type than bytes is kept -/
theorem Kept.blk {B : Nat} {w w' : World} (h : Kept B w w') {k : Nat} {C : Array Value} {t : TypeId} {fr : Nat × Nat} (hk : w.heap[k]? = some (.cells C t fr)) (ht : t ≠ 5) : w'.heap[k]? = some (.cells C t fr) :=
  h.2 k _ hk (by simp) (by simp; exact ht)
/-- 'append' of some bytes that were just laid (rows of any length) -/
theorem wp_addBs {o : Oper} {a : Act} {w0 : World} {K : Act → World → Prop} {Q : Exit → Act → World → Prop} (sl x : Operand)
    (ho : o.op = .call { callee := .builtin .append, args := #[sl, x], argTypes := #[48, 48] }) (B : Nat) (v : Value) (l bs : List UInt8) (n g c : Nat) (C : Array Value) (hs : a.eval sl = v) (hx : a.eval x = .slice (some ⟨g, 0, none⟩) n c) (hn : n = bs.length) (hC : C.toList = Lib.byteCells bs) (hg : w0.heap[g]? = some (.cells C 5)) (hown : Own w0 B v l) (hl : l.length + bs.length ≤ 1000000000000) (hB : B ≤ w0.heap.size)
    (h : ∀ v' w', Own w' B v' (l ++ bs) → Kept B w0 w' → K (a.put o.dst v') w') : o.wp Tryd.prog a w0 K Q := by
  subst hn
  obtain ⟨i0, hi, hz0, hz1, hz2⟩ := info_parts info5
  refine wp_append_own _ sl x 48 ho B 5 i0 (.int .u8 0) 1 1 Tryd.underlying48 hi hz0 hz1 hz2 rfl (by decide) v l.length (Lib.byteCells l) hs hown ⟨g, 0, none⟩ bs.length c (Lib.byteCells bs) hx (by rw [Lib.byteCells_length, Nat.mul_one]) (fun j u hu => World.news_of_block hg j u (by rw [hC]; exact hu)) (fun u hu => by simp only [Lib.byteCells, List.mem_map] at hu; obtain ⟨b, _, rfl⟩ := hu; rfl) (by simp only [maxLen]; omega) (by omega) hB ?_
  intro v' w' ho' hg' _
  exact h v' w' (own_of_append ho' (by simp) (by rw [Lib.byteCells_append])) ((Kept.refl B w0).grown hown hg' hB)
theorem wpList_addBs {ops : Array Oper} {rest : List Oper} {o : Oper} {a : Act} {w0 : World} {Q : Exit → Act → World → Prop} (hgd : o.guard = none) (sl x : Operand)
    (ho : o.op = .call { callee := .builtin .append, args := #[sl, x], argTypes := #[48, 48] }) (B : Nat) (v : Value) (l bs : List UInt8) (n g c : Nat) (C : Array Value) (hs : a.eval sl = v) (hx : a.eval x = .slice (some ⟨g, 0, none⟩) n c) (hn : n = bs.length) (hC : C.toList = Lib.byteCells bs) (hg : w0.heap[g]? = some (.cells C 5)) (hown : Own w0 B v l) (hl : l.length + bs.length ≤ 1000000000000) (hB : B ≤ w0.heap.size)
    (h : ∀ v' w', Own w' B v' (l ++ bs) → Kept B w0 w' → wpList Tryd.prog ops Q rest (a.put o.dst v') w') : wpList Tryd.prog ops Q (o :: rest) a w0 :=
  wpList_plain hgd fun _ hK => wp_addBs sl x ho B v l bs n g c C hs hx hn hC hg hown hl hB fun v' w' h2 h3 => hK _ _ (h v' w' h2 h3)
end Go.Proofs.YtnlbnnnhmdjciaaDoor
