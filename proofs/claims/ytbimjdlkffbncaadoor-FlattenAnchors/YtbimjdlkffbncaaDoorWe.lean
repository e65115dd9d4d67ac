/-
  A law for append onto bytes that the call owns.
-/
import Derived.Test.YtbimjdlkffbncaaDoorWd
import Derived.Test.YtbimjdlkffbncaaDoorMe

namespace Go.Proofs.YtbimjdlkffbncaaDoor
open Go.RowKit

theorem info5 : (Tryd.prog.info? 5).map (fun i => (i.zero, i.size, i.bytes)) = some (some (.int .u8 0), 1, 1) := by kernel_rfl

/-- 'append' of bytes that were just laid, onto bytes that the call owns -/
theorem wpList_push {ops : Array Oper} {rest : List Oper} {o : Oper} {a : Act} {Q : Exit → Act → World → Prop} (hgd : o.guard = none) (s x : Operand)
    (ho : o.op = .call { callee := .builtin .append, args := #[s, x], argTypes := #[133, 133] }) (B : Nat) (v : Value) (l m : List UInt8) (w0 : World) (C : Array Value) (n c : Nat)
    (hs : a.eval s = v) (ga : Nat) (hx : a.eval x = .slice (some ⟨ga, 0, none⟩) n c) (hga : ga = w0.heap.size) (hC : C = (Lib.byteCells m).toArray) (hm : n = m.length) (hown : Own w0 B v l) (hl : l.length + m.length ≤ 2000000) (hB : B ≤ w0.heap.size)
    (h : ∀ v' w', Own w' B v' (l ++ m) → Kept B w0 w' → B ≤ w'.heap.size → wpList Tryd.prog ops Q rest (a.put o.dst v') w') :
    wpList Tryd.prog ops Q (o :: rest) a (w0.alloc (.cells C 5)) := by
  subst hC hm hga
  obtain ⟨i0, hi, hz0, hz1, hz2⟩ := info_parts info5
  refine wpList_append_own _ hgd s x 133 ho B 5 i0 (.int .u8 0) 1 1 Tryd.underlying133 hi hz0 hz1 hz2 rfl (by decide) v l.length (Lib.byteCells l) hs (own_alloc hown _) ⟨w0.heap.size, 0, none⟩ m.length c (Lib.byteCells m) hx (by rw [Lib.byteCells_length, Nat.mul_one])
    (fun j u hu => cells_of_new w0 5 (Lib.byteCells m) j u hu) (fun u hu => by simp only [Lib.byteCells, List.mem_map] at hu; obtain ⟨b, _, rfl⟩ := hu; rfl) (by simp only [maxLen]; omega) (by omega) (by rw [World.size_alloc]; omega) ?_
  intro v' w' ho' hg _
  have hk : Kept B w0 w' := ((Kept.refl B w0).alloc hB _).grown (own_alloc hown _) hg (by rw [World.size_alloc]; omega)
  exact h v' w' (own_of_append ho' (by simp) (by rw [Lib.byteCells_append])) hk (Nat.le_trans hB hk.size)

end Go.Proofs.YtbimjdlkffbncaaDoor
