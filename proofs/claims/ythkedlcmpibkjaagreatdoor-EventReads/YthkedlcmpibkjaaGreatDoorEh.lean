/-
  The lines of events; laws of append of a text onto bytes that a call owns; the walk of appendEvent.
  The walk of appendEvent.
-/
import Derived.Test.YthkedlcmpibkjaaGreatDoorEf
import Derived.Test.YthkedlcmpibkjaaGreatDoorMq
import Derived.Deep.RegionHeld3
import Derived.Deep.AppendLies
namespace Go.Proofs.YthkedlcmpibkjaaGreatDoor
namespace Ev
def signL : List (List UInt8) := [[43, 100, 111, 99], [45, 100, 111, 99], [43, 115, 101, 113], [45, 115, 101, 113], [43, 109, 97, 112], [45, 109, 97, 112], [61, 118, 97, 108], [61, 97, 108, 105]]
def sign (k : Nat) : List UInt8 := signL.getD k []
def anchorW (x : E) : List UInt8 := if x.anchor.isEmpty then [] else [32, 38] ++ x.anchor
def tagW (x : E) : List UInt8 := if x.tag.isEmpty then [] else [32] ++ Tg.word x.tag
def textW (x : E) : List UInt8 := if x.kind = 6 then [32] ++ ((if x.plain then [58] else []) ++ quoteOf x.text) else []
/-- the line of an event -/
def line (x : E) : List UInt8 := sign x.kind.toNat ++ (if x.kind = 7 then [32, 42] ++ x.anchor else anchorW x ++ (tagW x ++ textW x))
end Ev
open Go.RowKit

theorem sign_cell : ∀ k : Fin 8, signCells[k.val]? = some (.string (str (Ev.sign k.val))) := by
  intro k
  match k with
  | ⟨0, _⟩ => rfl
  | ⟨1, _⟩ => rfl
  | ⟨2, _⟩ => rfl
  | ⟨3, _⟩ => rfl
  | ⟨4, _⟩ => rfl
  | ⟨5, _⟩ => rfl
  | ⟨6, _⟩ => rfl
  | ⟨7, _⟩ => rfl
theorem Env.sign {w : World} (h : Env w) (k : Nat) (hk : k < 8) : w.cell? ⟨0, k, none⟩ = some (.string (str (Ev.sign k))) := by
  obtain ⟨t, fr, he⟩ := h.signs
  exact cell_blk he k _ (sign_cell ⟨k, hk⟩)
theorem sign_len (k : Nat) : (Ev.sign k).length ≤ 4 := by
  unfold Ev.sign Ev.signL
  match k with
  | 0 | 1 | 2 | 3 | 4 | 5 | 6 | 7 => decide
  | n + 8 => simp
theorem strCells_str (s : List UInt8) : Lib.strCells (str s) = Lib.byteCells s := by
  unfold Lib.strCells Lib.byteCells
  simp [str]

/-- 'append' of a text onto bytes that a call owns: what it does -/
theorem run_addS (w0 : World) (ty : TypeId) (B : Nat) (v : Value) (l s : List UInt8) (hown : Own w0 B v l) (hl : l.length + s.length ≤ 1000000000000) (hB : B ≤ w0.heap.size) :
    ∃ v' w', (Builtin.append_ #[46, 9] ty #[v, .string (str s)]).run Tryz.prog w0 = .ok v' w' ∧ Own w' B v' (l ++ s) ∧ Kept B w0 w' := by
  obtain ⟨i0, hi, hz0, hz1, hz2⟩ := info_parts info5
  obtain ⟨v', w', hr, ho, hg, _⟩ := Lib.run_append_own_string (P := Tryz.prog) w0 B 46 9 ty 5 i0 Tryz.underlying46 Tryz.underlying9 hi hz0 hz1 hz2 v l.length (Lib.byteCells l) hown (str s) (by rw [str_len]; simp only [maxLen]; omega) (by rw [str_len]; omega) hB
  refine ⟨v', w', hr, ?_, (Kept.refl B w0).grown hown hg hB⟩
  rw [str_len, strCells_str] at ho
  exact own_of_append ho (by simp) (by rw [Lib.byteCells_append])
theorem wp_addS {o : Oper} {a : Act} {w0 : World} {K : Act → World → Prop} {Q : Exit → Act → World → Prop} (sl x : Operand)
    (ho : o.op = .call { callee := .builtin .append, args := #[sl, x], argTypes := #[46, 9] }) (B : Nat) (v : Value) (l s : List UInt8) (hs : a.eval sl = v) (hx : a.eval x = .string (str s)) (hown : Own w0 B v l) (hl : l.length + s.length ≤ 1000000000000) (hB : B ≤ w0.heap.size)
    (h : ∀ v' w', Own w' B v' (l ++ s) → Kept B w0 w' → K (a.put o.dst v') w') : o.wp Tryz.prog a w0 K Q := by
  obtain ⟨v', w', hr, h2, h3⟩ := run_addS w0 o.type B v l s hown hl hB
  unfold Oper.wp execOp
  simp only [ho, resolve, invoke, builtin, Sem.run_bind, Sem.run_pure, Result.andThen_ok, List.map_toArray, List.map_cons, List.map_nil, hs, hx, hr]
  exact h v' w' h2 h3
theorem wpList_addS {ops : Array Oper} {rest : List Oper} {o : Oper} {a : Act} {w0 : World} {Q : Exit → Act → World → Prop} (hgd : o.guard = none) (sl x : Operand)
    (ho : o.op = .call { callee := .builtin .append, args := #[sl, x], argTypes := #[46, 9] }) (B : Nat) (v : Value) (l s : List UInt8) (hs : a.eval sl = v) (hx : a.eval x = .string (str s)) (hown : Own w0 B v l) (hl : l.length + s.length ≤ 1000000000000) (hB : B ≤ w0.heap.size)
    (h : ∀ v' w', Own w' B v' (l ++ s) → Kept B w0 w' → wpList Tryz.prog ops Q rest (a.put o.dst v') w') : wpList Tryz.prog ops Q (o :: rest) a w0 :=
  wpList_plain hgd fun _ hK => wp_addS sl x ho B v l s hs hx hown hl hB fun v' w' h2 h3 => hK _ _ (h v' w' h2 h3)
theorem step_addS {ops : Array Oper} {o : Oper} {a : Act} {w0 : World} {K : Act → World → Prop} {Q : Exit → Act → World → Prop} {E : Prop} (hgd : o.guard = none) (sl x : Operand)
    (ho : o.op = .call { callee := .builtin .append, args := #[sl, x], argTypes := #[46, 9] }) (B : Nat) (v : Value) (l s : List UInt8) (hs : a.eval sl = v) (hx : a.eval x = .string (str s)) (hown : Own w0 B v l) (hl : l.length + s.length ≤ 1000000000000) (hB : B ≤ w0.heap.size)
    (h : ∀ v' w', Own w' B v' (l ++ s) → Kept B w0 w' → K (a.put o.dst v') w') :
    if Region.wanted o (yielded ops a.tmps) = true then Oper.wp Tryz.prog o a w0 K Q else E := by
  have hw : Region.wanted o (yielded ops a.tmps) = true := by simp [Region.wanted, hgd]
  rw [if_pos hw]
  exact wp_addS sl x ho B v l s hs hx hown hl hB h
/-- 'append' of bytes that were just laid (any length): as wpList_push, for longer rows -/
theorem wp_addB {o : Oper} {a : Act} {w0 : World} {K : Act → World → Prop} {Q : Exit → Act → World → Prop} (sl x : Operand)
    (ho : o.op = .call { callee := .builtin .append, args := #[sl, x], argTypes := #[46, 46] }) (B : Nat) (v : Value) (l : List UInt8) (b : UInt8) (g c : Nat) (hs : a.eval sl = v) (hx : a.eval x = .slice (some ⟨g, 0, none⟩) 1 c) (hg : w0.heap[g]? = some (.cells #[.int .u8 b.toNat] 5)) (hown : Own w0 B v l) (hl : l.length ≤ 1000000000000) (hB : B ≤ w0.heap.size)
    (h : ∀ v' w', Own w' B v' (l ++ [b]) → Kept B w0 w' → K (a.put o.dst v') w') : o.wp Tryz.prog a w0 K Q := by
  obtain ⟨i0, hi, hz0, hz1, hz2⟩ := info_parts info5
  refine wp_append_own _ sl x 46 ho B 5 i0 (.int .u8 0) 1 1 Tryz.underlying46 hi hz0 hz1 hz2 rfl (by decide) v l.length (Lib.byteCells l) hs hown ⟨g, 0, none⟩ 1 c [.int .u8 b.toNat] hx rfl (World.news_of_block hg) (fun u hu => by simp only [List.mem_cons, List.not_mem_nil, or_false] at hu; subst hu; rfl) (by simp only [maxLen]; omega) (by omega) hB ?_
  intro v' w' ho' hg' _
  exact h v' w' (own_of_append ho' (by simp) (by rw [Lib.byteCells_append]; rfl)) ((Kept.refl B w0).grown hown hg' hB)
theorem wpList_addB {ops : Array Oper} {rest : List Oper} {o : Oper} {a : Act} {w0 : World} {Q : Exit → Act → World → Prop} (hgd : o.guard = none) (sl x : Operand)
    (ho : o.op = .call { callee := .builtin .append, args := #[sl, x], argTypes := #[46, 46] }) (B : Nat) (v : Value) (l : List UInt8) (b : UInt8) (g c : Nat) (hs : a.eval sl = v) (hx : a.eval x = .slice (some ⟨g, 0, none⟩) 1 c) (hg : w0.heap[g]? = some (.cells #[.int .u8 b.toNat] 5)) (hown : Own w0 B v l) (hl : l.length ≤ 1000000000000) (hB : B ≤ w0.heap.size)
    (h : ∀ v' w', Own w' B v' (l ++ [b]) → Kept B w0 w' → wpList Tryz.prog ops Q rest (a.put o.dst v') w') : wpList Tryz.prog ops Q (o :: rest) a w0 :=
  wpList_plain hgd fun _ hK => wp_addB sl x ho B v l b g c hs hx hg hown hl hB fun v' w' h2 h3 => hK _ _ (h v' w' h2 h3)
theorem step_addB {ops : Array Oper} {o : Oper} {a : Act} {w0 : World} {K : Act → World → Prop} {Q : Exit → Act → World → Prop} {E : Prop} (hgd : o.guard = none) (sl x : Operand)
    (ho : o.op = .call { callee := .builtin .append, args := #[sl, x], argTypes := #[46, 46] }) (B : Nat) (v : Value) (l : List UInt8) (b : UInt8) (g c : Nat) (hs : a.eval sl = v) (hx : a.eval x = .slice (some ⟨g, 0, none⟩) 1 c) (hg : w0.heap[g]? = some (.cells #[.int .u8 b.toNat] 5)) (hown : Own w0 B v l) (hl : l.length ≤ 1000000000000) (hB : B ≤ w0.heap.size)
    (h : ∀ v' w', Own w' B v' (l ++ [b]) → Kept B w0 w' → K (a.put o.dst v') w') :
    if Region.wanted o (yielded ops a.tmps) = true then Oper.wp Tryz.prog o a w0 K Q else E := by
  have hw : Region.wanted o (yielded ops a.tmps) = true := by simp [Region.wanted, hgd]
  rw [if_pos hw]
  exact wp_addB sl x ho B v l b g c hs hx hg hown hl hB h
/-- a block of another type than bytes is kept -/
theorem Kept.blk {B : Nat} {w w' : World} (h : Kept B w w') {k : Nat} {C : Array Value} {t : TypeId} {fr : Nat × Nat} (hk : w.heap[k]? = some (.cells C t fr)) (ht : t ≠ 5) : w'.heap[k]? = some (.cells C t fr) :=
  h.2 k _ hk (by simp) (by simp; exact ht)
end Go.Proofs.YthkedlcmpibkjaaGreatDoor
namespace Go.Proofs.YthkedlcmpibkjaaGreatDoor
open Go.RowKit

/-- what appendEvent leaves -/
def Lined (w : World) (B : Nat) (l : List UInt8) (e : Ending) (w' : World) : Prop := ∃ v', e = .returned v' ∧ Own w' B v' l ∧ Below B w w'
theorem lined (w : World) (B : Nat) (l m : List UInt8) (v' : Value) (w' : World) (h : Own w' B v' m) (hb : Below B w w') (he : m = l) : Lined w B l (.returned v') w' := by
  subst he; exact ⟨v', rfl, h, hb⟩
theorem own_drawn {w : World} {B : Nat} {v : Value} {l : List UInt8} (h : Own w B v l) (n : Nat) : Own (w.drewN n) B v l := h

set_option maxHeartbeats 4000000 in
set_option maxRecDepth 100000 in
theorem addAlias (B : Nat) (v : Value) (l an tg tx : List UInt8) (pl : Bool) (w : World) (hown : Own w B v l) (hB : B ≤ w.heap.size) (hl : l.length ≤ 100000000000) (ha : an.length ≤ 50000) (hE : Env w) :
    Calls Tryz.prog 19 #[v, .agg #[.int .i64 7, .string (str an), .string (str tg), .string (str tx), .bool pl]] w fun e w' => Lined w B (l ++ (Ev.sign 7 ++ ([32, 42] ++ an))) e w' := by
  obtain ⟨va, vc, rfl⟩ := own_slice hown
  obtain ⟨ANS, hA⟩ : ∃ ANS, l ++ (Ev.sign 7 ++ ([32, 42] ++ an)) = ANS := ⟨_, rfl⟩
  rw [hA]
  have HA : Hid (((l ++ Ev.sign 7) ++ [32, 42]) ++ an = ANS) := by show _ = _; rw [← hA]; simp
  clear hA
  have hS : (w.alloc (.cells #[.int .i64 7, .string (str an), .string (str tg), .string (str tx), .bool pl] 34)).cell? ⟨0, 7, none⟩ = some (.string (str (Ev.sign 7))) := (hE.below (bnew w _)).sign 7 (by decide)
  have HO := Lib.hid hown
  have HBW : Hid (Below B w (w.alloc (.cells #[.int .i64 7, .string (str an), .string (str tg), .string (str tx), .bool pl] 34))) := (Below.refl B w).alloc hB _
  clear hown hE
  have hsl := sign_len 7
  go_enter Tryz.func19, Tryz.ntmps19
  go_wp2_with (at_builtin; refine wpList_addS rfl (.tmp 5) (.tmp 9) rfl B (.slice va l.length vc) l (Ev.sign 7) rfl rfl ?o1 ?l1 ?b1 ?_; (case o1 => exact own_alloc HO.out _); (case l1 => omega); (case b1 => rw [World.size_alloc]; omega); intro v1 w1 ho1 hk1; have hd1 := hk1.blk (alloc_blk w _) (by decide); have c0 : w1.cell? ⟨w.heap.size, 0, none⟩ = some (.int .i64 7) := cell_blk hd1 0 _ rfl; have c1 : w1.cell? ⟨w.heap.size, 1, none⟩ = some (.string (str an)) := cell_blk hd1 1 _ rfl; have HO1 := Lib.hid ho1; have HD1 := Lib.hid hd1; have HB1 := Lib.hid (HBW.out.trans hk1.1); have hz1 : B ≤ w1.heap.size := Nat.le_trans hB (HB1.out.size); clear ho1 hk1 hd1)
  clear hS
  have hlen : (l ++ Ev.sign 7).length ≤ 100000000004 := by rw [List.length_append]; omega
  go_region_held3 (fun w' => w'.cell? ⟨w.heap.size, 1, none⟩ = some (.string (str an)))
    (first | go_keep | exact cell_blk hd3 1 _ rfl | exact cell_blk hd2 1 _ rfl)
    (first
      | (refine step_addS (by rfl) (.tmp 14) _ (by rfl) B v1 (l ++ Ev.sign 7) [32, 42] (by rfl) (by rfl) (by exact HO1.out) (by simp; omega) (by exact hz1) ?_; intro v2 w2 ho2 hk2; have hk2' : Kept B w1 w2 := ⟨⟨hk2.1.os, hk2.1.tape, hk2.1.output, hk2.1.size, hk2.1.block⟩, hk2.2⟩; have hd2 := hk2'.blk HD1.out (by decide); have hz2 : B ≤ w2.heap.size := Nat.le_trans hz1 hk2'.size)
      | (refine step_addS (by rfl) (.tmp 15) (.tmp 17) (by rfl) B v2 ((l ++ Ev.sign 7) ++ [32, 42]) an (by rfl) (by rfl) (by exact ho2) (by simp; omega) (by exact hz2) ?_; intro v3 w3 ho3 hk3; have hk3' : Kept B w2 w3 := ⟨⟨hk3.1.os, hk3.1.tape, hk3.1.output, hk3.1.size, hk3.1.block⟩, hk3.2⟩; have hd3 := hk3'.blk hd2 (by decide)))
  go_wp2
  go_ret
  exact lined _ _ _ _ _ _ ho3 ((HB1.out.trans hk2'.1).trans hk3'.1) HA.out
end Go.Proofs.YthkedlcmpibkjaaGreatDoor
