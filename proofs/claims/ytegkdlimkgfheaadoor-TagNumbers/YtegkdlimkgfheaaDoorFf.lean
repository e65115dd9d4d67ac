/-
  Rows of bytes that a call owns; what a number that is written out looks like.
-/
import Derived.Test.YtegkdlimkgfheaaDoorFe
namespace Go.Proofs.YtegkdlimkgfheaaDoor
open Go.RowKit

/-- a slice of bytes that the call owns, from block B on -/
def Own (w : World) (B : Nat) (v : Value) (l : List UInt8) : Prop := w.ownsRow B 5 1 v l.length (Lib.byteCells l)
/-- what a call that appends to its own bytes leaves as it was -/
def Kept (B : Nat) (w w' : World) : Prop := Below B w w' ∧ Lib.OthersKept 5 none w w'

theorem Kept.refl (B : Nat) (w : World) : Kept B w w := ⟨Below.refl _ _, Lib.OthersKept.refl _ _ _⟩
theorem Kept.trans {B : Nat} {a b c : World} (h : Kept B a b) (k : Kept B b c) : Kept B a c := ⟨h.1.trans k.1, h.2.trans k.2⟩
theorem Kept.alloc {B : Nat} {a w : World} (h : Kept B a w) (hB : B ≤ w.heap.size) (o : Obj) : Kept B a (w.alloc o) := ⟨h.1.alloc hB o, h.2.alloc o⟩
theorem Kept.size {B : Nat} {a w : World} (h : Kept B a w) : a.heap.size ≤ w.heap.size := h.1.size
theorem own_kind {w : World} {B : Nat} {v : Value} {l : List UInt8} (h : Own w B v l) : ∀ g, v.ownBlock = some g → ∃ c fz, w.heap[g]? = some (.cells c 5 fz) := by
  intro g hg
  rcases h.2 with ⟨rfl, _⟩ | ⟨g', cap, cur, rfl, _, hh, _⟩
  · simp [Value.ownBlock] at hg
  · have : g' = g := by simpa [Value.ownBlock] using hg
    subst this
    exact ⟨_, _, hh⟩
theorem Kept.grown {B : Nat} {a w w' : World} {v : Value} {l : List UInt8} (h : Kept B a w) (ho : Own w B v l) (hg : w.grownBy w' v.ownBlock) (hB : B ≤ w.heap.size) : Kept B a w' :=
  ⟨h.1.grown hg hB fun k hk => (ho.lt k hk).1, h.2.grown hg (own_kind ho)⟩
theorem own_alloc {w : World} {B : Nat} {v : Value} {l : List UInt8} (h : Own w B v l) (o : Obj) : Own (w.alloc o) B v l := World.ownsRow.alloc h o
theorem cells_of_new (w : World) (t : TypeId) (news : List Value) (j : Nat) (u : Value) (h : news[j]? = some u) : (w.alloc (.cells news.toArray t)).cell? ((⟨w.heap.size, 0, none⟩ : Addr).add j) = some u := by
  have hadd : (⟨w.heap.size, 0, none⟩ : Addr).add j = ⟨w.heap.size, j, none⟩ := by unfold Addr.add; split <;> simp_all
  rw [hadd, World.cell?_alloc_at _ _ _ _ rfl]
  simpa using h
theorem own_of_append {w : World} {B : Nat} {v : Value} {l m : List UInt8} {n : Nat} {xs : List Value} (h : w.ownsRow B 5 1 v n xs) (hn : n = (l ++ m).length) (hx : xs = Lib.byteCells (l ++ m)) : Own w B v (l ++ m) := by
  subst hn hx; exact h
theorem own_past {w w' : World} {B K : Nat} {v : Value} {l : List UInt8} (h : Own w B v l) (hb : Below K w w') (hg : ∀ g, v.ownBlock = some g → g < K) : Own w' B v l := by
  obtain ⟨h1, h2⟩ := h
  refine ⟨h1, ?_⟩
  rcases h2 with h2 | ⟨g, cap, cur, hv, hB, hh, hr⟩
  · exact .inl h2
  · exact .inr ⟨g, cap, cur, hv, hB, (hb.block g (hg g (by rw [hv]; rfl))).trans hh, hr⟩
theorem Dig.kept {w w' : World} {B b nd : Nat} (h : Dig w b nd) (hk : Kept B w w') : Dig w' b nd := by
  obtain ⟨⟨cs, fz, hb⟩, hd⟩ := h
  have hb' : w'.heap[b]? = some (.cells cs 74 fz) := hk.2 b _ hb (by simp) (by intro c fz' e; simp at e)
  refine ⟨⟨cs, fz, hb'⟩, fun j hj => ?_⟩
  obtain ⟨c, hc, hcell⟩ := hd j hj
  refine ⟨c, hc, ?_⟩
  have : w'.cell? ⟨b, j, none⟩ = w.cell? ⟨b, j, none⟩ := by simp only [World.cell?, hb, hb']
  rw [this]; exact hcell
theorem Dig.le {w : World} {b n m : Nat} (h : Dig w b n) (hm : m ≤ n) : Dig w b m := ⟨h.1, fun j hj => h.2 j (by omega)⟩
theorem info5 : (Tryd.prog.info? 5).map (fun i => (i.zero, i.size, i.bytes)) = some (some (.int .u8 0), 1, 1) := by kernel_rfl

/-- 'append' of bytes that lie anywhere, onto bytes that the call owns -/
theorem wpList_pushS {ops : Array Oper} {rest : List Oper} {o : Oper} {a : Act} {Q : Exit → Act → World → Prop} (hgd : o.guard = none) (s x : Operand)
    (ho : o.op = .call { callee := .builtin .append, args := #[s, x], argTypes := #[31, 31] }) (B : Nat) (v : Value) (l m : List UInt8) (w0 : World) (ad : Addr) (n c : Nat)
    (hs : a.eval s = v) (hx : a.eval x = .slice (some ad) n c) (hcells : ∀ j u, (Lib.byteCells m)[j]? = some u → w0.cell? (ad.add j) = some u) (hm : n = m.length) (hown : Own w0 B v l) (hl : l.length + m.length ≤ 2000000) (hB : B ≤ w0.heap.size)
    (h : ∀ v' w', Own w' B v' (l ++ m) → Kept B w0 w' → B ≤ w'.heap.size → wpList Tryd.prog ops Q rest (a.put o.dst v') w') :
    wpList Tryd.prog ops Q (o :: rest) a w0 := by
  subst hm
  obtain ⟨i0, hi, hz0, hz1, hz2⟩ := info_parts info5
  refine wpList_append_own _ hgd s x 31 ho B 5 i0 (.int .u8 0) 1 1 Tryd.underlying31 hi hz0 hz1 hz2 rfl (by decide) v l.length (Lib.byteCells l) hs hown ad m.length c (Lib.byteCells m) hx (by rw [Lib.byteCells_length, Nat.mul_one])
    hcells (fun u hu => by simp only [Lib.byteCells, List.mem_map] at hu; obtain ⟨b, _, rfl⟩ := hu; rfl) (by simp only [maxLen]; omega) (by omega) hB ?_
  intro v' w' ho' hg _
  have hk : Kept B w0 w' := (Kept.refl B w0).grown hown hg hB
  exact h v' w' (own_of_append ho' (by simp) (by rw [Lib.byteCells_append])) hk (Nat.le_trans hB hk.size)
/-- 'append' of bytes that were just laid, of which something is known, onto bytes that the call owns -/
theorem wpList_pushX {ops : Array Oper} {rest : List Oper} {o : Oper} {a : Act} {Q : Exit → Act → World → Prop} (hgd : o.guard = none) (s x : Operand)
    (ho : o.op = .call { callee := .builtin .append, args := #[s, x], argTypes := #[31, 31] }) (P : List UInt8 → Prop) (B : Nat) (v : Value) (l : List UInt8) (w0 : World) (C : Array Value) (n c : Nat)
    (hs : a.eval s = v) (ga : Nat) (hx : a.eval x = .slice (some ⟨ga, 0, none⟩) n c) (hga : ga = w0.heap.size) (hC : ∃ m, C = (Lib.byteCells m).toArray ∧ n = m.length ∧ m.length ≤ 3 ∧ P m) (hown : Own w0 B v l) (hl : l.length ≤ 1000000) (hB : B ≤ w0.heap.size)
    (h : ∀ m v' w', P m → m.length ≤ 3 → Own w' B v' (l ++ m) → Kept B w0 w' → B ≤ w'.heap.size → wpList Tryd.prog ops Q rest (a.put o.dst v') w') :
    wpList Tryd.prog ops Q (o :: rest) a (w0.alloc (.cells C 5)) := by
  obtain ⟨m, rfl, rfl, hm3, hP⟩ := hC
  subst hga
  refine wpList_pushS hgd s x ho B v l m (w0.alloc (.cells (Lib.byteCells m).toArray 5)) ⟨w0.heap.size, 0, none⟩ m.length c hs hx (fun j u hu => cells_of_new w0 5 (Lib.byteCells m) j u hu) rfl (own_alloc hown _) (by omega) (by rw [World.size_alloc]; omega) ?_
  intro v' w' ho' hk hB'
  exact h m v' w' hP hm3 ho' (((Kept.refl B w0).alloc hB _).trans hk) hB'

/-- digits alone -/
def DG (l : List UInt8) : Prop := l.all (Tg.dg 10) = true
theorem DG.app {a b : List UInt8} (ha : DG a) (hb : DG b) : DG (a ++ b) := by unfold DG at *; rw [List.all_append, ha, hb]; rfl
theorem DG.nil : DG [] := rfl
/-- one digit or more -/
def DP (l : List UInt8) : Prop := DG l ∧ l ≠ []
/-- how a number is written -/
def Num (o : List UInt8) : Prop := ∃ sg A F X : List UInt8, o = sg ++ (A ++ (F ++ X)) ∧ (sg = [] ∨ sg = [45]) ∧ DP A ∧ (F = [] ∨ ∃ Y, F = 46 :: Y ∧ DG Y) ∧ (X = [] ∨ ∃ c s Y, X = c :: s :: Y ∧ (c = 101 ∨ c = 69) ∧ (s = 43 ∨ s = 45) ∧ DP Y)
/-- just these bytes -/
def Is (l m : List UInt8) : Prop := m = l
theorem u8_cell (x : Int) (h0 : 0 ≤ x) (h1 : x < 256) : Value.int .u8 x = .int .u8 ((UInt8.ofNat x.toNat).toNat : Int) := by
  congr 1
  rw [UInt8.toNat_ofNat', Nat.mod_eq_of_lt (by omega)]; omega
theorem dg_of (x : Int) (h0 : 48 ≤ x) (h1 : x ≤ 57) : Tg.dg 10 (UInt8.ofNat x.toNat) = true := by
  have : x = 48 ∨ x = 49 ∨ x = 50 ∨ x = 51 ∨ x = 52 ∨ x = 53 ∨ x = 54 ∨ x = 55 ∨ x = 56 ∨ x = 57 := by omega
  rcases this with rfl | rfl | rfl | rfl | rfl | rfl | rfl | rfl | rfl | rfl <;> decide
theorem cells1 (c : UInt8) : ∃ m, #[Value.int .u8 (c.toNat : Int)] = (Lib.byteCells m).toArray ∧ 1 = m.length ∧ m.length ≤ 3 ∧ Is [c] m := ⟨[c], rfl, rfl, by simp, rfl⟩
theorem cells2 (x y : Int) (hx0 : 48 ≤ x) (hx1 : x ≤ 57) (hy0 : 48 ≤ y) (hy1 : y ≤ 57) : ∃ m, #[Value.int .u8 x, Value.int .u8 y] = (Lib.byteCells m).toArray ∧ 2 = m.length ∧ m.length ≤ 3 ∧ DP m := by
  refine ⟨[UInt8.ofNat x.toNat, UInt8.ofNat y.toNat], ?_, rfl, by simp, ?_, by simp⟩
  · rw [u8_cell x (by omega) (by omega), u8_cell y (by omega) (by omega)]; rfl
  · simp [DG, dg_of x hx0 hx1, dg_of y hy0 hy1]
theorem cells3 (x y z : Int) (hx0 : 48 ≤ x) (hx1 : x ≤ 57) (hy0 : 48 ≤ y) (hy1 : y ≤ 57) (hz0 : 48 ≤ z) (hz1 : z ≤ 57) : ∃ m, #[Value.int .u8 x, Value.int .u8 y, Value.int .u8 z] = (Lib.byteCells m).toArray ∧ 3 = m.length ∧ m.length ≤ 3 ∧ DP m := by
  refine ⟨[UInt8.ofNat x.toNat, UInt8.ofNat y.toNat, UInt8.ofNat z.toNat], ?_, rfl, by simp, ?_, by simp⟩
  · rw [u8_cell x (by omega) (by omega), u8_cell y (by omega) (by omega), u8_cell z (by omega) (by omega)]; rfl
  · simp [DG, dg_of x hx0 hx1, dg_of y hy0 hy1, dg_of z hz0 hz1]
end Go.Proofs.YtegkdlimkgfheaaDoor
