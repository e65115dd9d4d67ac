/-
  The table 'named', utf8.AppendRune, Env from world to world.
-/
import Derived.Test.YtnlbnnnhmdjciaaDoorWe
import Derived.Laws.Rows
namespace Go.Proofs.YtnlbnnnhmdjciaaDoor
open Go.RowKit

def ch (k : Nat) : Nat := (namedTab.getD k (0, 0)).1
def lt (k : Nat) : Nat := (namedTab.getD k (0, 0)).2
theorem lt_lt : ∀ k : Fin 15, lt k.val < 256 := by decide
theorem ch_lt : ∀ k : Fin 15, ch k.val < 10000 := by decide
theorem named_ix0 (w : World) : (Instr.index 86 (.agg namedCells) (.int .i64 0)).run Tryd.prog w = .ok (.agg #[.int .i32 34, .int .u8 34]) w := by kernel_rfl
theorem named_ix1 (w : World) : (Instr.index 86 (.agg namedCells) (.int .i64 1)).run Tryd.prog w = .ok (.agg #[.int .i32 92, .int .u8 92]) w := by kernel_rfl
theorem named_ix2 (w : World) : (Instr.index 86 (.agg namedCells) (.int .i64 2)).run Tryd.prog w = .ok (.agg #[.int .i32 0, .int .u8 48]) w := by kernel_rfl
theorem named_ix3 (w : World) : (Instr.index 86 (.agg namedCells) (.int .i64 3)).run Tryd.prog w = .ok (.agg #[.int .i32 7, .int .u8 97]) w := by kernel_rfl
theorem named_ix4 (w : World) : (Instr.index 86 (.agg namedCells) (.int .i64 4)).run Tryd.prog w = .ok (.agg #[.int .i32 8, .int .u8 98]) w := by kernel_rfl
theorem named_ix5 (w : World) : (Instr.index 86 (.agg namedCells) (.int .i64 5)).run Tryd.prog w = .ok (.agg #[.int .i32 9, .int .u8 116]) w := by kernel_rfl
theorem named_ix6 (w : World) : (Instr.index 86 (.agg namedCells) (.int .i64 6)).run Tryd.prog w = .ok (.agg #[.int .i32 10, .int .u8 110]) w := by kernel_rfl
theorem named_ix7 (w : World) : (Instr.index 86 (.agg namedCells) (.int .i64 7)).run Tryd.prog w = .ok (.agg #[.int .i32 11, .int .u8 118]) w := by kernel_rfl
theorem named_ix8 (w : World) : (Instr.index 86 (.agg namedCells) (.int .i64 8)).run Tryd.prog w = .ok (.agg #[.int .i32 12, .int .u8 102]) w := by kernel_rfl
theorem named_ix9 (w : World) : (Instr.index 86 (.agg namedCells) (.int .i64 9)).run Tryd.prog w = .ok (.agg #[.int .i32 13, .int .u8 114]) w := by kernel_rfl
theorem named_ix10 (w : World) : (Instr.index 86 (.agg namedCells) (.int .i64 10)).run Tryd.prog w = .ok (.agg #[.int .i32 27, .int .u8 101]) w := by kernel_rfl
theorem named_ix11 (w : World) : (Instr.index 86 (.agg namedCells) (.int .i64 11)).run Tryd.prog w = .ok (.agg #[.int .i32 133, .int .u8 78]) w := by kernel_rfl
theorem named_ix12 (w : World) : (Instr.index 86 (.agg namedCells) (.int .i64 12)).run Tryd.prog w = .ok (.agg #[.int .i32 160, .int .u8 95]) w := by kernel_rfl
theorem named_ix13 (w : World) : (Instr.index 86 (.agg namedCells) (.int .i64 13)).run Tryd.prog w = .ok (.agg #[.int .i32 8232, .int .u8 76]) w := by kernel_rfl
theorem named_ix14 (w : World) : (Instr.index 86 (.agg namedCells) (.int .i64 14)).run Tryd.prog w = .ok (.agg #[.int .i32 8233, .int .u8 80]) w := by kernel_rfl
theorem named_index (k : Nat) (h : k < 15) (w : World) : (Instr.index 86 (.agg namedCells) (.int .i64 (k : Int))).run Tryd.prog w = .ok (.agg #[.int .i32 (ch k : Nat), .int .u8 (lt k : Nat)]) w :=
  match k, h with
  | 0, _ => named_ix0 w
  | 1, _ => named_ix1 w
  | 2, _ => named_ix2 w
  | 3, _ => named_ix3 w
  | 4, _ => named_ix4 w
  | 5, _ => named_ix5 w
  | 6, _ => named_ix6 w
  | 7, _ => named_ix7 w
  | 8, _ => named_ix8 w
  | 9, _ => named_ix9 w
  | 10, _ => named_ix10 w
  | 11, _ => named_ix11 w
  | 12, _ => named_ix12 w
  | 13, _ => named_ix13 w
  | 14, _ => named_ix14 w
  | _ + 15, h => absurd h (by omega)

theorem size65 : (Tryd.prog.info? 86).map (·.size) = some namedCells.size := by kernel_rfl

/-- utf8.AppendRune onto bytes that the call owns -/
theorem rune_any (B : Nat) (v : Value) (l : List UInt8) (r : Nat) (w : World) (hr : r ≤ 1114111) (hown : Own w B v l) (hn : l.length ≤ 1000000) (hB : B ≤ w.heap.size) :
    Calls Tryd.prog 65 #[v, .int .i32 r] w fun e w' => ∃ v', e = .returned v' ∧ Own w' B v' (l ++ Sc.enc r) ∧ Kept B w w' := by
  refine (Tryd.utf8_AppendRune_plain B v l.length (Lib.byteCells l) r (by omega) (by omega) w hown (by omega) hB).mono ?_
  rintro e w' ⟨v', rfl, ho, o, hg⟩
  refine ⟨v', rfl, own_of_append ho ?_ ?_, ?_⟩
  · rw [List.length_append, Lib.runeCells_length]; rfl
  · rw [Lib.byteCells_append, ← Lib.byteCells_encodeRune]; rfl
  · exact ((Kept.refl B w).alloc hB _).grown (own_alloc hown _) hg (by rw [World.size_alloc]; omega)

theorem Env.size {w : World} (h : Env w) : 4 ≤ w.heap.size := by
  have h2 := h.pow
  unfold Lib.TabIs World.var? at h2
  rw [powG, Option.bind_some] at h2
  rcases Nat.lt_or_ge 3 w.heap.size with h' | h'
  · omega
  · rw [Array.getElem?_eq_none h'] at h2; simp at h2
theorem Env.kept {B : Nat} {w w' : World} (h : Env w) (hB : 4 ≤ B) (hk : Below B w w') : Env w' where
  tabs := by
    obtain ⟨h1, h2⟩ := h.tabs
    exact ⟨fun c hc => (hk.cell (p := ⟨0, c, none⟩) (by show 0 < B; omega)).trans (h1 c hc), fun i hi => ⟨(hk.cell (p := ⟨1, 2 * i, none⟩) (by show 1 < B; omega)).trans (h2 i hi).1, (hk.cell (p := ⟨1, 2 * i + 1, none⟩) (by show 1 < B; omega)).trans (h2 i hi).2⟩⟩
  named := by
    obtain ⟨t, fr, he⟩ := h.named
    exact ⟨t, fr, (hk.block 2 (by omega)).trans he⟩
  pow := by
    have h2 := h.pow
    unfold Lib.TabIs World.var? at *
    rw [powG, Option.bind_some] at *
    rw [hk.block 3 (by omega)]; exact h2

/-- 'string(b)' of bytes that the call owns -/
theorem own_string {w : World} {B : Nat} {v : Value} {l : List UInt8} (h : Own w B v l) : (convert 48 9 v).run Tryd.prog w = .ok (.string (str l)) w := by
  by_cases h0 : l.length = 0
  · have hl : l = [] := List.eq_nil_of_length_eq_zero h0
    subst hl
    rcases h.2 with ⟨rfl, _⟩ | ⟨g, cap, cur, rfl, hr⟩
    · rw [run_convert_bytes_string w 48 9 5 none 0 0 Tryd.underlying48 Tryd.underlying5 Tryd.underlying9]
      rfl
    · exact run_convert_bytes_back w 48 9 5 ⟨g, 0, none⟩ cap [] Tryd.underlying48 Tryd.underlying5 Tryd.underlying9 (fun j hj => absurd hj (by simp))
  · rcases h.2 with ⟨_, h00⟩ | ⟨g, cap, cur, rfl, hr⟩
    · exact absurd h00 h0
    · refine run_convert_bytes_back w 48 9 5 ⟨g, 0, none⟩ cap l Tryd.underlying48 Tryd.underlying5 Tryd.underlying9 fun j hj => ?_
      refine World.ownsRow.cells h (g := g) rfl j _ ?_
      simp [Lib.byteCells, hj]
theorem own_iterAt {w : World} {B : Nat} {v : Value} {l : List UInt8} (h : Own w B v l) {k : Nat} {s : ByteArray} {pos : Nat} (hk : w.heap[k]? = some (.stringIter s pos)) (p : Nat) : Own (w.iterAt k s p) B v l := by
  obtain ⟨h1, h2⟩ := h
  refine ⟨h1, ?_⟩
  rcases h2 with h2 | ⟨g, cap, cur, hv, hb, hh, hr⟩
  · exact .inl h2
  · refine .inr ⟨g, cap, cur, hv, hb, ?_, hr⟩
    rw [Lib.iterAt_other _ _ _ _ _ (fun e => by subst e; rw [hk] at hh; cases hh)]
    exact hh

end Go.Proofs.YtnlbnnnhmdjciaaDoor
