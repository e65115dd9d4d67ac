/-
  Rows of the document's own words: what a call owns, 'append' onto them; the walks of grillelaw04.Ours and of grilleref04.Same (at rows that are the same).
-/
import Derived.Test.YtmhakkahclbbjaaGreatDoorLv
import Derived.BigQuiet
import Derived.Deep.QuietTactic
namespace Go.Proofs.YtmhakkahclbbjaaGreatDoor
open Go.RowKit

/-- words of the document's that the call owns -/
def OwnWR (w : World) (B : Nat) (v : Value) (ws : List Lx.Wd) : Prop := w.ownsRow B 87 3 v ws.length (wordCells ws)
theorem infoWR : (Tryz.prog.info? 87).map (fun i => (i.zero, i.size, i.bytes)) = some (some (.agg #[.int .i64 0, .string ⟨#[]⟩, .int .i64 0]), 3, 32) := by kernel_rfl

theorem wpList_pushWR {ops : Array Oper} {rest : List Oper} {o : Oper} {a : Act} {Q : Exit → Act → World → Prop} (hgd : o.guard = none) (s x : Operand)
    (ho : o.op = .call { callee := .builtin .append, args := #[s, x], argTypes := #[51, 51] }) (B : Nat) (v : Value) (ws : List Lx.Wd) (y : Lx.Wd) (w0 : World) (C : Array Value) (c : Nat)
    (hs : a.eval s = v) (ga : Nat) (hx : a.eval x = .slice (some ⟨ga, 0, none⟩) 1 c) (hga : ga = w0.heap.size) (hC : C = #[.int .i64 y.kind, .string (str y.text), .int .i64 y.at_]) (hown : OwnWR w0 B v ws) (hl : ws.length ≤ 2000000) (hB : B ≤ w0.heap.size)
    (h : ∀ v' w', OwnWR w' B v' (ws ++ [y]) → Below B w0 w' → B ≤ w'.heap.size → (∀ k, k < w0.heap.size → v.ownBlock ≠ some k → w'.heap[k]? = w0.heap[k]?) → wpList Tryz.prog ops Q rest (a.put o.dst v') w') :
    wpList Tryz.prog ops Q (o :: rest) a (w0.alloc (.cells C 87)) := by
  subst hC hga
  obtain ⟨i0, hi, hz0, hz1, hz2⟩ := info_parts infoWR
  refine wpList_append_own _ hgd s x 51 ho B 87 i0 _ 3 32 Tryz.underlying51 hi hz0 hz1 hz2 rfl (by decide) v ws.length (wordCells ws) hs (World.ownsRow.alloc hown _) ⟨w0.heap.size, 0, none⟩ 1 c [.int .i64 y.kind, .string (str y.text), .int .i64 y.at_] hx rfl
    (fun j u hu => cells_of_new w0 87 [.int .i64 y.kind, .string (str y.text), .int .i64 y.at_] j u hu) (fun u hu => by simp only [List.mem_cons, List.not_mem_nil, or_false] at hu; rcases hu with rfl | rfl | rfl <;> rfl) (by simp only [maxLen]; omega) (by omega) (by rw [World.size_alloc]; omega) ?_
  intro v' w' ho' hg _
  have hk : Below B w0 w' := ((Below.refl B w0).alloc hB _).grown hg (by rw [World.size_alloc]; omega) (fun k hk => (World.ownsRow.lt hown k hk).1)
  refine h v' w' ?_ hk (Nat.le_trans hB hk.size) (fun k hk hne => ?_)
  · unfold OwnWR
    rw [List.length_append, wordCells_snoc]
    exact ho'
  · rw [hg.block k (by rw [World.size_alloc]; omega) hne.symm]
    show (w0.heap.push _)[k]? = _
    rw [Array.getElem?_push, if_neg (by omega)]

/-- the cells of a row of words, whatever their type's number -/
theorem rowW_cells {w : World} {B e : Nat} {a : Option Addr} {n c m : Nat} {ws : List Lx.Wd} (h : w.ownsRow B e 3 (.slice a n c) m (wordCells ws)) (hm : m = ws.length) (hn : 0 < ws.length) : n = ws.length ∧ n ≤ c ∧ ∃ g, a = some ⟨g, 0, none⟩ ∧ g < w.heap.size ∧ ∀ (j : Nat) (hj : j < ws.length), w.cell? ⟨g, j * 3, none⟩ = some (.int .i64 (ws[j]).kind) ∧ w.cell? ⟨g, j * 3 + 1, none⟩ = some (.string (str (ws[j]).text)) ∧ w.cell? ⟨g, j * 3 + 2, none⟩ = some (.int .i64 (ws[j]).at_) := by
  subst hm
  have h' := h
  rcases h.2 with ⟨e, h0⟩ | ⟨g, cap, cur, e, hB, hh, hnc, hr⟩
  · omega
  · cases e
    refine ⟨rfl, hnc, g, rfl, (Array.getElem?_eq_some_iff.1 hh).1, fun j hj => ?_⟩
    have hc := World.ownsRow.cells h' (g := g) rfl
    have hadd : ∀ k, (⟨g, 0, none⟩ : Addr).add k = ⟨g, k, none⟩ := fun k => by unfold Addr.add; split <;> simp_all
    obtain ⟨h1, h2, h3⟩ := wordCells_at ws j hj
    have a1 := hc _ _ h1
    have a2 := hc _ _ h2
    have a3 := hc _ _ h3
    rw [hadd] at a1 a2 a3
    exact ⟨a1, a2, a3⟩

/-- what Ours of words answers -/
def OwnsWR (B : Nat) (ws : List Lx.Wd) (e : Ending) (w' : World) : Prop := ∃ u, e = .returned u ∧ OwnWR w' B u ws

set_option maxHeartbeats 2000000 in
set_option maxRecDepth 100000 in
theorem oursW_any (v : Value) (B : Nat) (ws : List Lx.Wd) (w : World) (hown : OwnW w B v ws) (hl : ws.length ≤ 1000000) :
    Calls Tryz.prog 27 #[v] w fun e w' => OwnsWR w.heap.size ws e w' ∧ Below w.heap.size w w' := by
  obtain ⟨a, c, rfl⟩ := own_slice hown
  have HO := Lib.hid hown
  clear hown
  go_enter Tryz.func27, Tryz.ntmps27
  go_wp2
  go_loopw [3, 8] (fun o i wr => ∃ j : Nat, j ≤ ws.length ∧ i = .int .i64 j ∧ OwnWR wr w.heap.size o (ws.take j) ∧ Below w.heap.size w wr) (fun _ i _ => ws.length - (intOf i).toNat)
  case atStart => exact ⟨0, by omega, rfl, World.ownsRow_nil _ _ _ _, Below.refl _ _⟩
  case round =>
    obtain ⟨j, hj, rfl, hout, hbw⟩ := hrel
    have hBr := hbw.size
    by_cases hlt : j < ws.length
    · obtain ⟨_, hnc, g, rfl, hg, hcl⟩ := OwnW.cells HO.out (by omega)
      obtain ⟨d0, d1, d2⟩ := hcl j hlt
      have c0 := (hbw.cell (p := ⟨g, j * 3, none⟩) hg).trans d0
      have c1 := (hbw.cell (p := ⟨g, j * 3 + 1, none⟩) hg).trans d1
      have c2 := (hbw.cell (p := ⟨g, j * 3 + 2, none⟩) hg).trans d2
      have HT := Lib.hid (List.take_succ_eq_append_getElem hlt)
      have htl : (ws.take j).length ≤ 1000000 := by rw [List.length_take]; omega
      clear hcl d0 d1 d2
      generalize ws[j] = x at *
      have HOUT := Lib.hid hout
      clear hout
      go_wp2_with (at_builtin; refine wpList_pushWR rfl (.tmp 12) (.tmp 14) rfl w.heap.size _ (ws.take j) x (wr.alloc _) _ _ rfl _ rfl ?hg rfl (World.ownsRow.alloc HOUT.out _) ?hl ?hB ?_)
      case hl => omega
      case hB => omega
      intro v' w' ho' hk' hB' _
      go_wp2
      go_roundw
      case rel => exact ⟨j + 1, by omega, by go_num, by rw [HT.out]; exact ho', (hbw.alloc hBr _).trans hk'⟩
      case measure => simp [intOf]; omega
    · have hje : j = ws.length := by omega
      subst hje
      have HT := Lib.hid (List.take_of_length_le (Nat.le_refl ws.length))
      have HOUT := Lib.hid hout
      clear hout
      go_wp2
      go_ret
      exact ⟨⟨_, rfl, by have := HOUT.out; rw [HT.out] at this; exact this⟩, hbw⟩

set_option maxHeartbeats 2000000 in
set_option maxRecDepth 100000 in
theorem sameW_any (v u : Value) (B C : Nat) (ws : List Lx.Wd) (w : World) (h1 : OwnWR w B v ws) (h2 : OwnWR w C u ws) :
    Calls Tryz.prog 26 #[v, u] w fun e w' => e = .returned (.bool true) ∧ ∃ n, w' = w.drewN n := by
  obtain ⟨a, c, rfl⟩ := own_slice h1
  obtain ⟨b, d, rfl⟩ := own_slice h2
  have hln := own_len h1
  have H1 := Lib.hid h1
  have H2 := Lib.hid h2
  clear h1 h2
  go_enter Tryz.func26, Tryz.ntmps26
  go_wp2
  go_loopw [5] (fun i wr => ∃ j n : Nat, j ≤ ws.length ∧ i = .int .i64 j ∧ wr = w.drewN n) (fun i _ => ws.length - (intOf i).toNat)
  case atStart => exact ⟨0, 0, by omega, rfl, rfl⟩
  case round =>
    obtain ⟨j, n, hj, rfl, rfl⟩ := hrel
    by_cases hlt : j < ws.length
    · obtain ⟨_, hnc, g, rfl, hg, hcl⟩ := rowW_cells H1.out rfl (by omega)
      obtain ⟨_, hnd, q, rfl, hq, hql⟩ := rowW_cells H2.out rfl (by omega)
      obtain ⟨c0, c1, c2⟩ := hcl j hlt
      obtain ⟨d0, d1, d2⟩ := hql j hlt
      clear hcl hql
      have hi0 : (0 : Int) ≤ (j : Int) := Int.natCast_nonneg _
      have hi1 : (j : Int) < (ws.length : Int) := by omega
      generalize ws[j] = x at *
      go_wp2
      go_quiet (fail)
      go_wp2
      go_roundw
      case rel => exact ⟨j + 1, _, by omega, by go_num, rfl⟩
      case measure => simp [intOf]; omega
    · have hje : j = ws.length := by omega
      subst hje
      go_wp2
      go_ret
      exact ⟨rfl, _, rfl⟩
end Go.Proofs.YtmhakkahclbbjaaGreatDoor
