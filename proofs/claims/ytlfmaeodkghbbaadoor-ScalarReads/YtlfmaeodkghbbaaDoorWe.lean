/-
  Walk of scalar.appendHex; a law for append onto bytes that the call owns.
-/
import Derived.Test.YtlfmaeodkghbbaaDoorWd
import Derived.Test.YtlfmaeodkghbbaaDoorMe

namespace Go.Proofs.YtlfmaeodkghbbaaDoor
open Go.RowKit

theorem info5 : (Tryd.prog.info? 5).map (fun i => (i.zero, i.size, i.bytes)) = some (some (.int .u8 0), 1, 1) := by kernel_rfl

theorem and15 (r q : Nat) (hr : r ≤ 1114111) : bits BinOp.and IntKind.i32 ((r : Int) / 2 ^ (4 * q)) 15 = ((r / 16 ^ q % 16 : Nat) : Int) := by
  have h0 : (0 : Int) ≤ (r : Int) / 2 ^ (4 * q) := Int.ediv_nonneg (by omega) (Int.le_of_lt (Int.pow_pos (by decide)))
  have e : (2 : Int) ^ (4 * q) = ((16 ^ q : Nat) : Int) := by
    rw [Int.pow_mul]; simp
  have hle : (r : Int) / 2 ^ (4 * q) ≤ r := Int.ediv_le_self _ (by omega)
  have := bits_mask .i32 31 (by decide) wraps_i32 4 (by decide) ((r : Int) / 2 ^ (4 * q)) h0 (by omega)
  have e4 : (2 : Int) ^ 4 = 16 := by decide
  rw [e4] at this
  have e15 : (16 : Int) - 1 = 15 := by decide
  rw [e15] at this
  rw [this, e]
  omega

/-- 'append' of bytes that were just laid, onto bytes that the call owns -/
theorem wpList_push {ops : Array Oper} {rest : List Oper} {o : Oper} {a : Act} {Q : Exit → Act → World → Prop} (hgd : o.guard = none) (s x : Operand)
    (ho : o.op = .call { callee := .builtin .append, args := #[s, x], argTypes := #[43, 43] }) (B : Nat) (v : Value) (l m : List UInt8) (w0 : World) (C : Array Value) (n c : Nat)
    (hs : a.eval s = v) (ga : Nat) (hx : a.eval x = .slice (some ⟨ga, 0, none⟩) n c) (hga : ga = w0.heap.size) (hC : C = (Lib.byteCells m).toArray) (hm : n = m.length) (hown : Own w0 B v l) (hl : l.length + m.length ≤ 2000000) (hB : B ≤ w0.heap.size)
    (h : ∀ v' w', Own w' B v' (l ++ m) → Kept B w0 w' → B ≤ w'.heap.size → wpList Tryd.prog ops Q rest (a.put o.dst v') w') :
    wpList Tryd.prog ops Q (o :: rest) a (w0.alloc (.cells C 5)) := by
  subst hC hm hga
  obtain ⟨i0, hi, hz0, hz1, hz2⟩ := info_parts info5
  refine wpList_append_own _ hgd s x 43 ho B 5 i0 (.int .u8 0) 1 1 Tryd.underlying43 hi hz0 hz1 hz2 rfl (by decide) v l.length (Lib.byteCells l) hs (own_alloc hown _) ⟨w0.heap.size, 0, none⟩ m.length c (Lib.byteCells m) hx (by rw [Lib.byteCells_length, Nat.mul_one])
    (fun j u hu => cells_of_new w0 5 (Lib.byteCells m) j u hu) (fun u hu => by simp only [Lib.byteCells, List.mem_map] at hu; obtain ⟨b, _, rfl⟩ := hu; rfl) (by simp only [maxLen]; omega) (by omega) (by rw [World.size_alloc]; omega) ?_
  intro v' w' ho' hg _
  have hk : Kept B w0 w' := ((Kept.refl B w0).alloc hB _).grown (own_alloc hown _) hg (by rw [World.size_alloc]; omega)
  exact h v' w' (own_of_append ho' (by simp) (by rw [Lib.byteCells_append])) hk (Nat.le_trans hB hk.size)

def hexS : ByteArray := ⟨#[48, 49, 50, 51, 52, 53, 54, 55, 56, 57, 97, 98, 99, 100, 101, 102]⟩
theorem hexS_at : ∀ x : Fin 16, hexS[x.val]'(by have := x.isLt; exact this) = Sc.hexd x.val := by decide

set_option maxHeartbeats 1000000 in
set_option maxRecDepth 100000 in
theorem hex_any (B : Nat) (v : Value) (l : List UInt8) (r d : Nat) (w : World) (hr : r ≤ 1114111) (hd : d ≤ 8) (hown : Own w B v l) (hn : l.length ≤ 1000000) (hB : B ≤ w.heap.size) :
    Calls Tryd.prog 52 #[v, .int .i32 r, .int .i64 d] w fun e w' => ∃ v', e = .returned v' ∧ Own w' B v' (l ++ Sc.hexL r d) ∧ Kept B w w' := by
  obtain ⟨ANS, hANS⟩ : ∃ ANS, l ++ Sc.hexL r d = ANS := ⟨_, rfl⟩
  rw [hANS]
  have HA := Lib.hid hANS
  clear hANS
  go_enter Tryd.func52, Tryd.ntmps52
  go_wp2
  go_loopw [0, 7] (fun v p wr => ∃ (m : Nat) (a : List UInt8), m ≤ d ∧ p = .int .i64 ((m : Int) - 1) ∧ Hid (a ++ Sc.hexL r m = ANS) ∧ Own wr B v a ∧ Kept B w wr ∧ B ≤ wr.heap.size ∧ a.length + m ≤ 1000010) (fun _ p _ => ((intOf p) + 1).toNat)
  case atStart => exact ⟨d, l, Nat.le_refl _, rfl, HA, hown, Kept.refl _ _, hB, by omega⟩
  case round =>
    obtain ⟨m, a, hm, rfl, HK, hown, hkp, hBr, hal⟩ := hrel
    clear HA
    by_cases h0 : m = 0
    · subst h0
      go_wp2
      go_ret
      have : a = ANS := by rw [← HK.out]; simp [Sc.hexL]
      subst this
      exact ⟨_, rfl, hown, hkp⟩
    · obtain ⟨q, rfl⟩ : ∃ q, m = q + 1 := ⟨m - 1, by omega⟩
      have hb := and15 r q hr
      obtain ⟨x, hx⟩ : ∃ x, x = r / 16 ^ q % 16 := ⟨_, rfl⟩
      rw [← hx] at hb
      have hx16 : x < 16 := by rw [hx]; exact Nat.mod_lt _ (by decide)
      obtain ⟨bx, hbx⟩ : ∃ bx, (⟨#[48, 49, 50, 51, 52, 53, 54, 55, 56, 57, 97, 98, 99, 100, 101, 102]⟩ : ByteArray)[x]'(by exact hx16) = bx := ⟨_, rfl⟩
      have HN : Hid ((a ++ [bx]) ++ Sc.hexL r q = ANS) := by
        have e : bx = Sc.hexd x := by rw [← hbx]; exact hexS_at ⟨x, hx16⟩
        show (a ++ [bx]) ++ Sc.hexL r q = ANS
        rw [← HK.out, e, hx]; simp [Sc.hexL]
      clear hx HK
      go_wp2_with (at_builtin; refine wpList_push rfl (.tmp 14) (.tmp 21) rfl B _ a [bx] wr _ _ _ rfl _ rfl rfl ?hC rfl hown ?hl hBr ?_)
      case hC => rfl
      case hl => simp; omega
      intro v' w' ho' hk' hB'
      clear hown
      go_wp2
      go_roundw
      case rel => exact ⟨q, a ++ [bx], by omega, by go_num, HN, ho', hkp.trans hk', hB', by simp; omega⟩
      case measure => simp [intOf]
end Go.Proofs.YtlfmaeodkghbbaaDoor
