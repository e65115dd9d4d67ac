/-
  The walk of the document's Pieces.
-/
import Derived.Test.YtjcfmghijfnehaaGreatDoorKo
import Derived.Test.YtjcfmghijfnehaaGreatDoorXf
namespace Go.Proofs.YtjcfmghijfnehaaGreatDoor
open Go.RowKit
def strCells (ps : List (List UInt8)) : List Value := ps.map fun p => .string (str p)
/-- texts that a call owns -/
def OwnT (w : World) (B : Nat) (v : Value) (ps : List (List UInt8)) : Prop := w.ownsRow B 9 1 v ps.length (strCells ps)
theorem OwnT.below {w w' : World} {B : Nat} {v : Value} {ps : List (List UInt8)} (h : OwnT w B v ps) (hb : Below w.heap.size w w') : OwnT w' B v ps := row_below h hb
theorem infoT : (Tryz.prog.info? 9).map (fun i => (i.zero, i.size, i.bytes)) = some (some (.string ⟨#[]⟩), 1, 16) := by kernel_rfl
theorem wpList_pushT {ops : Array Oper} {rest : List Oper} {o : Oper} {a : Act} {Q : Exit → Act → World → Prop} (hgd : o.guard = none) (s x : Operand)
    (ho : o.op = .call { callee := .builtin .append, args := #[s, x], argTypes := #[42, 42] }) (B : Nat) (v : Value) (ps : List (List UInt8)) (y : List UInt8) (w0 : World) (C : Array Value) (c : Nat)
    (hs : a.eval s = v) (ga : Nat) (hx : a.eval x = .slice (some ⟨ga, 0, none⟩) 1 c) (hga : ga = w0.heap.size) (hC : C = #[.string (str y)]) (hown : OwnT w0 B v ps) (hl : ps.length ≤ 1000000) (hB : B ≤ w0.heap.size)
    (h : ∀ v' w', OwnT w' B v' (ps ++ [y]) → Below B w0 w' → B ≤ w'.heap.size → wpList Tryz.prog ops Q rest (a.put o.dst v') w') :
    wpList Tryz.prog ops Q (o :: rest) a (w0.alloc (.cells C 9)) := by
  subst hC hga
  obtain ⟨i0, hi, hz0, hz1, hz2⟩ := info_parts infoT
  refine wpList_append_own _ hgd s x 42 ho B 9 i0 _ 1 16 Tryz.underlying42 hi hz0 hz1 hz2 rfl (by decide) v ps.length (strCells ps) hs (World.ownsRow.alloc hown _) ⟨w0.heap.size, 0, none⟩ 1 c [.string (str y)] hx rfl
    (fun j u hu => cells_of_new w0 9 [.string (str y)] j u hu) (fun u hu => by simp only [List.mem_cons, List.not_mem_nil, or_false] at hu; subst hu; rfl) (by simp only [maxLen]; omega) (by omega) (by rw [World.size_alloc]; omega) ?_
  intro v' w' ho' hg _
  have hk : Below B w0 w' := ((Below.refl B w0).alloc hB _).grown hg (by rw [World.size_alloc]; omega) (fun k hk => (World.ownsRow.lt hown k hk).1)
  refine h v' w' ?_ hk (Nat.le_trans hB hk.size)
  unfold OwnT strCells at *
  rw [List.length_append, List.map_append]
  exact ho'
theorem drop_cons' (s : ByteArray) (k : Nat) (h : k < s.size) : s.data.toList.drop k = s[k] :: s.data.toList.drop (k + 1) := Sc.drop_cons s k h
/-- one byte of a text -/
theorem one_byte (s : ByteArray) (k : Nat) (h : k < s.size) : s.extract k (k + 1) = str [s[k]] := by
  apply str_inj
  rw [str_data]
  have : (s.extract k (k + 1)).data.toList = (s.data.toList.drop k).take 1 := by
    rw [ByteArray.data_extract, Array.toList_extract]
    simp [List.extract]
  rw [this, drop_cons' s k h]
  rfl
set_option maxHeartbeats 4000000 in
set_option maxRecDepth 100000 in
theorem pieces_doc (s : ByteArray) (w : World) (hs : s.size ≤ 50000) :
    Calls Tryz.prog 21 #[.string s] w fun e w' => (∃ v, e = .returned v ∧ OwnT w' w.heap.size v (Lx.sp s.data.toList)) ∧ Below w.heap.size w w' := by
  obtain ⟨ANS, hANS⟩ : ∃ ANS, Lx.sp s.data.toList = ANS := ⟨_, rfl⟩
  rw [hANS]
  have HA : Hid ([] ++ Lx.spGo [] (s.data.toList.drop 0) = ANS) := by show _ = _; rw [List.drop_zero, List.nil_append]; exact hANS
  clear hANS
  go_enter Tryz.func21, Tryz.ntmps21
  go_wp2
  go_loopw [3, 4, 5] (fun ov pv iv wr => ∃ (j : Nat) (acc : List (List UInt8)) (p : List UInt8), j ≤ s.size ∧ p.length ≤ j ∧ acc.length ≤ j ∧ pv = .string (str p) ∧ iv = .int .i64 j ∧ OwnT wr w.heap.size ov acc ∧ Below w.heap.size w wr ∧ Hid (acc ++ Lx.spGo p (s.data.toList.drop j) = ANS)) (fun _ _ i _ => s.size - (intOf i).toNat)
  case atStart => exact ⟨0, [], [], by omega, by simp, by simp, rfl, rfl, World.ownsRow_nil _ _ _ _, Below.refl _ _, HA⟩
  case round =>
    obtain ⟨j, acc, p, hj, hpl, hal, rfl, rfl, hown, hbw, HK⟩ := hrel
    clear HA
    have hBr := hbw.size
    have hps : (str p).size = p.length := str_len p
    by_cases hlt : j < s.size
    · have hK := HK.out
      rw [drop_cons' s j hlt] at hK
      unfold Lx.spGo at hK
      have h1 := one_byte s j hlt
      have hb := s[j].toNat_lt
      clear HK
      by_cases h10 : s[j] = 10
      · rw [if_pos h10] at hK
        have b10 : ((s[j].toNat : Int) != 10) = false := by rw [h10]; rfl
        obtain ⟨va, vc, rfl⟩ := own_slice hown
        have HO := Lib.hid hown
        have HK : Hid ((acc ++ [p]) ++ Lx.spGo [] (s.data.toList.drop (j + 1)) = ANS) := by show _ = _; rw [← hK]; simp
        clear hown hK h1 h10
        go_wp2_with (at_builtin; refine wpList_pushT rfl (.tmp 23) (.tmp 25) rfl w.heap.size _ acc p wr _ _ rfl _ rfl rfl rfl HO.out (by omega) hBr ?_; intro v' w2 ho2 hb2 hB2)
        go_roundw
        case rel => exact ⟨j + 1, acc ++ [p], [], by omega, by simp, by simp; omega, rfl, by go_num, ho2, hbw.trans hb2, HK⟩
        case measure => simp [intOf]; omega
      · rw [if_neg h10] at hK
        have b10 : ((s[j].toNat : Int) != 10) = true := bne_iff_ne.2 fun e => h10 (UInt8.toNat_inj.1 (by rw [show (10 : UInt8).toNat = 10 from rfl]; omega))
        have HK := Lib.hid hK
        have HO := Lib.hid hown
        obtain ⟨va, vc, rfl⟩ := own_slice hown
        have hi : ((j : Int) ≤ (j : Int) + 1) := by omega
        have hi2 : ((j : Int) + 1 ≤ (s.size : Int)) := by omega
        have hes : (str [s[j]]).size ≤ 1 := Nat.le_refl _
        clear hown hK h10
        go_wp2
        go_roundw
        case rel => exact ⟨j + 1, acc, p ++ [s[j]], by omega, by simp; omega, by omega, by rw [str_app], by go_num, HO.out, hbw, HK⟩
        case measure => simp [intOf]; omega
    · have hje : j = s.size := by omega
      subst hje
      have hK := HK.out
      rw [List.drop_of_length_le (by rw [ba_len]; exact Nat.le_refl _)] at hK
      unfold Lx.spGo at hK
      obtain ⟨va, vc, rfl⟩ := own_slice hown
      have HO := Lib.hid hown
      clear HK hown
      cases p with
      | nil =>
        have hA : acc = ANS := by rw [← hK]; simp
        subst hA
        clear hK
        rw [str_nil]
        go_wp2
        go_ret
        exact ⟨⟨_, rfl, HO.out⟩, hbw⟩
      | cons b t =>
        have hA : Hid (acc ++ [b :: t] = ANS) := by show _ = _; rw [← hK]; rfl
        clear hK
        have hemp := ba_isEmpty (str (b :: t)) (by rw [str_len]; simp)
        have hnil := ba_notnil (str (b :: t)) (by rw [str_len]; simp)
        generalize b :: t = p at *
        go_wp2_with (at_builtin; refine wpList_pushT rfl (.tmp 29) (.tmp 31) rfl w.heap.size _ acc p wr _ _ rfl _ rfl rfl rfl HO.out (by omega) hBr ?_; intro v' w2 ho2 hb2 hB2; rw [hA.out] at ho2)
        go_ret
        exact ⟨⟨_, rfl, ho2⟩, hbw.trans hb2⟩
end Go.Proofs.YtjcfmghijfnehaaGreatDoor
