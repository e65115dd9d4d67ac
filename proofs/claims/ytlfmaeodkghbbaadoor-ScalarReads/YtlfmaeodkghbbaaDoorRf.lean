/-
  Walks of the document's Text, in and hex.
-/
import Derived.Test.YtlfmaeodkghbbaaDoorRe
namespace Go.Proofs.YtlfmaeodkghbbaaDoor
open Go.RowKit

theorem take_snoc (l : List Nat) (k : Nat) (h : k < l.length) : l.take (k + 1) = l.take k ++ [l[k]] := by
  rw [List.take_succ_eq_append_getElem h]
theorem encs_take (l : List Nat) (k : Nat) (h : k < l.length) : Sc.encs (l.take (k + 1)) = Sc.encs (l.take k) ++ Sc.enc l[k] := by
  rw [take_snoc l k h, Sc.encs_append]; congr 1; simp [Sc.encs]
theorem encs_len (l : List Nat) : (Sc.encs l).length ≤ 4 * l.length := by
  induction l with
  | nil => simp [Sc.encs]
  | cons r t ih =>
    have := Sc.enc_len r
    rw [Sc.encs_cons, List.length_append, List.length_cons]; omega

set_option maxHeartbeats 1000000 in
set_option maxRecDepth 100000 in
/-- Text of characters -/
theorem text_any (a : Option Addr) (l : List Nat) (cap : Nat) (w : World) (hb : RdI w w.heap.size a l) (hch : ∀ r ∈ l, Sc.isCh r) (hL : l.length ≤ 100000) :
    Calls Tryd.prog 31 #[.slice a l.length cap] w fun e w' => e = .returned (.string (str (Sc.encs l))) ∧ Below w.heap.size w w' := by
  have HB := Lib.hid hb
  have HC := Lib.hid hch
  clear hb hch
  go_enter Tryd.func31, Tryd.ntmps31
  go_wp2
  go_loopw [3, 4] (fun v i wr => ∃ k : Nat, k ≤ l.length ∧ i = .int .i64 k ∧ Own wr w.heap.size v (Sc.encs (l.take k)) ∧ Below w.heap.size w wr) (fun _ i _ => l.length - (intOf i).toNat)
  case atStart => exact ⟨0, by omega, rfl, own_nil _ _, Below.refl _ _⟩
  case round =>
    obtain ⟨k, hk, rfl, hown, hbw⟩ := hrel
    have hsz := hbw.size
    by_cases hlt : k < l.length
    · obtain ⟨g, off, rfl, hg, hcb⟩ := HB.out (by omega)
      have ck := (hbw.cell (p := ⟨g, off + k, none⟩) hg).trans (hcb k hlt)
      have hy := HC.out _ (List.getElem_mem hlt)
      have HT := Lib.hid (encs_take l k hlt)
      have hel := encs_len (l.take k)
      have hew := Sc.enc_len l[k]
      rw [List.length_take] at hel
      have hel2 : (Sc.encs (l.take k)).length ≤ 400000 := by omega
      clear hel hcb
      generalize l[k] = y at *
      go_wp2_with (first | (go_at_call 50; refine (bytes_any y _ hy).mono ?_; rintro e w2 ⟨rfl, rfl⟩) | (at_builtin; refine wpList_push rfl (.tmp 11) (.tmp 16) rfl w.heap.size _ (Sc.encs (l.take k)) (Sc.enc y) wr _ _ _ rfl _ rfl rfl rfl rfl hown (by omega) hsz ?_; intro v' w' ho' hk' hB'))
      go_roundw
      case rel => exact ⟨k + 1, by omega, by go_num, by rw [HT.out]; exact ho', hbw.trans hk'.1⟩
      case measure => simp [intOf]; omega
    · have hk2 : l.take k = l := List.take_of_length_le (by omega)
      rw [hk2] at hown
      have hcv := own_string hown
      go_wp2
      go_ret
      exact ⟨rfl, hbw⟩

/-- is a character one of a text's bytes? -/
def inB (r : Nat) (l : List UInt8) : Bool := l.any fun b => b.toNat == r
set_option maxHeartbeats 1000000 in
set_option maxRecDepth 100000 in
theorem in_any (r : Nat) (s : ByteArray) (w : World) (hs : s.size ≤ 1000) :
    Calls Tryd.prog 37 #[.int .i64 r, .string s] w fun e w' => e = .returned (.bool (inB r s.data.toList)) ∧ w = w' := by
  obtain ⟨ANS, hANS⟩ : ∃ ANS, inB r s.data.toList = ANS := ⟨_, rfl⟩
  rw [hANS]
  have HA : Hid (inB r (s.data.toList.drop 0) = ANS) := hANS
  clear hANS
  go_enter Tryd.func37, Tryd.ntmps37
  go_wp2
  go_loop [5] (fun i => ∃ k : Nat, k ≤ s.size ∧ i = .int .i64 k ∧ Hid (inB r (s.data.toList.drop k) = ANS)) (fun i => s.size - (intOf i).toNat)
  case atStart => exact ⟨0, by omega, rfl, HA⟩
  case round =>
    obtain ⟨k, hk, rfl, HK⟩ := hrel
    clear HA
    by_cases hlt : k < s.size
    · have HS : Hid (((s[k].toNat == r) || inB r (s.data.toList.drop (k + 1))) = ANS) := by
        have := HK.out
        rw [Sc.drop_cons s k hlt] at this
        unfold inB at this; rw [List.any_cons] at this
        exact this
      clear HK
      generalize hy : s[k] = y at HS
      have hy2 := y.toNat_lt
      by_cases he : y.toNat = r
      · have b1 : ((y.toNat : Int) == (r : Int)) = true := beq_iff_eq.2 (by omega)
        have hA : ANS = true := by
          have := HS.out; rw [beq_iff_eq.2 he] at this; exact this.symm
        subst hA
        clear HS
        go_wp2
        go_ret
        exact ⟨rfl, rfl⟩
      · have b1 : ((y.toNat : Int) == (r : Int)) = false := beq_eq_false_iff_ne.2 (by omega)
        have HN : Hid (inB r (s.data.toList.drop (k + 1)) = ANS) := by
          have := HS.out; rw [beq_eq_false_iff_ne.2 he, Bool.false_or] at this; exact this
        clear HS
        go_wp2
        go_round
        case rel => exact ⟨k + 1, by omega, by go_num, HN⟩
        case measure => simp [intOf]; omega
    · have hA : ANS = false := by
        have := HK.out; rw [Sc.drop_nil s k (by omega)] at this; exact this.symm
      subst hA
      go_wp2
      go_ret
      exact ⟨rfl, rfl⟩

theorem hexS_cut : ∀ x : Fin 16, hexS.extract x.val (x.val + 1) = str [Sc.hexd x.val] := by decide
set_option maxHeartbeats 1000000 in
set_option maxRecDepth 100000 in
theorem hexR_any (r d : Nat) (w : World) (hr : r ≤ 1114111) (hd : d ≤ 8) :
    Calls Tryd.prog 54 #[.int .i64 r, .int .i64 d] w fun e w' => e = .returned (.string (str (Sc.hexL r d))) ∧ w = w' := by
  go_enter Tryd.func54, Tryd.ntmps54
  go_wp2
  go_loop [0, 5, 6] (fun n o i => ∃ k m : Nat, k ≤ d ∧ m = r / 16 ^ k ∧ n = .int .i64 m ∧ o = .string (str (Sc.hexL r k)) ∧ i = .int .i64 k) (fun _ _ i => d - (intOf i).toNat)
  case atStart => exact ⟨0, r, by omega, by simp, rfl, rfl, rfl⟩
  case round =>
    obtain ⟨k, m, hk, hm, rfl, rfl, rfl⟩ := hrel
    have hml : m ≤ 1114111 := by rw [hm]; exact Nat.le_trans (Nat.div_le_self _ _) hr
    have hhl := Sc.hexL_len r k
    by_cases hlt : k < d
    · have HN : Hid (Sc.hexL r (k + 1) = Sc.hexd (m % 16) :: Sc.hexL r k) := by
        show Sc.hexL r (k + 1) = _
        rw [hm]; rfl
      have HD : Hid (m / 16 = r / 16 ^ (k + 1)) := by
        show m / 16 = _
        rw [hm, Nat.div_div_eq_div_mul, Nat.pow_succ]
      have hx := hexS_cut ⟨m % 16, Nat.mod_lt _ (by decide)⟩
      have hsz : (str (Sc.hexL r k)).size = k := by rw [str_size, hhl]
      simp only at hx
      clear hm
      go_wp2
      go_round
      case rel => exact ⟨k + 1, m / 16, by omega, HD.out, by go_num, by show Value.string (hexS.extract (m % 16) (m % 16 + 1) ++ _) = _; rw [hx, str_app, HN.out]; rfl, by go_num⟩
      case measure => simp [intOf]; omega
    · obtain rfl : k = d := by omega
      go_wp2
      go_ret
      exact ⟨rfl, rfl⟩
end Go.Proofs.YtlfmaeodkghbbaaDoor
