/-
  THE CONTRACT of lex.Words.
-/
import Derived.Test.YtmhakkahclbbjaaGreatDoorLk
namespace Go.Proofs.YtmhakkahclbbjaaGreatDoor
open Go.RowKit

/-- Words' answer as Go gives it -/
def WordsR (B : Nat) : Except Nat (List Lx.Wd) → Ending → World → Prop
  | .ok ws, e, w' => ∃ v, e = .returned (.tuple #[v, .int .i64 0]) ∧ OwnW w' B v ws
  | .error n, e, _ => e = .returned (.tuple #[.slice none 0 0, .int .i64 n])

theorem kind_int (x : Lx.Wd) : (((x.kind : Nat) : Int) == 12) = decide (x.kind = 12) := by
  rw [Bool.eq_iff_iff]; simp; omega

set_option maxHeartbeats 4000000 in
set_option maxRecDepth 100000 in
theorem words_any (s : ByteArray) (w : World) (hs : s.size ≤ 50000) (hE : Env w) :
    Calls Tryz.prog 43 #[.string s] w fun e w' => WordsR w.heap.size (Lx.words s.data.toList) e w' ∧ Below w.heap.size w w' := by
  have cL := isLine_any s w (by omega) hE
  unfold Lx.words
  by_cases hL : Lx.isLine s.data.toList = true
  · rw [if_pos hL]
    rw [hL] at cL
    clear hL
    obtain ⟨ANS, hANS⟩ : ∃ ANS, Lx.wordsGo s.data.toList (s.data.toList.length + 1) (Lx.past s.data.toList 0) true = ANS := ⟨_, rfl⟩
    rw [hANS]
    rw [ba_len] at hANS
    have HA : Hid (Lx.joinW [] (Lx.wordsGo s.data.toList (s.size + 1) (Lx.past s.data.toList 0) true) = ANS) := by
      show _ = ANS
      rw [hANS]; cases ANS <;> rfl
    clear hANS
    have HP := Lib.hid (fun k hk w => past_any s k w (by omega) hk)
    have hp0 := Lx.past_le s.data.toList 0 (Nat.zero_le _)
    rw [ba_len] at hp0
    have cP0 := Lib.hid (fun w => past_any s 0 w (by omega) (Nat.zero_le _))
    have HL := Lib.hid cL
    have hE' := Lib.hid hE
    clear cL hE
    go_enter Tryz.func43, Tryz.ntmps43
    go_wp2_with (first
      | (go_at_call 63; refine HL.out.mono ?_; rintro e w1 ⟨rfl, hb⟩)
      | (go_at_call 64; refine (cP0.out _).mono ?_; rintro e w' ⟨rfl, rfl⟩))
    clear HL cP0
    have hB := hb.size
    go_loopw [4, 5, 6] (fun v d i wr => ∃ (k n : Nat) (acc : List Lx.Wd) (q : Bool), k ≤ s.size ∧ s.size < k + n ∧ (k < s.size → Lx.isB (s.data.toList.getD k 0) 32 = false) ∧ i = .int .i64 k ∧ d = .bool q ∧ OwnW wr w.heap.size v acc ∧ Below w.heap.size w wr ∧ acc.length ≤ k ∧ Hid (Lx.joinW acc (Lx.wordsGo s.data.toList n k q) = ANS)) (fun _ _ i _ => s.size - (intOf i).toNat)
    case atStart =>
      refine ⟨Lx.past s.data.toList 0, s.size + 1, [], true, hp0, by omega, fun h => Lx.past_not _ _ (by rw [ba_len]; exact h), rfl, rfl, World.ownsRow_nil _ _ _ _, hb, by simp, HA⟩
    case round =>
      obtain ⟨k, n, acc, q, hk, hn, hnb, rfl, rfl, hown, hbw, hal, HK⟩ := hrel
      clear HA
      have hBr := hbw.size
      have cO := Lib.hid (fun w => over_any s k w (by omega) hk)
      obtain ⟨m, rfl⟩ : ∃ m, n = m + 1 := ⟨n - 1, by omega⟩
      have hK := HK.out
      unfold Lx.wordsGo at hK
      clear HK
      by_cases ho : Lx.over s.data.toList k = true
      · rw [if_pos ho] at hK
        rw [ho] at cO
        have hA : ANS = .ok acc := by rw [← hK]; simp [Lx.joinW]
        clear hK ho
        subst hA
        go_wp2_with (go_at_call 65; refine (cO.out _).mono ?_; rintro e w' ⟨rfl, rfl⟩)
        go_ret2
        exact ⟨⟨_, rfl, hown⟩, hbw⟩
      · rw [if_neg ho] at hK
        rw [Bool.eq_false_iff.2 ho] at cO
        have hks : k < s.size := by
          rcases Nat.lt_or_ge k s.size with h | h
          · exact h
          · exfalso; apply ho; unfold Lx.over; rw [ba_len]; have : k = s.size := by omega
            rw [this]; simp
        have hnb := hnb hks
        have hEr : Env wr := hE'.out.below hbw
        have cW := wordAt_any s k q wr hs hks hnb hEr
        clear ho hEr
        cases hw : Lx.wordAt s.data.toList k q with
        | error e =>
          rw [hw] at cW hK
          have he := Lx.wordAt_err _ _ _ _ hw
          have hA : ANS = .error e := by rw [← hK]; rfl
          clear hK hw
          subst hA
          have be : ((e : Int) != 0) = true := bne_iff_ne.2 (by omega)
          unfold wordE at cW
          have CW := Lib.hid cW
          clear cW
          go_wp2_with (first
            | (go_at_call 65; refine (cO.out _).mono ?_; rintro e w' ⟨rfl, rfl⟩)
            | (go_at_call 66; refine CW.out.mono ?_; rintro e w2 ⟨rfl, hb2⟩))
          go_ret2
          exact ⟨rfl, hbw.trans ((bthen hb2 (bnew w2 _)).mono hBr)⟩
        | ok p =>
          obtain ⟨x, z⟩ := p
          rw [hw] at cW hK
          obtain ⟨hz1, hz2, hxk, hxa⟩ := Lx.wordAt_size _ _ _ _ _ (by rw [ba_len]; exact hks) hnb hw
          rw [ba_len] at hz2
          simp only at hK
          rw [Lx.joinW_step] at hK
          have cP := HP.out (k + z) hz2
          have hpl := Lx.past_le s.data.toList (k + z) (by rw [ba_len]; exact hz2)
          rw [ba_len] at hpl
          have hpg := Lx.past_ge s.data.toList (k + z)
          have hpn : Lx.past s.data.toList (k + z) < s.size → _ := fun h => Lx.past_not s.data.toList (k + z) (by rw [ba_len]; exact h)
          have HK := Lib.hid hK
          have HPN := Lib.hid hpn
          clear hK hw hpn hxk hxa
          generalize Lx.past s.data.toList (k + z) = J at *
          unfold wordE wordV at cW
          simp only at cW
          have CW := Lib.hid cW
          have CP := Lib.hid cP
          have hki := kind_int x
          clear cW cP
          generalize decide (x.kind = 12) = D at *
          go_wp2_with (first
            | (go_at_call 65; refine (cO.out _).mono ?_; rintro e w' ⟨rfl, rfl⟩)
            | (go_at_call 66; refine CW.out.mono ?_; rintro e w2 ⟨rfl, hb2⟩)
            | (at_builtin; refine wpList_pushW rfl (.tmp 30) (.tmp 32) rfl w.heap.size _ acc x (w2.alloc _) _ _ rfl _ rfl ?hg rfl (World.ownsRow.alloc (row_below hown hb2) _) ?hl ?hB ?_))
          case hg => rw [World.size_alloc]
          case hl => omega
          case hB => rw [World.size_alloc]; have := hb2.size; omega
          intro v' w' ho' hk' hB' hot
          have hlt := World.ownsRow.lt (row_below hown hb2)
          have c0 : w'.cell? ⟨w2.heap.size, 0, none⟩ = some (.int .i64 x.kind) := by
            have h7 := hot w2.heap.size (by first | omega | (rw [World.size_alloc]; omega)) (fun e => by have := (hlt _ e).2; omega)
            have e7 : (w2.alloc (.cells #[.int .i64 x.kind, .string (str x.text), .int .i64 x.at_] 32)).heap[w2.heap.size]? = some (.cells #[.int .i64 x.kind, .string (str x.text), .int .i64 x.at_] 32 (0, 0)) := by show (w2.heap.push _)[w2.heap.size]? = _; simp
            rw [e7] at h7
            exact cell_blk h7 0 _ rfl
          have hfin : Below w.heap.size w w' := (hbw.trans ((bthen hb2 (bnew w2 _)).mono hBr)).trans hk'
          have HO := Lib.hid ho'
          clear hot hlt ho' hown
          cases q
          all_goals
            go_wp2_with (go_at_call 64; refine (CP.out _).mono ?_; rintro e w' ⟨rfl, rfl⟩)
            go_roundw
            case rel => exact ⟨J, m, acc ++ [x], _, hpl, by omega, HPN.out, rfl, rfl, HO.out, hfin, by simp; omega, HK⟩
            case measure => simp [intOf]; omega
  · rw [if_neg hL]
    rw [Bool.eq_false_iff.2 hL] at cL
    clear hL hE
    have HL := Lib.hid cL
    clear cL
    go_enter Tryz.func43, Tryz.ntmps43
    go_wp2_with (go_at_call 63; refine HL.out.mono ?_; rintro e w1 ⟨rfl, hb⟩)
    go_ret2
    exact ⟨rfl, hb⟩
end Go.Proofs.YtmhakkahclbbjaaGreatDoor
