/-
  The walk of reader.place.
-/
import Derived.Test.YtjcfmghijfnehaaGreatDoorJp
import Derived.Deep.QuietTactic
namespace Go.Proofs.YtjcfmghijfnehaaGreatDoor
open Go.RowKit
theorem quiet_sameP {P : Program} {f : FuncId} {args : Array Value} {w : World} {n : Nat} {v : Value}
    (h : Calls P f args (w.drewN n) fun e w' => e = .returned v ∧ w.drewN n = w') :
    Calls P f args (w.drewN n) fun e w'' => e = .returned v ∧ ∃ m, w'' = w.drewN m :=
  h.mono fun _ _ ⟨he, hm⟩ => ⟨he, n, hm.symm⟩
open Go.RowKit
theorem drewN_drewN (w : World) (n m : Nat) : (w.drewN n).drewN m = w.drewN (n + m) := by
  unfold World.drewN
  simp [Nat.add_assoc]
theorem RdAt.drewN {w : World} {B R : Nat} {bv ov : Value} {st : Px.St} (h : RdAt w B R bv ov st) (n : Nat) : RdAt (w.drewN n) B R bv ov st := ⟨h.cell, h.blocks, h.out⟩
theorem Keep.drewN {ts : List TypeId} {B : Nat} {w w' : World} (h : Keep ts B w w') (n : Nat) : Keep ts B w (w'.drewN n) := ⟨⟨h.below.os, h.below.tape, h.below.output, h.below.size, h.below.block⟩, h.rest⟩
set_option maxHeartbeats 2000000 in
theorem last_q (R g n cap : Nat) (w : World) (hc : w.cell? ⟨R, 0, none⟩ = some (.slice (some ⟨g, 0, none⟩) (n + 1) cap)) (hn : n ≤ 1000000) :
    Calls Tryz.prog 174 #[.pointer (some ⟨R, 0, none⟩)] w fun e w' => e = .returned (.pointer (some ⟨g, n * 4, none⟩)) ∧ ∃ m, w' = w.drewN m := by
  have h1 : IntKind.i64.wrap (((n + 1 : Nat) : Int) - 1) = (n : Int) := by rw [IntWalk.i64_in _ (by omega)]; omega
  have h2 : (0 : Int) ≤ (n : Int) := by omega
  have h3 : (n : Int) < ((n + 1 : Nat) : Int) := by omega
  generalize hm : n + 1 = m at *
  go_enter Tryz.func174, Tryz.ntmps174
  go_wp2
  go_quiet (fail)
  go_wp2
  go_ret
  refine ⟨by simp [Addr.add], _, rfl⟩
theorem quiet_lastP {P : Program} {f : FuncId} {args : Array Value} {w : World} {n : Nat} {v : Value}
    (h : Calls P f args (w.drewN n) fun e w' => e = .returned v ∧ ∃ m, w' = (w.drewN n).drewN m) :
    Calls P f args (w.drewN n) fun e w'' => e = .returned v ∧ ∃ m, w'' = w.drewN m :=
  h.mono fun _ _ ⟨he, m, hm⟩ => ⟨he, n + m, by rw [hm, drewN_drewN]⟩
namespace Px
theorem dropGo_stop (ind : Int) (n : Nat) (b : Bk) (t : List Bk) (hd : Pr) (out : List Ev.E) (h : t = [] ∨ ¬ ind < b.col) : dropGo ind n ⟨b :: t, hd, out⟩ = ⟨b :: t, hd, out⟩ := by
  cases n with
  | zero => rfl
  | succ n =>
    unfold dropGo
    cases t with
    | nil => rfl
    | cons c t =>
      rcases h with h | h
      · cases h
      · simp only; rw [if_neg h]
theorem dropGo_go (ind : Int) (n : Nat) (b : Bk) (t : List Bk) (hd : Pr) (out : List Ev.E) (ht : 0 < t.length) (h : ind < b.col) : dropGo ind (n + 1) ⟨b :: t, hd, out⟩ = dropGo ind n (close1 ⟨b :: t, hd, out⟩) := by
  cases t with
  | nil => simp at ht
  | cons c t =>
    show (if ind < b.col then _ else _) = _
    rw [if_pos h]
theorem close1_blocks (b : Bk) (t : List Bk) (hd : Pr) (out : List Ev.E) : (close1 ⟨b :: t, hd, out⟩).blocks = t := by
  unfold close1
  simp only
  split <;> rfl
end Px

set_option maxHeartbeats 16000000 in
set_option maxRecDepth 100000 in
theorem place_any (B R : Nat) (st : Px.St) (x : Lx.Ln) (wa : Option Addr) (wc : Nat) (w : World) (h : RdrAt w B R st) (hne : 0 < st.blocks.length) (hB : B ≤ R) (hb : st.blocks.length ≤ 900) (hl : Px.wt st ≤ 2199023255400)
    (hW : RdW w B (.slice wa x.words.length wc) x.words) :
    Calls Tryz.prog 114 #[.pointer (some ⟨R, 0, none⟩), .agg #[.int .i64 x.mark, .int .i64 x.indent, .slice wa x.words.length wc, .string (str x.text)]] w fun e w' => RdrR B R (Px.place st x) e w' ∧ Keep rdT B w w' := by
  obtain ⟨xm, xi, xw, xt⟩ := x
  simp only at hW ⊢
  unfold Px.place
  obtain ⟨ANS, hANS⟩ : ∃ ANS, Px.dropTo xi st = ANS := ⟨_, rfl⟩
  simp only
  rw [hANS]
  have HA : Hid (Px.dropGo xi st.blocks.length st = ANS) := hANS
  have hR := h.lt
  have hBw : B ≤ w.heap.size := by omega
  have HH := Lib.hid h
  have HW := Lib.hid hW
  have HX0 := Lib.hid (alloc_blk w (.cells #[.int .i64 xm, .int .i64 xi, .slice wa xw.length wc, .string (str xt)] 76))
  clear hANS h hW
  go_enter Tryz.func114, Tryz.ntmps114
  go_wp2
  go_loopw [] (fun wr => ∃ (s : Px.St), Hid (RdrAt wr B R s) ∧ Hid (Px.dropGo xi s.blocks.length s = ANS) ∧ Hid (Keep rdT B w wr) ∧ Hid (wr.heap[w.heap.size]? = some (.cells #[.int .i64 xm, .int .i64 xi, .slice wa xw.length wc, .string (str xt)] 76)) ∧ 0 < s.blocks.length ∧ s.blocks.length ≤ 900 ∧ Px.wt s ≤ 2199023255400) (fun wr => lenAt R wr)
  case atStart => exact ⟨st, HH.out.call (bnew w _), HA, keep_of (bnew w _) hBw, HX0, hne, hb, hl⟩
  case round =>
    obtain ⟨s, HS, HK, HKp, HXp, hsn, hsb, hsl⟩ := hrel
    clear HA HH hb hl hne HX0
    have HL := Lib.hid HS.out.lenAt
    obtain ⟨bs, hd, out⟩ := s
    simp only at hsn hsb
    unfold Px.wt at hsl
    simp only at hsl
    cases bs with
    | nil => simp at hsn
    | cons b t =>
      simp only [List.length_cons] at hsb hsl
      have HR0 := HS
      obtain ⟨bv0, ov0, hr0⟩ := HR0
      obtain ⟨g0, cap0, cur0, rfl, hBg, hcap, hg0, t0, t1, t2, t3, tf⟩ := hr0.top
      have HR1 := Lib.hid hr0
      have HK1 := HKp
      have HX1 := HXp
      have c0 := cell_blk hr0.cell 0 _ rfl
      obtain ⟨⟨x0, x1, x2, x3⟩, _⟩ := four HXp.out
      have CD := Lib.hid (fun a cap w hc => rdepth_any R t.length cap a w hc (by omega))
      generalize hwr : wr = w1 at *
      clear hg0 hr0 hwr
      rcases Nat.eq_zero_or_pos t.length with h0 | hpos
      · have hA : ANS = ⟨b :: t, hd, out⟩ := by rw [← HK.out]; exact Px.dropGo_stop _ _ _ _ _ _ (.inl (List.length_eq_zero_iff.1 h0))
        subst hA
        have CD : Hid (∀ a cap w (_ : w.cell? ⟨R, 0, none⟩ = some (.slice a (t.length + 1) cap)), Calls Tryz.prog 173 #[.pointer (some ⟨R, 0, none⟩)] w fun e w' => e = .returned (.int .i64 0) ∧ w = w') := Lib.hid (fun a cap w hc => (by have h := CD.out a cap w hc; rw [show ((t.length : Nat) : Int) = 0 by omega] at h; exact h))
        clear h0
        have CL8 := Lib.hid (fun g cap w hc => last_any R g t.length cap w hc (by omega))
        by_cases hci : b.col = xi
        · have q1 : (b.col == (xi : Int)) = true := beq_iff_eq.2 hci
          have CG := Lib.hid (fun w1 (h : RdW w1 B (.slice wa xw.length wc) xw) => goesOn_any b.kind _ xw B w1 h)
          cases hgo : Px.goesOn b.kind xw
          · rw [hgo] at CG
            have hpl : Px.placeAt ⟨b :: t, hd, out⟩ xi xw = .error 9 := by unfold Px.placeAt; simp only; rw [if_neg (by simp [hci]), hgo]; rfl
            have HPL := Lib.hid hpl
            clear hpl hgo hci
            go_wp2
            go_quiet ((go_at_call 173; exact quiet_sameP (CD.out _ _ _ (by exact c0))))
            have HR4 := HR1.out.drewN nq
            have HK4 := HK1.out.drewN nq
            have HX4 : (World.drewN w1 nq).heap[w.heap.size]? = some (.cells #[.int .i64 xm, .int .i64 xi, .slice wa xw.length wc, .string (str xt)] 76) := HX1.out
            generalize World.drewN w1 nq = w4 at *
            have HR4 := Lib.hid HR4
            have HK4 := Lib.hid HK4
            have HX4 := Lib.hid HX4
            clear c0 t0 t1 t2 t3 tf x0 x1 x2 x3
            obtain ⟨gg4, cc4, cu4, ee4, _, _, hgg4, t0, t1, t2, t3, tf⟩ := HR4.out.top
            cases ee4
            clear hgg4
            have c0 := cell_blk HR4.out.cell 0 _ rfl
            obtain ⟨⟨x0, x1, x2, x3⟩, _⟩ := four HX4.out
            go_upto_region 3 with fail
            go_quiet ((go_at_call 174; exact quiet_lastP (last_q R _ t.length _ _ (by exact c0) (by omega))))
            have HR5 := HR4.out.drewN nq
            have HK5 := HK4.out.drewN nq
            have HX5 : (World.drewN w4 nq).heap[w.heap.size]? = some (.cells #[.int .i64 xm, .int .i64 xi, .slice wa xw.length wc, .string (str xt)] 76) := HX4.out
            generalize World.drewN w4 nq = w5 at *
            have HR5 := Lib.hid HR5
            have HK5 := Lib.hid HK5
            have HX5 := Lib.hid HX5
            clear c0 t0 t1 t2 t3 tf x0 x1 x2 x3
            obtain ⟨gg5, cc5, cu5, ee5, _, _, hgg5, t0, t1, t2, t3, tf⟩ := HR5.out.top
            cases ee5
            clear hgg5
            have c0 := cell_blk HR5.out.cell 0 _ rfl
            obtain ⟨⟨x0, x1, x2, x3⟩, _⟩ := four HX5.out
            go_upto_region 6 with fail
            go_quiet ((first | (go_at_call 174; exact quiet_lastP (last_q R _ t.length _ _ (by exact c0) (by omega))) | (go_at_call 175; exact quiet_sameP (CG.out _ (by exact HW.out.below (HK5.out.drewN _).below)))))
            have HR6 := HR5.out.drewN nq
            have HK6 := HK5.out.drewN nq
            have HX6 : (World.drewN w5 nq).heap[w.heap.size]? = some (.cells #[.int .i64 xm, .int .i64 xi, .slice wa xw.length wc, .string (str xt)] 76) := HX5.out
            generalize World.drewN w5 nq = w6 at *
            have HR6 := Lib.hid HR6
            have HK6 := Lib.hid HK6
            have HX6 := Lib.hid HX6
            clear c0 t0 t1 t2 t3 tf x0 x1 x2 x3
            obtain ⟨gg6, cc6, cu6, ee6, _, _, hgg6, t0, t1, t2, t3, tf⟩ := HR6.out.top
            cases ee6
            clear hgg6
            have c0 := cell_blk HR6.out.cell 0 _ rfl
            obtain ⟨⟨x0, x1, x2, x3⟩, _⟩ := four HX6.out
            go_wp2
            exact ⟨rfl, by rw [HPL.out]; rfl, HK6.out⟩
          · rw [hgo] at CG
            cases hwt : b.waits
            · have hpl : Px.placeAt ⟨b :: t, hd, out⟩ xi xw = .ok ⟨b :: t, hd, out⟩ := by unfold Px.placeAt; simp only; rw [if_neg (by simp [hci]), hgo, hwt]; rfl
              have HPL := Lib.hid hpl
              clear hpl hgo hci
              go_wp2
              go_quiet ((go_at_call 173; exact quiet_sameP (CD.out _ _ _ (by exact c0))))
              have HR4 := HR1.out.drewN nq
              have HK4 := HK1.out.drewN nq
              have HX4 : (World.drewN w1 nq).heap[w.heap.size]? = some (.cells #[.int .i64 xm, .int .i64 xi, .slice wa xw.length wc, .string (str xt)] 76) := HX1.out
              generalize World.drewN w1 nq = w4 at *
              have HR4 := Lib.hid HR4
              have HK4 := Lib.hid HK4
              have HX4 := Lib.hid HX4
              clear c0 t0 t1 t2 t3 tf x0 x1 x2 x3
              obtain ⟨gg4, cc4, cu4, ee4, _, _, hgg4, t0, t1, t2, t3, tf⟩ := HR4.out.top
              cases ee4
              clear hgg4
              have c0 := cell_blk HR4.out.cell 0 _ rfl
              obtain ⟨⟨x0, x1, x2, x3⟩, _⟩ := four HX4.out
              go_upto_region 3 with fail
              go_quiet ((go_at_call 174; exact quiet_lastP (last_q R _ t.length _ _ (by exact c0) (by omega))))
              have HR5 := HR4.out.drewN nq
              have HK5 := HK4.out.drewN nq
              have HX5 : (World.drewN w4 nq).heap[w.heap.size]? = some (.cells #[.int .i64 xm, .int .i64 xi, .slice wa xw.length wc, .string (str xt)] 76) := HX4.out
              generalize World.drewN w4 nq = w5 at *
              have HR5 := Lib.hid HR5
              have HK5 := Lib.hid HK5
              have HX5 := Lib.hid HX5
              clear c0 t0 t1 t2 t3 tf x0 x1 x2 x3
              obtain ⟨gg5, cc5, cu5, ee5, _, _, hgg5, t0, t1, t2, t3, tf⟩ := HR5.out.top
              cases ee5
              clear hgg5
              have c0 := cell_blk HR5.out.cell 0 _ rfl
              obtain ⟨⟨x0, x1, x2, x3⟩, _⟩ := four HX5.out
              go_upto_region 6 with fail
              go_quiet ((first | (go_at_call 174; exact quiet_lastP (last_q R _ t.length _ _ (by exact c0) (by omega))) | (go_at_call 175; exact quiet_sameP (CG.out _ (by exact HW.out.below (HK5.out.drewN _).below)))))
              have HR6 := HR5.out.drewN nq
              have HK6 := HK5.out.drewN nq
              have HX6 : (World.drewN w5 nq).heap[w.heap.size]? = some (.cells #[.int .i64 xm, .int .i64 xi, .slice wa xw.length wc, .string (str xt)] 76) := HX5.out
              generalize World.drewN w5 nq = w6 at *
              have HR6 := Lib.hid HR6
              have HK6 := Lib.hid HK6
              have HX6 := Lib.hid HX6
              clear c0 t0 t1 t2 t3 tf x0 x1 x2 x3
              obtain ⟨gg6, cc6, cu6, ee6, _, _, hgg6, t0, t1, t2, t3, tf⟩ := HR6.out.top
              cases ee6
              clear hgg6
              have c0 := cell_blk HR6.out.cell 0 _ rfl
              obtain ⟨⟨x0, x1, x2, x3⟩, _⟩ := four HX6.out
              rw [hwt] at t3
              go_wp2_with (go_at_call 174; go_fit (CL8.out _ _ _ (by exact c0)); rintro e w8 ⟨rfl, hb8⟩; clear CL8; have HR8 := Lib.hid (HR6.out.below hb8); have HK8 := Lib.hid (HK6.out.call hb8 hBw); clear c0 t0 t1 t2 t3 tf; obtain ⟨gg8, cc8, cu8, ee8, _, _, hgg8, t0, t1, t2, t3, tf⟩ := HR8.out.top; cases ee8; clear hgg8)
              go_end0
              exact ⟨by rw [HPL.out]; exact ⟨rfl, _, _, HR8.out⟩, HK8.out⟩
            · have hcp : Px.comes ⟨b :: t, hd, out⟩ Px.hole [] = .ok (Px.fill ⟨b :: t, hd, out⟩ Px.hole) := Px.comes_plain _ _ (by decide) rfl rfl
              have hpl : Px.placeAt ⟨b :: t, hd, out⟩ xi xw = .ok (Px.fill ⟨b :: t, hd, out⟩ Px.hole) := by unfold Px.placeAt; simp only; rw [if_neg (by simp [hci]), hgo, hwt]; rfl
              have HPL := Lib.hid hpl
              have CE := Lib.hid (fun w => emptyNode_any w)
              have CC := Lib.hid (fun w8 (h8 : RdrAt w8 B R ⟨b :: t, hd, out⟩) w9 (hb : Below w8.heap.size w8 w9) => comes_any B R ⟨b :: t, hd, out⟩ b t Px.hole (.slice none 0 0) [] w8 w9 h8 hb rfl hB (.inl ⟨rfl, rfl⟩) (by omega) (by simp only [List.length_nil]; omega))
              have hho : evV Px.hole = .agg #[.int .i64 6, .string ⟨#[]⟩, .string ⟨#[]⟩, .string ⟨#[]⟩, .bool true] := rfl
              rw [hho] at CE CC
              rw [hcp] at CC
              clear hpl hgo hci hcp hho
              go_wp2
              go_quiet ((go_at_call 173; exact quiet_sameP (CD.out _ _ _ (by exact c0))))
              have HR4 := HR1.out.drewN nq
              have HK4 := HK1.out.drewN nq
              have HX4 : (World.drewN w1 nq).heap[w.heap.size]? = some (.cells #[.int .i64 xm, .int .i64 xi, .slice wa xw.length wc, .string (str xt)] 76) := HX1.out
              generalize World.drewN w1 nq = w4 at *
              have HR4 := Lib.hid HR4
              have HK4 := Lib.hid HK4
              have HX4 := Lib.hid HX4
              clear c0 t0 t1 t2 t3 tf x0 x1 x2 x3
              obtain ⟨gg4, cc4, cu4, ee4, _, _, hgg4, t0, t1, t2, t3, tf⟩ := HR4.out.top
              cases ee4
              clear hgg4
              have c0 := cell_blk HR4.out.cell 0 _ rfl
              obtain ⟨⟨x0, x1, x2, x3⟩, _⟩ := four HX4.out
              go_upto_region 3 with fail
              go_quiet ((go_at_call 174; exact quiet_lastP (last_q R _ t.length _ _ (by exact c0) (by omega))))
              have HR5 := HR4.out.drewN nq
              have HK5 := HK4.out.drewN nq
              have HX5 : (World.drewN w4 nq).heap[w.heap.size]? = some (.cells #[.int .i64 xm, .int .i64 xi, .slice wa xw.length wc, .string (str xt)] 76) := HX4.out
              generalize World.drewN w4 nq = w5 at *
              have HR5 := Lib.hid HR5
              have HK5 := Lib.hid HK5
              have HX5 := Lib.hid HX5
              clear c0 t0 t1 t2 t3 tf x0 x1 x2 x3
              obtain ⟨gg5, cc5, cu5, ee5, _, _, hgg5, t0, t1, t2, t3, tf⟩ := HR5.out.top
              cases ee5
              clear hgg5
              have c0 := cell_blk HR5.out.cell 0 _ rfl
              obtain ⟨⟨x0, x1, x2, x3⟩, _⟩ := four HX5.out
              go_upto_region 6 with fail
              go_quiet ((first | (go_at_call 174; exact quiet_lastP (last_q R _ t.length _ _ (by exact c0) (by omega))) | (go_at_call 175; exact quiet_sameP (CG.out _ (by exact HW.out.below (HK5.out.drewN _).below)))))
              have HR6 := HR5.out.drewN nq
              have HK6 := HK5.out.drewN nq
              have HX6 : (World.drewN w5 nq).heap[w.heap.size]? = some (.cells #[.int .i64 xm, .int .i64 xi, .slice wa xw.length wc, .string (str xt)] 76) := HX5.out
              generalize World.drewN w5 nq = w6 at *
              have HR6 := Lib.hid HR6
              have HK6 := Lib.hid HK6
              have HX6 := Lib.hid HX6
              clear c0 t0 t1 t2 t3 tf x0 x1 x2 x3
              obtain ⟨gg6, cc6, cu6, ee6, _, _, hgg6, t0, t1, t2, t3, tf⟩ := HR6.out.top
              cases ee6
              clear hgg6
              have c0 := cell_blk HR6.out.cell 0 _ rfl
              obtain ⟨⟨x0, x1, x2, x3⟩, _⟩ := four HX6.out
              rw [hwt] at t3
              go_wp2_with (first
                | (go_at_call 174; go_fit (CL8.out _ _ _ (by exact c0)); rintro e w8 ⟨rfl, hb8⟩; clear CL8; have HR8 := Lib.hid (HR6.out.below hb8); have HK8 := Lib.hid (HK6.out.call hb8 hBw); clear c0 t0 t1 t2 t3 tf; obtain ⟨gg8, cc8, cu8, ee8, _, _, hgg8, t0, t1, t2, t3, tf⟩ := HR8.out.top; cases ee8; clear hgg8)
                | (go_at_call 177; go_fit (CE.out _); rintro e w9 ⟨rfl, hb9⟩; clear CE)
                | (go_at_call 176; go_fit (CC.out _ ⟨_, _, HR8.out⟩ _ hb9); rintro e w10 ⟨⟨rfl, hr10⟩, hk10⟩; clear CC))
              go_end0
              exact ⟨by rw [HPL.out]; exact ⟨rfl, hr10⟩, (HK8.out.call hb9 hBw).trans hk10⟩
        · have q1 : (b.col == (xi : Int)) = false := beq_eq_false_iff_ne.2 hci
          cases hwt : b.waits
          · have hpl : Px.placeAt ⟨b :: t, hd, out⟩ xi xw = .error 9 := by unfold Px.placeAt; simp only; rw [if_pos hci, hwt]; rfl
            have HPL := Lib.hid hpl
            clear hpl hci
            go_wp2
            go_quiet ((go_at_call 173; exact quiet_sameP (CD.out _ _ _ (by exact c0))))
            have HR4 := HR1.out.drewN nq
            have HK4 := HK1.out.drewN nq
            have HX4 : (World.drewN w1 nq).heap[w.heap.size]? = some (.cells #[.int .i64 xm, .int .i64 xi, .slice wa xw.length wc, .string (str xt)] 76) := HX1.out
            generalize World.drewN w1 nq = w4 at *
            have HR4 := Lib.hid HR4
            have HK4 := Lib.hid HK4
            have HX4 := Lib.hid HX4
            clear c0 t0 t1 t2 t3 tf x0 x1 x2 x3
            obtain ⟨gg4, cc4, cu4, ee4, _, _, hgg4, t0, t1, t2, t3, tf⟩ := HR4.out.top
            cases ee4
            clear hgg4
            have c0 := cell_blk HR4.out.cell 0 _ rfl
            obtain ⟨⟨x0, x1, x2, x3⟩, _⟩ := four HX4.out
            go_upto_region 3 with fail
            go_quiet ((go_at_call 174; exact quiet_lastP (last_q R _ t.length _ _ (by exact c0) (by omega))))
            have HR5 := HR4.out.drewN nq
            have HK5 := HK4.out.drewN nq
            have HX5 : (World.drewN w4 nq).heap[w.heap.size]? = some (.cells #[.int .i64 xm, .int .i64 xi, .slice wa xw.length wc, .string (str xt)] 76) := HX4.out
            generalize World.drewN w4 nq = w5 at *
            have HR5 := Lib.hid HR5
            have HK5 := Lib.hid HK5
            have HX5 := Lib.hid HX5
            clear c0 t0 t1 t2 t3 tf x0 x1 x2 x3
            obtain ⟨gg5, cc5, cu5, ee5, _, _, hgg5, t0, t1, t2, t3, tf⟩ := HR5.out.top
            cases ee5
            clear hgg5
            have c0 := cell_blk HR5.out.cell 0 _ rfl
            obtain ⟨⟨x0, x1, x2, x3⟩, _⟩ := four HX5.out
            rw [hwt] at t3
            go_wp2_with (go_at_call 174; go_fit (CL8.out _ _ _ (by exact c0)); rintro e w8 ⟨rfl, hb8⟩; clear CL8; have HR8 := Lib.hid (HR5.out.below hb8); have HK8 := Lib.hid (HK5.out.call hb8 hBw); clear c0 t0 t1 t2 t3 tf; obtain ⟨gg8, cc8, cu8, ee8, _, _, hgg8, t0, t1, t2, t3, tf⟩ := HR8.out.top; cases ee8; clear hgg8)
            exact ⟨rfl, by rw [HPL.out]; rfl, HK8.out⟩
          · have hpl : Px.placeAt ⟨b :: t, hd, out⟩ xi xw = .ok ⟨b :: t, hd, out⟩ := by unfold Px.placeAt; simp only; rw [if_pos hci, hwt]; rfl
            have HPL := Lib.hid hpl
            clear hpl hci
            go_wp2
            go_quiet ((go_at_call 173; exact quiet_sameP (CD.out _ _ _ (by exact c0))))
            have HR4 := HR1.out.drewN nq
            have HK4 := HK1.out.drewN nq
            have HX4 : (World.drewN w1 nq).heap[w.heap.size]? = some (.cells #[.int .i64 xm, .int .i64 xi, .slice wa xw.length wc, .string (str xt)] 76) := HX1.out
            generalize World.drewN w1 nq = w4 at *
            have HR4 := Lib.hid HR4
            have HK4 := Lib.hid HK4
            have HX4 := Lib.hid HX4
            clear c0 t0 t1 t2 t3 tf x0 x1 x2 x3
            obtain ⟨gg4, cc4, cu4, ee4, _, _, hgg4, t0, t1, t2, t3, tf⟩ := HR4.out.top
            cases ee4
            clear hgg4
            have c0 := cell_blk HR4.out.cell 0 _ rfl
            obtain ⟨⟨x0, x1, x2, x3⟩, _⟩ := four HX4.out
            go_upto_region 3 with fail
            go_quiet ((go_at_call 174; exact quiet_lastP (last_q R _ t.length _ _ (by exact c0) (by omega))))
            have HR5 := HR4.out.drewN nq
            have HK5 := HK4.out.drewN nq
            have HX5 : (World.drewN w4 nq).heap[w.heap.size]? = some (.cells #[.int .i64 xm, .int .i64 xi, .slice wa xw.length wc, .string (str xt)] 76) := HX4.out
            generalize World.drewN w4 nq = w5 at *
            have HR5 := Lib.hid HR5
            have HK5 := Lib.hid HK5
            have HX5 := Lib.hid HX5
            clear c0 t0 t1 t2 t3 tf x0 x1 x2 x3
            obtain ⟨gg5, cc5, cu5, ee5, _, _, hgg5, t0, t1, t2, t3, tf⟩ := HR5.out.top
            cases ee5
            clear hgg5
            have c0 := cell_blk HR5.out.cell 0 _ rfl
            obtain ⟨⟨x0, x1, x2, x3⟩, _⟩ := four HX5.out
            rw [hwt] at t3
            go_wp2_with (go_at_call 174; go_fit (CL8.out _ _ _ (by exact c0)); rintro e w8 ⟨rfl, hb8⟩; clear CL8; have HR8 := Lib.hid (HR5.out.below hb8); have HK8 := Lib.hid (HK5.out.call hb8 hBw); clear c0 t0 t1 t2 t3 tf; obtain ⟨gg8, cc8, cu8, ee8, _, _, hgg8, t0, t1, t2, t3, tf⟩ := HR8.out.top; cases ee8; clear hgg8)
            first | go_end0 | refine bodyPost_ret (results_none rfl _ _ _) rfl ?_
            exact ⟨by rw [HPL.out]; exact ⟨rfl, _, _, HR8.out⟩, HK8.out⟩
      · have hn : (0 : Int) < (t.length : Int) := by omega
        by_cases hlt : (xi : Int) < b.col
        · have hcp := Px.close1_wt ⟨b :: t, hd, out⟩
          have hcl := Px.close1_blocks b t hd out
          have HA : Hid (Px.dropGo xi (Px.close1 ⟨b :: t, hd, out⟩).blocks.length (Px.close1 ⟨b :: t, hd, out⟩) = ANS) := by
            show _ = _
            rw [hcl, ← HK.out]
            exact (Px.dropGo_go _ _ _ _ _ _ hpos hlt).symm
          have CC := Lib.hid (fun w1 h => close_any B R ⟨b :: t, hd, out⟩ b t w1 h rfl hB (by omega) (by simp only; omega))
          unfold Px.wt at hcp
          rw [hcl] at hcp
          simp only [List.length_cons] at hcp
          go_wp2
          go_quiet ((first | (go_at_call 173; exact quiet_sameP (CD.out _ _ _ (by exact c0))) | (go_at_call 174; exact quiet_lastP (last_q R _ t.length _ _ (by exact c0) (by omega)))))
          have HX3 := HX1
          go_wp2_with (go_at_call 116; go_fit (CC.out _ ⟨_, _, HR1.out.drewN _⟩); rintro e w3 ⟨⟨rfl, hr3⟩, hk3⟩)
          go_roundw
          case rel => exact ⟨Px.close1 ⟨b :: t, hd, out⟩, hr3, HA, (HK1.out.drewN _).trans hk3, hk3.blk (by exact HX1.out) (by decide), (by rw [hcl]; exact hpos), (by rw [hcl]; omega), (by unfold Px.wt; rw [hcl]; omega)⟩
          case measure => rw [hr3.lenAt, HL.out, hcl]; simp only [List.length_cons]; omega
        · have hA : ANS = ⟨b :: t, hd, out⟩ := by rw [← HK.out]; exact Px.dropGo_stop _ _ _ _ _ _ (.inr hlt)
          subst hA
          have CL8 := Lib.hid (fun g cap w hc => last_any R g t.length cap w hc (by omega))
          by_cases hci : b.col = xi
          · have q1 : (b.col == (xi : Int)) = true := beq_iff_eq.2 hci
            have CG := Lib.hid (fun w1 (h : RdW w1 B (.slice wa xw.length wc) xw) => goesOn_any b.kind _ xw B w1 h)
            cases hgo : Px.goesOn b.kind xw
            · rw [hgo] at CG
              have hpl : Px.placeAt ⟨b :: t, hd, out⟩ xi xw = .error 9 := by unfold Px.placeAt; simp only; rw [if_neg (by simp [hci]), hgo]; rfl
              have HPL := Lib.hid hpl
              clear hpl hgo hci
              go_wp2
              go_quiet ((first | (go_at_call 173; exact quiet_sameP (CD.out _ _ _ (by exact c0))) | (go_at_call 174; exact quiet_lastP (last_q R _ t.length _ _ (by exact c0) (by omega)))))
              have HR4 := HR1.out.drewN nq
              have HK4 := HK1.out.drewN nq
              have HX4 : (World.drewN w1 nq).heap[w.heap.size]? = some (.cells #[.int .i64 xm, .int .i64 xi, .slice wa xw.length wc, .string (str xt)] 76) := HX1.out
              generalize World.drewN w1 nq = w4 at *
              have HR4 := Lib.hid HR4
              have HK4 := Lib.hid HK4
              have HX4 := Lib.hid HX4
              clear c0 t0 t1 t2 t3 tf x0 x1 x2 x3
              obtain ⟨gg4, cc4, cu4, ee4, _, _, hgg4, t0, t1, t2, t3, tf⟩ := HR4.out.top
              cases ee4
              clear hgg4
              have c0 := cell_blk HR4.out.cell 0 _ rfl
              obtain ⟨⟨x0, x1, x2, x3⟩, _⟩ := four HX4.out
              go_upto_region 3 with fail
              go_quiet ((go_at_call 174; exact quiet_lastP (last_q R _ t.length _ _ (by exact c0) (by omega))))
              have HR5 := HR4.out.drewN nq
              have HK5 := HK4.out.drewN nq
              have HX5 : (World.drewN w4 nq).heap[w.heap.size]? = some (.cells #[.int .i64 xm, .int .i64 xi, .slice wa xw.length wc, .string (str xt)] 76) := HX4.out
              generalize World.drewN w4 nq = w5 at *
              have HR5 := Lib.hid HR5
              have HK5 := Lib.hid HK5
              have HX5 := Lib.hid HX5
              clear c0 t0 t1 t2 t3 tf x0 x1 x2 x3
              obtain ⟨gg5, cc5, cu5, ee5, _, _, hgg5, t0, t1, t2, t3, tf⟩ := HR5.out.top
              cases ee5
              clear hgg5
              have c0 := cell_blk HR5.out.cell 0 _ rfl
              obtain ⟨⟨x0, x1, x2, x3⟩, _⟩ := four HX5.out
              go_upto_region 6 with fail
              go_quiet ((first | (go_at_call 174; exact quiet_lastP (last_q R _ t.length _ _ (by exact c0) (by omega))) | (go_at_call 175; exact quiet_sameP (CG.out _ (by exact HW.out.below (HK5.out.drewN _).below)))))
              have HR6 := HR5.out.drewN nq
              have HK6 := HK5.out.drewN nq
              have HX6 : (World.drewN w5 nq).heap[w.heap.size]? = some (.cells #[.int .i64 xm, .int .i64 xi, .slice wa xw.length wc, .string (str xt)] 76) := HX5.out
              generalize World.drewN w5 nq = w6 at *
              have HR6 := Lib.hid HR6
              have HK6 := Lib.hid HK6
              have HX6 := Lib.hid HX6
              clear c0 t0 t1 t2 t3 tf x0 x1 x2 x3
              obtain ⟨gg6, cc6, cu6, ee6, _, _, hgg6, t0, t1, t2, t3, tf⟩ := HR6.out.top
              cases ee6
              clear hgg6
              have c0 := cell_blk HR6.out.cell 0 _ rfl
              obtain ⟨⟨x0, x1, x2, x3⟩, _⟩ := four HX6.out
              go_wp2
              exact ⟨rfl, by rw [HPL.out]; rfl, HK6.out⟩
            · rw [hgo] at CG
              cases hwt : b.waits
              · have hpl : Px.placeAt ⟨b :: t, hd, out⟩ xi xw = .ok ⟨b :: t, hd, out⟩ := by unfold Px.placeAt; simp only; rw [if_neg (by simp [hci]), hgo, hwt]; rfl
                have HPL := Lib.hid hpl
                clear hpl hgo hci
                go_wp2
                go_quiet ((first | (go_at_call 173; exact quiet_sameP (CD.out _ _ _ (by exact c0))) | (go_at_call 174; exact quiet_lastP (last_q R _ t.length _ _ (by exact c0) (by omega)))))
                have HR4 := HR1.out.drewN nq
                have HK4 := HK1.out.drewN nq
                have HX4 : (World.drewN w1 nq).heap[w.heap.size]? = some (.cells #[.int .i64 xm, .int .i64 xi, .slice wa xw.length wc, .string (str xt)] 76) := HX1.out
                generalize World.drewN w1 nq = w4 at *
                have HR4 := Lib.hid HR4
                have HK4 := Lib.hid HK4
                have HX4 := Lib.hid HX4
                clear c0 t0 t1 t2 t3 tf x0 x1 x2 x3
                obtain ⟨gg4, cc4, cu4, ee4, _, _, hgg4, t0, t1, t2, t3, tf⟩ := HR4.out.top
                cases ee4
                clear hgg4
                have c0 := cell_blk HR4.out.cell 0 _ rfl
                obtain ⟨⟨x0, x1, x2, x3⟩, _⟩ := four HX4.out
                go_upto_region 3 with fail
                go_quiet ((go_at_call 174; exact quiet_lastP (last_q R _ t.length _ _ (by exact c0) (by omega))))
                have HR5 := HR4.out.drewN nq
                have HK5 := HK4.out.drewN nq
                have HX5 : (World.drewN w4 nq).heap[w.heap.size]? = some (.cells #[.int .i64 xm, .int .i64 xi, .slice wa xw.length wc, .string (str xt)] 76) := HX4.out
                generalize World.drewN w4 nq = w5 at *
                have HR5 := Lib.hid HR5
                have HK5 := Lib.hid HK5
                have HX5 := Lib.hid HX5
                clear c0 t0 t1 t2 t3 tf x0 x1 x2 x3
                obtain ⟨gg5, cc5, cu5, ee5, _, _, hgg5, t0, t1, t2, t3, tf⟩ := HR5.out.top
                cases ee5
                clear hgg5
                have c0 := cell_blk HR5.out.cell 0 _ rfl
                obtain ⟨⟨x0, x1, x2, x3⟩, _⟩ := four HX5.out
                go_upto_region 6 with fail
                go_quiet ((first | (go_at_call 174; exact quiet_lastP (last_q R _ t.length _ _ (by exact c0) (by omega))) | (go_at_call 175; exact quiet_sameP (CG.out _ (by exact HW.out.below (HK5.out.drewN _).below)))))
                have HR6 := HR5.out.drewN nq
                have HK6 := HK5.out.drewN nq
                have HX6 : (World.drewN w5 nq).heap[w.heap.size]? = some (.cells #[.int .i64 xm, .int .i64 xi, .slice wa xw.length wc, .string (str xt)] 76) := HX5.out
                generalize World.drewN w5 nq = w6 at *
                have HR6 := Lib.hid HR6
                have HK6 := Lib.hid HK6
                have HX6 := Lib.hid HX6
                clear c0 t0 t1 t2 t3 tf x0 x1 x2 x3
                obtain ⟨gg6, cc6, cu6, ee6, _, _, hgg6, t0, t1, t2, t3, tf⟩ := HR6.out.top
                cases ee6
                clear hgg6
                have c0 := cell_blk HR6.out.cell 0 _ rfl
                obtain ⟨⟨x0, x1, x2, x3⟩, _⟩ := four HX6.out
                rw [hwt] at t3
                go_wp2_with (go_at_call 174; go_fit (CL8.out _ _ _ (by exact c0)); rintro e w8 ⟨rfl, hb8⟩; clear CL8; have HR8 := Lib.hid (HR6.out.below hb8); have HK8 := Lib.hid (HK6.out.call hb8 hBw); clear c0 t0 t1 t2 t3 tf; obtain ⟨gg8, cc8, cu8, ee8, _, _, hgg8, t0, t1, t2, t3, tf⟩ := HR8.out.top; cases ee8; clear hgg8)
                go_end0
                exact ⟨by rw [HPL.out]; exact ⟨rfl, _, _, HR8.out⟩, HK8.out⟩
              · have hcp : Px.comes ⟨b :: t, hd, out⟩ Px.hole [] = .ok (Px.fill ⟨b :: t, hd, out⟩ Px.hole) := Px.comes_plain _ _ (by decide) rfl rfl
                have hpl : Px.placeAt ⟨b :: t, hd, out⟩ xi xw = .ok (Px.fill ⟨b :: t, hd, out⟩ Px.hole) := by unfold Px.placeAt; simp only; rw [if_neg (by simp [hci]), hgo, hwt]; rfl
                have HPL := Lib.hid hpl
                have CE := Lib.hid (fun w => emptyNode_any w)
                have CC := Lib.hid (fun w8 (h8 : RdrAt w8 B R ⟨b :: t, hd, out⟩) w9 (hb : Below w8.heap.size w8 w9) => comes_any B R ⟨b :: t, hd, out⟩ b t Px.hole (.slice none 0 0) [] w8 w9 h8 hb rfl hB (.inl ⟨rfl, rfl⟩) (by omega) (by simp only [List.length_nil]; omega))
                have hho : evV Px.hole = .agg #[.int .i64 6, .string ⟨#[]⟩, .string ⟨#[]⟩, .string ⟨#[]⟩, .bool true] := rfl
                rw [hho] at CE CC
                rw [hcp] at CC
                clear hpl hgo hci hcp hho
                go_wp2
                go_quiet ((first | (go_at_call 173; exact quiet_sameP (CD.out _ _ _ (by exact c0))) | (go_at_call 174; exact quiet_lastP (last_q R _ t.length _ _ (by exact c0) (by omega)))))
                have HR4 := HR1.out.drewN nq
                have HK4 := HK1.out.drewN nq
                have HX4 : (World.drewN w1 nq).heap[w.heap.size]? = some (.cells #[.int .i64 xm, .int .i64 xi, .slice wa xw.length wc, .string (str xt)] 76) := HX1.out
                generalize World.drewN w1 nq = w4 at *
                have HR4 := Lib.hid HR4
                have HK4 := Lib.hid HK4
                have HX4 := Lib.hid HX4
                clear c0 t0 t1 t2 t3 tf x0 x1 x2 x3
                obtain ⟨gg4, cc4, cu4, ee4, _, _, hgg4, t0, t1, t2, t3, tf⟩ := HR4.out.top
                cases ee4
                clear hgg4
                have c0 := cell_blk HR4.out.cell 0 _ rfl
                obtain ⟨⟨x0, x1, x2, x3⟩, _⟩ := four HX4.out
                go_upto_region 3 with fail
                go_quiet ((go_at_call 174; exact quiet_lastP (last_q R _ t.length _ _ (by exact c0) (by omega))))
                have HR5 := HR4.out.drewN nq
                have HK5 := HK4.out.drewN nq
                have HX5 : (World.drewN w4 nq).heap[w.heap.size]? = some (.cells #[.int .i64 xm, .int .i64 xi, .slice wa xw.length wc, .string (str xt)] 76) := HX4.out
                generalize World.drewN w4 nq = w5 at *
                have HR5 := Lib.hid HR5
                have HK5 := Lib.hid HK5
                have HX5 := Lib.hid HX5
                clear c0 t0 t1 t2 t3 tf x0 x1 x2 x3
                obtain ⟨gg5, cc5, cu5, ee5, _, _, hgg5, t0, t1, t2, t3, tf⟩ := HR5.out.top
                cases ee5
                clear hgg5
                have c0 := cell_blk HR5.out.cell 0 _ rfl
                obtain ⟨⟨x0, x1, x2, x3⟩, _⟩ := four HX5.out
                go_upto_region 6 with fail
                go_quiet ((first | (go_at_call 174; exact quiet_lastP (last_q R _ t.length _ _ (by exact c0) (by omega))) | (go_at_call 175; exact quiet_sameP (CG.out _ (by exact HW.out.below (HK5.out.drewN _).below)))))
                have HR6 := HR5.out.drewN nq
                have HK6 := HK5.out.drewN nq
                have HX6 : (World.drewN w5 nq).heap[w.heap.size]? = some (.cells #[.int .i64 xm, .int .i64 xi, .slice wa xw.length wc, .string (str xt)] 76) := HX5.out
                generalize World.drewN w5 nq = w6 at *
                have HR6 := Lib.hid HR6
                have HK6 := Lib.hid HK6
                have HX6 := Lib.hid HX6
                clear c0 t0 t1 t2 t3 tf x0 x1 x2 x3
                obtain ⟨gg6, cc6, cu6, ee6, _, _, hgg6, t0, t1, t2, t3, tf⟩ := HR6.out.top
                cases ee6
                clear hgg6
                have c0 := cell_blk HR6.out.cell 0 _ rfl
                obtain ⟨⟨x0, x1, x2, x3⟩, _⟩ := four HX6.out
                rw [hwt] at t3
                go_wp2_with (first
                  | (go_at_call 174; go_fit (CL8.out _ _ _ (by exact c0)); rintro e w8 ⟨rfl, hb8⟩; clear CL8; have HR8 := Lib.hid (HR6.out.below hb8); have HK8 := Lib.hid (HK6.out.call hb8 hBw); clear c0 t0 t1 t2 t3 tf; obtain ⟨gg8, cc8, cu8, ee8, _, _, hgg8, t0, t1, t2, t3, tf⟩ := HR8.out.top; cases ee8; clear hgg8)
                  | (go_at_call 177; go_fit (CE.out _); rintro e w9 ⟨rfl, hb9⟩; clear CE)
                  | (go_at_call 176; go_fit (CC.out _ ⟨_, _, HR8.out⟩ _ hb9); rintro e w10 ⟨⟨rfl, hr10⟩, hk10⟩; clear CC))
                go_end0
                exact ⟨by rw [HPL.out]; exact ⟨rfl, hr10⟩, (HK8.out.call hb9 hBw).trans hk10⟩
          · have q1 : (b.col == (xi : Int)) = false := beq_eq_false_iff_ne.2 hci
            cases hwt : b.waits
            · have hpl : Px.placeAt ⟨b :: t, hd, out⟩ xi xw = .error 9 := by unfold Px.placeAt; simp only; rw [if_pos hci, hwt]; rfl
              have HPL := Lib.hid hpl
              clear hpl hci
              go_wp2
              go_quiet ((first | (go_at_call 173; exact quiet_sameP (CD.out _ _ _ (by exact c0))) | (go_at_call 174; exact quiet_lastP (last_q R _ t.length _ _ (by exact c0) (by omega)))))
              have HR4 := HR1.out.drewN nq
              have HK4 := HK1.out.drewN nq
              have HX4 : (World.drewN w1 nq).heap[w.heap.size]? = some (.cells #[.int .i64 xm, .int .i64 xi, .slice wa xw.length wc, .string (str xt)] 76) := HX1.out
              generalize World.drewN w1 nq = w4 at *
              have HR4 := Lib.hid HR4
              have HK4 := Lib.hid HK4
              have HX4 := Lib.hid HX4
              clear c0 t0 t1 t2 t3 tf x0 x1 x2 x3
              obtain ⟨gg4, cc4, cu4, ee4, _, _, hgg4, t0, t1, t2, t3, tf⟩ := HR4.out.top
              cases ee4
              clear hgg4
              have c0 := cell_blk HR4.out.cell 0 _ rfl
              obtain ⟨⟨x0, x1, x2, x3⟩, _⟩ := four HX4.out
              go_upto_region 3 with fail
              go_quiet ((go_at_call 174; exact quiet_lastP (last_q R _ t.length _ _ (by exact c0) (by omega))))
              have HR5 := HR4.out.drewN nq
              have HK5 := HK4.out.drewN nq
              have HX5 : (World.drewN w4 nq).heap[w.heap.size]? = some (.cells #[.int .i64 xm, .int .i64 xi, .slice wa xw.length wc, .string (str xt)] 76) := HX4.out
              generalize World.drewN w4 nq = w5 at *
              have HR5 := Lib.hid HR5
              have HK5 := Lib.hid HK5
              have HX5 := Lib.hid HX5
              clear c0 t0 t1 t2 t3 tf x0 x1 x2 x3
              obtain ⟨gg5, cc5, cu5, ee5, _, _, hgg5, t0, t1, t2, t3, tf⟩ := HR5.out.top
              cases ee5
              clear hgg5
              have c0 := cell_blk HR5.out.cell 0 _ rfl
              obtain ⟨⟨x0, x1, x2, x3⟩, _⟩ := four HX5.out
              rw [hwt] at t3
              go_wp2_with (go_at_call 174; go_fit (CL8.out _ _ _ (by exact c0)); rintro e w8 ⟨rfl, hb8⟩; clear CL8; have HR8 := Lib.hid (HR5.out.below hb8); have HK8 := Lib.hid (HK5.out.call hb8 hBw); clear c0 t0 t1 t2 t3 tf; obtain ⟨gg8, cc8, cu8, ee8, _, _, hgg8, t0, t1, t2, t3, tf⟩ := HR8.out.top; cases ee8; clear hgg8)
              exact ⟨rfl, by rw [HPL.out]; rfl, HK8.out⟩
            · have hpl : Px.placeAt ⟨b :: t, hd, out⟩ xi xw = .ok ⟨b :: t, hd, out⟩ := by unfold Px.placeAt; simp only; rw [if_pos hci, hwt]; rfl
              have HPL := Lib.hid hpl
              clear hpl hci
              go_wp2
              go_quiet ((first | (go_at_call 173; exact quiet_sameP (CD.out _ _ _ (by exact c0))) | (go_at_call 174; exact quiet_lastP (last_q R _ t.length _ _ (by exact c0) (by omega)))))
              have HR4 := HR1.out.drewN nq
              have HK4 := HK1.out.drewN nq
              have HX4 : (World.drewN w1 nq).heap[w.heap.size]? = some (.cells #[.int .i64 xm, .int .i64 xi, .slice wa xw.length wc, .string (str xt)] 76) := HX1.out
              generalize World.drewN w1 nq = w4 at *
              have HR4 := Lib.hid HR4
              have HK4 := Lib.hid HK4
              have HX4 := Lib.hid HX4
              clear c0 t0 t1 t2 t3 tf x0 x1 x2 x3
              obtain ⟨gg4, cc4, cu4, ee4, _, _, hgg4, t0, t1, t2, t3, tf⟩ := HR4.out.top
              cases ee4
              clear hgg4
              have c0 := cell_blk HR4.out.cell 0 _ rfl
              obtain ⟨⟨x0, x1, x2, x3⟩, _⟩ := four HX4.out
              go_upto_region 3 with fail
              go_quiet ((go_at_call 174; exact quiet_lastP (last_q R _ t.length _ _ (by exact c0) (by omega))))
              have HR5 := HR4.out.drewN nq
              have HK5 := HK4.out.drewN nq
              have HX5 : (World.drewN w4 nq).heap[w.heap.size]? = some (.cells #[.int .i64 xm, .int .i64 xi, .slice wa xw.length wc, .string (str xt)] 76) := HX4.out
              generalize World.drewN w4 nq = w5 at *
              have HR5 := Lib.hid HR5
              have HK5 := Lib.hid HK5
              have HX5 := Lib.hid HX5
              clear c0 t0 t1 t2 t3 tf x0 x1 x2 x3
              obtain ⟨gg5, cc5, cu5, ee5, _, _, hgg5, t0, t1, t2, t3, tf⟩ := HR5.out.top
              cases ee5
              clear hgg5
              have c0 := cell_blk HR5.out.cell 0 _ rfl
              obtain ⟨⟨x0, x1, x2, x3⟩, _⟩ := four HX5.out
              rw [hwt] at t3
              go_wp2_with (go_at_call 174; go_fit (CL8.out _ _ _ (by exact c0)); rintro e w8 ⟨rfl, hb8⟩; clear CL8; have HR8 := Lib.hid (HR5.out.below hb8); have HK8 := Lib.hid (HK5.out.call hb8 hBw); clear c0 t0 t1 t2 t3 tf; obtain ⟨gg8, cc8, cu8, ee8, _, _, hgg8, t0, t1, t2, t3, tf⟩ := HR8.out.top; cases ee8; clear hgg8)
              first | go_end0 | refine bodyPost_ret (results_none rfl _ _ _) rfl ?_
              exact ⟨by rw [HPL.out]; exact ⟨rfl, _, _, HR8.out⟩, HK8.out⟩
end Go.Proofs.YtjcfmghijfnehaaGreatDoor
