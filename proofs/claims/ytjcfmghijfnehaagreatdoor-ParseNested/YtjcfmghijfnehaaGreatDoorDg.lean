/-
  Plain mathematics: lines that are moved to the right below a key, or a dash, are the node of that.
  The walk of ParseNested.
-/
import Derived.Test.YtjcfmghijfnehaaGreatDoorKo
import Derived.Test.YtjcfmghijfnehaaGreatDoorKg
import Derived.Test.YtjcfmghijfnehaaGreatDoorKk
import Derived.Test.YtjcfmghijfnehaaGreatDoorDf
import Derived.Test.YtjcfmghijfnehaaGreatDoorEa
namespace Go.Proofs.YtjcfmghijfnehaaGreatDoor
namespace Px
open Lx (Wd Ln shW shL mapE)
open Ev (dmax dsum)
theorem dmax_mid (a b : List Int) (ha : dsum a = 0) : dmax (a ++ b) = max (dmax a) (dmax b) := by rw [Ev.dmax_app, ha, Int.zero_add]
theorem dsum_le (l : List Int) : dsum l ≤ dmax l := by
  induction l with
  | nil => exact Int.le_refl _
  | cons k t ih => simp only [dsum, dmax]; omega
theorem pre_ok {es xs : List Ev.E} {x : Rd} {r : List Wd} (h : pre es x = .ok (r, xs)) : ∃ ys, x = .ok (r, ys) ∧ xs = es ++ ys := by
  cases x with
  | error e => cases h
  | ok y => obtain ⟨r1, ys⟩ := y; cases h; exact ⟨ys, rfl, rfl⟩
theorem items_less (one one' : List Wd → Rd) (c k : Nat) (hf : ∀ ws r es, one ws = .ok (r, es) → dsum (ks es) = 0)
    (h : ∀ ws r es, one ws = .ok (r, es) → dmax (ks es) ≤ k → one' ws = .ok (r, es)) : ∀ m ws r es, items one c m ws = .ok (r, es) → dmax (ks es) ≤ k → items one' c m ws = .ok (r, es)
  | 0, ws, r, es, hi, _ => by cases hi
  | m + 1, ws, r, es, hi, hd => by
    unfold items at hi ⊢
    by_cases hb : bk ws c = true
    · rw [if_pos hb] at hi ⊢; exact hi
    · rw [if_neg hb] at hi ⊢
      cases ho : one ws with
      | error e => rw [ho] at hi; cases hi
      | ok y =>
        obtain ⟨r1, e1⟩ := y
        rw [ho] at hi
        simp only at hi
        have hflat := hf ws r1 e1 ho
        by_cases h1 : bk r1 10 = true
        · rw [if_pos h1] at hi
          obtain ⟨ys, hy, rfl⟩ := pre_ok hi
          rw [ks_app, dmax_mid _ _ hflat] at hd
          rw [h ws r1 e1 ho (by omega)]
          simp only
          rw [if_pos h1, items_less one one' c k hf h m _ _ _ hy (by omega)]
          rfl
        · rw [if_neg h1] at hi
          by_cases h2 : bk r1 c = true
          · rw [if_pos h2] at hi
            obtain ⟨ys, hy, rfl⟩ := pre_ok hi
            rw [ks_app, dmax_mid _ _ hflat] at hd
            rw [h ws r1 e1 ho (by omega)]
            simp only
            rw [if_neg h1, if_pos h2, items_less one one' c k hf h m _ _ _ hy (by omega)]
            rfl
          · rw [if_neg h2] at hi; cases hi
theorem pair_less (nd nd' : List Wd → Rd) (k : Nat) (h : ∀ ws r es, nd ws = .ok (r, es) → dmax (ks es) ≤ k → nd' ws = .ok (r, es)) (ws r : List Wd) (es : List Ev.E) (hi : pair nd ws = .ok (r, es)) (hd : dmax (ks es) ≤ k) : pair nd' ws = .ok (r, es) := by
  unfold pair at hi ⊢
  have hk := keyW_nd ws k
  cases hw : keyW ws with
  | error e => rw [hw] at hi; cases hi
  | ok y =>
    obtain ⟨r1, e1⟩ := y
    rw [hw] at hi hk
    simp only at hi ⊢
    have hflat : dsum (ks e1) = 0 := hk.flat
    split at hi
    · rename_i h1
      rw [if_pos h1]
      split at hi
      · rename_i h2
        rw [if_pos h2]; exact hi
      · rename_i h2
        rw [if_neg h2]
        obtain ⟨ys, hy, rfl⟩ := pre_ok hi
        rw [ks_app, dmax_mid _ _ hflat] at hd
        rw [h _ _ _ hy (by omega)]
        rfl
    · rename_i h1
      rw [if_neg h1]; exact hi
theorem wrap_ok {p : Pr} {j : Int} {x : Rd} {r : List Wd} {es : List Ev.E} (h : wrap p j x = .ok (r, es)) : ∃ xs, x = .ok (r, xs) ∧ es = p.on (ev j) :: (xs ++ [ev (j + 1)]) := by
  cases x with
  | error e => cases h
  | ok y => obtain ⟨r1, xs⟩ := y; cases h; exact ⟨xs, rfl, rfl⟩
theorem wrap_deep (p : Pr) (j : Int) (hj : j = 2 ∨ j = 4) (xs : List Ev.E) : dmax (ks xs) + 1 ≤ dmax (ks (p.on (ev j) :: (xs ++ [ev (j + 1)]))) := by
  have e : ks (p.on (ev j) :: (xs ++ [ev (j + 1)])) = j :: (ks xs ++ [j + 1]) := by rw [ks_cons, ks_app]; rfl
  rw [e]
  have e2 : Ev.dstep j = 1 := by rcases hj with rfl | rfl <;> simp [Ev.dstep]
  simp only [dmax]
  rw [Ev.dmax_app, e2]; omega
theorem nodeWith_less (k : Nat) (lst mp lst' mp' : List Wd → Rd) (h1 : ∀ ws r es, lst ws = .ok (r, es) → dmax (ks es) + 1 ≤ k → lst' ws = .ok (r, es)) (h2 : ∀ ws r es, mp ws = .ok (r, es) → dmax (ks es) + 1 ≤ k → mp' ws = .ok (r, es))
    (ws r : List Wd) (es : List Ev.E) (hi : nodeWith lst mp ws = .ok (r, es)) (hd : dmax (ks es) ≤ k) : nodeWith lst' mp' ws = .ok (r, es) := by
  unfold nodeWith at hi ⊢
  cases hc : cutP nop ws with
  | error e => rw [hc] at hi; cases hi
  | ok y =>
    obtain ⟨p, q⟩ := y
    rw [hc] at hi
    simp only at hi ⊢
    split at hi
    · rename_i hb
      rw [if_pos hb]
      obtain ⟨xs, hx, rfl⟩ := wrap_ok hi
      have := wrap_deep p 2 (.inl rfl) xs
      rw [h1 _ _ _ hx (by omega)]
      rfl
    · rename_i hb
      rw [if_neg hb]
      split at hi
      · rename_i hb2
        rw [if_pos hb2]
        obtain ⟨xs, hx, rfl⟩ := wrap_ok hi
        have := wrap_deep p 4 (.inr rfl) xs
        rw [h2 _ _ _ hx (by omega)]
        rfl
      · rename_i hb2
        rw [if_neg hb2]; exact hi
theorem nr_flat {m k : Nat} {x : Rd} (h : NR m k x) {r : List Wd} {es : List Ev.E} (hx : x = .ok (r, es)) : dsum (ks es) = 0 := by subst hx; exact h.flat
theorem node_less : ∀ k ws r es, node (k + 1) ws = .ok (r, es) → dmax (ks es) ≤ k → node k ws = .ok (r, es)
  | 0, ws, r, es, hi, hd => by
    unfold node at hi ⊢
    exact nodeWith_less 0 _ _ _ _ (fun ws r es _ h => by have := Ev.dmax_nonneg (ks es); omega) (fun ws r es _ h => by have := Ev.dmax_nonneg (ks es); omega) ws r es hi hd
  | k + 1, ws, r, es, hi, hd => by
    have e1 : node (k + 1 + 1) ws = nodeWith (fun r => items (node (k + 1)) 7 (r.length + 1) r) (fun r => items (pair (node (k + 1))) 9 (r.length + 1) r) ws := rfl
    have e2 : node (k + 1) ws = nodeWith (fun r => items (node k) 7 (r.length + 1) r) (fun r => items (pair (node k)) 9 (r.length + 1) r) ws := rfl
    rw [e1] at hi
    rw [e2]
    refine nodeWith_less (k + 1) _ _ _ _ (fun ws r es h1 h2 => ?_) (fun ws r es h1 h2 => ?_) ws r es hi hd
    · exact items_less (node (k + 1)) (node k) 7 k (fun ws r es h => nr_flat (node_nd (k + 1) ws) h) (fun ws r es h h' => node_less k ws r es h h') _ _ _ _ h1 (by omega)
    · exact items_less (pair (node (k + 1))) (pair (node k)) 9 k (fun ws r es h => nr_flat (pair_nd _ (k + 1) (node_nd (k + 1)) ws) h) (fun ws r es h h' => pair_less _ _ k (fun ws r es h h' => node_less k ws r es h h') ws r es h h') _ _ _ _ h1 (by omega)
theorem flowOf_less (ws : List Wd) (d : Nat) (es : List Ev.E) (h : flowOf ws d = .ok es) (hd : dmax (ks es) + d ≤ 39) : flowOf ws (d + 1) = .ok es := by
  have h0 := Ev.dmax_nonneg (ks es)
  unfold flowOf at h ⊢
  rw [show 40 - d = (40 - (d + 1)) + 1 by omega] at h
  cases hn : node (40 - (d + 1) + 1) ws with
  | error e => rw [hn] at h; cases h
  | ok y =>
    obtain ⟨r, xs⟩ := y
    rw [hn] at h
    cases r with
    | cons w t => cases h
    | nil =>
      cases h
      rw [node_less _ _ _ _ hn (by omega)]
      rfl

/-! the document is the node of a key, or of a dash -/
def nestB (kb : Int) : List Bk → List Bk
  | [] => []
  | [b] => [⟨kb, kb + 1, 0, b.waits⟩, doc.still]
  | b :: c :: t => b :: nestB kb (c :: t)
def nest (kb : Int) (s : St) : St := ⟨nestB kb s.blocks, s.held, s.out⟩
/-- lists and maps to the right of the edge, and the document below them -/
def Lo : List Bk → Prop
  | [] => True
  | [b] => b.kind = 0 ∧ b.fin = 1 ∧ b.col = -1
  | b :: c :: t => (b.fin = 3 ∨ b.fin = 5) ∧ 1 ≤ b.col ∧ Lo (c :: t)
structure In (s : St) : Prop where
  lo : Lo s.blocks
  ne : s.blocks ≠ []
  sum : dsum (ks s.out) = (s.blocks.length : Int) - 1
theorem nestB_len (kb : Int) : ∀ l : List Bk, l ≠ [] → (nestB kb l).length = l.length + 1
  | [], h => absurd rfl h
  | [_], _ => rfl
  | _ :: c :: t, _ => by show (nestB kb (c :: t)).length + 1 = _; rw [nestB_len kb (c :: t) (by simp)]; rfl
theorem nest_still (kb : Int) (l : List Bk) : still (nestB kb l) = nestB kb (still l) := by
  rcases l with _ | ⟨b, _ | ⟨c, t⟩⟩ <;> rfl
theorem nest_waitB (kb : Int) (l : List Bk) : waitB (nestB kb l) = nestB kb (waitB l) := by
  rcases l with _ | ⟨b, _ | ⟨c, t⟩⟩ <;> rfl
theorem lo_still {l : List Bk} (h : Lo l) : Lo (still l) := by
  rcases l with _ | ⟨b, _ | ⟨c, t⟩⟩ <;> exact h
theorem lo_wait {l : List Bk} (h : Lo l) : Lo (waitB l) := by
  rcases l with _ | ⟨b, _ | ⟨c, t⟩⟩ <;> exact h
theorem still_ne {l : List Bk} (h : l ≠ []) : still l ≠ [] := by
  cases l with
  | nil => exact absurd rfl h
  | cons b t => simp [still]
theorem waitB_ne {l : List Bk} (h : l ≠ []) : waitB l ≠ [] := by
  cases l with
  | nil => exact absurd rfl h
  | cons b t => simp [waitB]
theorem nest_comes (kb : Int) (s : St) (x : Ev.E) (bh : List Ev.E) : comes (nest kb s) x bh = mapE (nest kb) (comes s x bh) := by
  unfold comes nest
  simp only
  cases dress s.held x with
  | error e => rfl
  | ok y => simp only [mapE]; rw [nest_still]
theorem dress_kind {h : Pr} {x y : Ev.E} (hd : dress h x = .ok y) : y.kind = x.kind := by
  unfold dress at hd
  split at hd
  · split at hd
    · cases hd
    · cases hd; rfl
  · cases hd; rfl
theorem In.comes {s s' : St} {x : Ev.E} {bh : List Ev.E} (h : In s) (hf : dsum (ks (x :: bh)) = 0) (hc : Px.comes s x bh = .ok s') : In s' := by
  unfold Px.comes at hc
  cases hd : dress s.held x with
  | error e => rw [hd] at hc; cases hc
  | ok y =>
    rw [hd] at hc
    cases hc
    refine ⟨lo_still h.lo, still_ne h.ne, ?_⟩
    have e : ks (y :: bh) = ks (x :: bh) := by rw [ks_cons, ks_cons, dress_kind hd]
    show dsum (ks (s.out ++ y :: bh)) = ((still s.blocks).length : Int) - 1
    rw [ks_app, Ev.dsum_app, e, hf, h.sum, still_len]; simp
theorem nest_fill (kb : Int) (s : St) (x : Ev.E) : fill (nest kb s) x = nest kb (fill s x) := by
  unfold fill nest
  simp only
  rw [nest_still]
theorem In.fill {s : St} (h : In s) : In (Px.fill s hole) := by
  refine ⟨lo_still h.lo, still_ne h.ne, ?_⟩
  show dsum (ks (s.out ++ [s.held.on hole])) = ((still s.blocks).length : Int) - 1
  have e : ks [s.held.on hole] = [6] := rfl
  rw [ks_app, Ev.dsum_app, e, h.sum, still_len]; simp [dsum, Ev.dstep]
theorem nest_close1 (kb : Int) (s : St) (b c : Bk) (t : List Bk) (hb : s.blocks = b :: c :: t) : close1 (nest kb s) = nest kb (close1 s) := by
  obtain ⟨bs, h, o⟩ := s
  simp only at hb
  subst hb
  show (if b.waits then _ else _) = nest kb (if b.waits then _ else _)
  split <;> rfl
theorem In.close1 {s : St} (h : In s) {b c : Bk} {t : List Bk} (hb : s.blocks = b :: c :: t) : In (Px.close1 s) := by
  obtain ⟨h1, h2, h3⟩ := h
  rw [hb] at h1 h3
  obtain ⟨f1, f2, f3⟩ := h1
  have e : dsum (ks [ev b.fin]) = -1 := by
    show dsum [b.fin] = -1
    rcases f1 with f1 | f1 <;> rw [f1] <;> simp [dsum, Ev.dstep]
  unfold Px.close1
  rw [hb]
  simp only
  split
  · refine ⟨f3, by simp, ?_⟩
    have e2 : ks [s.held.on hole, ev b.fin] = [6] ++ ks [ev b.fin] := rfl
    simp only
    rw [ks_app, Ev.dsum_app, e2, Ev.dsum_app, e, h3]
    simp [dsum, Ev.dstep]; omega
  · refine ⟨f3, by simp, ?_⟩
    simp only
    rw [ks_app, Ev.dsum_app, e, h3]
    simp; omega
theorem nest_dropGo (kb : Int) (ind : Int) (hi : 1 ≤ ind) : ∀ m s, dropGo ind m (nest kb s) = nest kb (dropGo ind m s)
  | 0, _ => rfl
  | m + 1, s => by
    rcases hb : s.blocks with _ | ⟨b, _ | ⟨c, t⟩⟩
    · have e : (nest kb s).blocks = [] := by unfold nest; rw [hb]; rfl
      unfold dropGo
      rw [e, hb]
    · have e : (nest kb s).blocks = [⟨kb, kb + 1, 0, b.waits⟩, doc.still] := by unfold nest; rw [hb]; rfl
      unfold dropGo
      rw [e, hb]
      simp only
      rw [if_neg (by omega)]
    · have e : (nest kb s).blocks = b :: nestB kb (c :: t) := by unfold nest; rw [hb]; rfl
      obtain ⟨c', t', hc⟩ : ∃ c' t', nestB kb (c :: t) = c' :: t' := by cases t <;> exact ⟨_, _, rfl⟩
      unfold dropGo
      rw [e, hb, hc]
      simp only
      rw [nest_close1 kb s b c t hb, nest_dropGo kb ind hi m]
      split <;> rfl
theorem In.dropGo (ind : Int) : ∀ m s, In s → In (Px.dropGo ind m s)
  | 0, _, h => h
  | m + 1, s, h => by
    rcases hb : s.blocks with _ | ⟨b, _ | ⟨c, t⟩⟩
    · exact absurd hb h.ne
    · unfold Px.dropGo; rw [hb]; exact h
    · unfold Px.dropGo
      rw [hb]
      simp only
      split
      · exact In.dropGo ind m _ (h.close1 hb)
      · exact h
theorem dropGo_more (ind : Int) : ∀ m s, s.blocks.length ≤ m + 1 → dropGo ind (m + 1) s = dropGo ind m s
  | 0, s, h => by
    rcases hb : s.blocks with _ | ⟨b, _ | ⟨c, t⟩⟩
    · unfold dropGo; rw [hb]
    · unfold dropGo; rw [hb]
    · rw [hb] at h; simp at h
  | m + 1, s, h => by
    have ih := dropGo_more ind m (close1 s) (by rw [close1_len]; omega)
    show (match s.blocks with
      | b :: _ :: _ => if ind < b.col then dropGo ind (m + 1) (close1 s) else s
      | _ => s) = (match s.blocks with
      | b :: _ :: _ => if ind < b.col then dropGo ind m (close1 s) else s
      | _ => s)
    rw [ih]
theorem nest_dropTo (kb : Int) (ind : Int) (hi : 1 ≤ ind) (s : St) (h : In s) : dropTo ind (nest kb s) = nest kb (dropTo ind s) := by
  unfold dropTo
  have e : (nest kb s).blocks.length = s.blocks.length + 1 := nestB_len kb _ h.ne
  rw [e, nest_dropGo kb ind hi, dropGo_more ind _ s (by omega)]
theorem nest_placeAt (kb : Int) (s : St) (ind : Int) (ws : List Wd) (hi : 1 ≤ ind) (h : In s) : placeAt (nest kb s) ind ws = mapE (nest kb) (placeAt s ind ws) := by
  unfold placeAt
  rw [nest_fill]
  rcases hb : s.blocks with _ | ⟨b, _ | ⟨c, t⟩⟩
  · exact absurd hb h.ne
  · have e : (nest kb s).blocks = [⟨kb, kb + 1, 0, b.waits⟩, doc.still] := by unfold nest; rw [hb]; rfl
    have hl := h.lo
    rw [hb] at hl
    obtain ⟨_, _, l3⟩ := hl
    rw [e]
    simp only
    rw [if_pos (show (0 : Int) ≠ ind by omega), if_pos (show b.col ≠ ind by omega)]
    split <;> rfl
  · have e : (nest kb s).blocks = b :: nestB kb (c :: t) := by unfold nest; rw [hb]; rfl
    rw [e]
    simp only
    split
    · split <;> rfl
    · split
      · split <;> rfl
      · rfl
theorem In.placeAt {s s' : St} {ind : Int} {ws : List Wd} (h : In s) (hp : Px.placeAt s ind ws = .ok s') : In s' := by
  unfold Px.placeAt at hp
  split at hp
  · cases hp
  · split at hp
    · split at hp
      · cases hp; exact h
      · cases hp
    · split at hp
      · split at hp
        · cases hp; exact h.fill
        · cases hp; exact h
      · cases hp
theorem nest_enter (kb : Int) (s s' : St) (k f c : Int) (hk : k = 2 ∨ k = 4) (hc : 1 ≤ c) (h : In s) (he : enter s k f c = .ok s') (hd : s'.blocks.length ≤ 40) : enter (nest kb s) k f c = .ok (nest kb s') := by
  unfold enter at he ⊢
  rcases hb : s.blocks with _ | ⟨b, _ | ⟨d, t⟩⟩
  · exact absurd hb h.ne
  · have e : (nest kb s).blocks = [⟨kb, kb + 1, 0, b.waits⟩, doc.still] := by unfold nest; rw [hb]; rfl
    have hl := h.lo
    rw [hb] at hl he
    obtain ⟨l1, _, _⟩ := hl
    simp only at he
    rw [if_neg (show ¬ (b.kind = k ∧ b.col = c) by omega), if_neg (by simp)] at he
    rw [e]
    simp only
    rw [if_neg (show ¬ (kb = k ∧ (0 : Int) = c) by omega), if_neg (by simp)]
    cases he
    rfl
  · have e : (nest kb s).blocks = b :: nestB kb (d :: t) := by unfold nest; rw [hb]; rfl
    rw [hb] at he
    rw [e]
    simp only at he ⊢
    split at he
    · rename_i h1
      rw [if_pos h1]; cases he; rfl
    · rename_i h1
      rw [if_neg h1]
      split at he
      · cases he
      · cases he
        simp only [List.length_cons] at hd
        have hlen := nestB_len kb (d :: t) (by simp)
        rw [if_neg (by rw [hlen]; simp only [List.length_cons]; omega)]
        rfl
theorem In.enter {s s' : St} {k c : Int} (hk : k = 2 ∨ k = 4) (hc : 1 ≤ c) (h : In s) (he : Px.enter s k (k + 1) c = .ok s') : In s' := by
  unfold Px.enter at he
  cases hb : s.blocks with
  | nil => exact absurd hb h.ne
  | cons b t =>
    have hl := h.lo
    have hs := h.sum
    rw [hb] at he hl hs
    simp only at he
    split at he
    · cases he; exact h
    · split at he
      · cases he
      · cases he
        refine ⟨?_, by simp, ?_⟩
        · have := lo_still hl
          cases t with
          | nil => exact ⟨by simp only; omega, hc, this⟩
          | cons d u => exact ⟨by simp only; omega, hc, this⟩
        · have e : ks [s.held.on (ev k)] = [k] := rfl
          simp only
          rw [ks_app, Ev.dsum_app, e, hs]
          rcases hk with rfl | rfl <;> simp [dsum, Ev.dstep]
/-! events are told one behind the other -/
theorem grow_of_pre (f : St → Except Nat St) (hf : ∀ o s, f (s.pre o) = preS o (f s)) (s s' : St) (h : f s = .ok s') : dmax (ks s.out) ≤ dmax (ks s'.out) := by
  have e : s = (⟨s.blocks, s.held, []⟩ : St).pre s.out := by unfold St.pre; simp
  rw [e, hf] at h
  cases hx : f ⟨s.blocks, s.held, []⟩ with
  | error n => rw [hx] at h; cases h
  | ok u =>
    rw [hx] at h
    cases h
    show _ ≤ dmax (ks (s.out ++ u.out))
    rw [ks_app, Ev.dmax_app]; omega
theorem grow_of_preP (f : St → Except Nat (St × List Wd)) (hf : ∀ o s, f (s.pre o) = preP o (f s)) (s s' : St) (r : List Wd) (h : f s = .ok (s', r)) : dmax (ks s.out) ≤ dmax (ks s'.out) := by
  have e : s = (⟨s.blocks, s.held, []⟩ : St).pre s.out := by unfold St.pre; simp
  rw [e, hf] at h
  cases hx : f ⟨s.blocks, s.held, []⟩ with
  | error n => rw [hx] at h; cases h
  | ok u =>
    obtain ⟨u, q⟩ := u
    rw [hx] at h
    cases h
    show _ ≤ dmax (ks (s.out ++ u.out))
    rw [ks_app, Ev.dmax_app]; omega
theorem In.few {s : St} (h : In s) (hd : dmax (ks s.out) ≤ 39) : s.blocks.length ≤ 40 := by
  have h1 := dsum_le (ks s.out)
  have h2 := h.sum
  omega
def At1 (ws : List Wd) : Prop := ∀ w ∈ ws, 1 ≤ w.at_
theorem In.wait {s : St} (h : In s) : In s.wait := ⟨lo_wait h.lo, waitB_ne h.ne, by show dsum (ks s.out) = ((waitB s.blocks).length : Int) - 1; rw [waitB_len]; exact h.sum⟩
theorem nest_wait (kb : Int) (s : St) : (nest kb s).wait = nest kb s.wait := by
  unfold St.wait nest
  simp only
  rw [nest_waitB]
theorem nest_dashes (kb : Int) (ws : List Wd) : ∀ s s' r, In s → At1 ws → dashes s ws = .ok (s', r) → dmax (ks s'.out) ≤ 39 → dashes (nest kb s) ws = .ok (nest kb s', r) ∧ In s' ∧ At1 r := by
  induction ws with
  | nil => intro s s' r hs ha h _; cases h; exact ⟨rfl, hs, ha⟩
  | cons w t ih =>
    intro s s' r hs ha h hd
    have ha' : At1 t := fun x hx => ha x (List.mem_cons_of_mem _ hx)
    have hw := ha w (List.mem_cons_self ..)
    unfold dashes at h ⊢
    split at h
    · rename_i hk
      rw [if_pos hk]
      cases he : enter s 2 3 w.at_ with
      | error e => rw [he] at h; cases h
      | ok s1 =>
        rw [he] at h
        simp only at h
        have h1 := hs.enter (.inl rfl) (by omega) he
        have hg := grow_of_preP (fun s => dashes s t) (fun o s => dashes_pre o t s) s1.wait s' r h
        have hf := h1.few (by have e : s1.wait.out = s1.out := rfl; rw [e] at hg; omega)
        rw [nest_enter kb s s1 2 3 _ (.inl rfl) (by omega) hs he hf]
        simp only
        rw [nest_wait]
        exact ih _ _ _ h1.wait ha' h hd
    · rename_i hk
      rw [if_neg hk]
      cases h
      exact ⟨rfl, hs, ha⟩
theorem at_cut (ws : List Wd) : ∀ p q r, At1 ws → cutP p ws = .ok (q, r) → At1 r := by
  induction ws with
  | nil => intro p q r h he; cases he; exact h
  | cons w t ih =>
    intro p q r h he
    have ht : At1 t := fun x hx => h x (List.mem_cons_of_mem _ hx)
    unfold cutP at he
    split at he
    · split at he
      · exact ih _ _ _ ht he
      · cases he
    · split at he
      · split at he
        · exact ih _ _ _ ht he
        · cases he
      · cases he; exact h
theorem leaf_flat (x : Ev.E) (h : x.kind = 6 ∨ x.kind = 7) : dsum (ks [x]) = 0 := (Nd.leaf x 0 h).flat
theorem nest_keyed (kb : Int) (s s' : St) (ws r : List Wd) (hs : In s) (ha : At1 ws) (h : keyed s ws = .ok (s', r)) (hd : dmax (ks s'.out) ≤ 39) : keyed (nest kb s) ws = .ok (nest kb s', r) ∧ In s' := by
  cases ws with
  | nil => cases h
  | cons w t =>
    have hw := ha w (List.mem_cons_self ..)
    unfold keyed at h ⊢
    simp only at h ⊢
    cases he : enter s 4 5 w.at_ with
    | error e => rw [he] at h; cases h
    | ok s1 =>
      rw [he] at h
      simp only at h
      have h1 := hs.enter (.inr rfl) (by omega) he
      cases hc : cutP nop (w :: t) with
      | error e => rw [hc] at h; cases h
      | ok y =>
        obtain ⟨p, q⟩ := y
        rw [hc] at h
        simp only at h
        have hg := grow_of_preP (fun s => keyGo s p q) (fun o s => keyGo_pre o s p q) s1 s' r h
        rw [nest_enter kb s s1 4 5 _ (.inr rfl) (by omega) hs he (h1.few (by omega))]
        simp only
        have key : ∀ x u, (x.kind = 6 ∨ x.kind = 7) → afterKey u (comes s1 x []) = .ok (s', r) → afterKey u (comes (nest kb s1) x []) = .ok (nest kb s', r) ∧ In s' := by
          intro x u hx hk
          rw [nest_comes]
          cases hco : comes s1 x [] with
          | error e => rw [hco] at hk; cases hk
          | ok s2 =>
            rw [hco] at hk
            cases hk
            exact ⟨by simp only [mapE, afterKey]; rw [nest_wait], (h1.comes (leaf_flat x hx) hco).wait⟩
        cases q with
        | nil => cases h
        | cons a u =>
          unfold keyGo at h ⊢
          simp only at h ⊢
          split at h
          · rename_i hk; rw [if_pos hk]; exact key _ _ (.inl rfl) h
          · rename_i hk
            rw [if_neg hk]
            cases hl : leaf a p with
            | error e => rw [hl] at h; cases h
            | ok x => rw [hl] at h; exact key _ _ (leaf_kind a p x hl) h
theorem nest_value (kb : Int) (s s' : St) (ws : List Wd) (tx : List UInt8) (hs : In s) (h : value s ws tx = .ok s') (hd : dmax (ks s'.out) ≤ 39) : value (nest kb s) ws tx = .ok (nest kb s') ∧ In s' := by
  unfold value at h ⊢
  cases hc : cutP nop ws with
  | error e => rw [hc] at h; cases h
  | ok y =>
    obtain ⟨p, r⟩ := y
    rw [hc] at h
    simp only at h ⊢
    split at h
    · rename_i h0
      rw [if_pos h0]
      unfold hold at h ⊢
      have e : (nest kb s).held = s.held := rfl
      rw [e]
      split at h
      · cases h
      · rename_i h1
        rw [if_neg h1]
        cases h
        exact ⟨rfl, hs.lo, hs.ne, hs.sum⟩
    · rename_i h0
      rw [if_neg h0]
      split at h
      · rename_i h1
        rw [if_pos h1, nest_comes, h]
        exact ⟨rfl, hs.comes (leaf_flat _ (.inl rfl)) h⟩
      · rename_i h1
        rw [if_neg h1]
        cases hf : flowOf ws (s.blocks.length - 1) with
        | error e => rw [hf] at h; cases h
        | ok es =>
          rw [hf] at h
          cases es with
          | nil => cases h
          | cons x xs =>
            have hn := flowOf_nd ws _ _ hf
            have hc2 : comes s x xs = .ok s' := h
            have e : (nest kb s).blocks.length - 1 = (s.blocks.length - 1) + 1 := by
              have := nestB_len kb s.blocks hs.ne
              have hp : 0 < s.blocks.length := List.length_pos_iff.2 hs.ne
              show (nestB kb s.blocks).length - 1 = _
              omega
            have hdeep : dmax (ks (x :: xs)) + (s.blocks.length - 1 : Nat) ≤ 39 := by
              unfold comes at hc2
              cases hdr : dress s.held x with
              | error e => rw [hdr] at hc2; cases hc2
              | ok y =>
                rw [hdr] at hc2
                cases hc2
                have e2 : ks (y :: xs) = ks (x :: xs) := by rw [ks_cons, ks_cons, dress_kind hdr]
                have hd2 : dmax (ks (s.out ++ y :: xs)) ≤ 39 := hd
                rw [ks_app, Ev.dmax_app, e2, hs.sum] at hd2
                have hp : 0 < s.blocks.length := List.length_pos_iff.2 hs.ne
                omega
            rw [e, flowOf_less ws _ _ hf hdeep]
            show comes (nest kb s) x xs = _ ∧ _
            rw [nest_comes, hc2]
            exact ⟨rfl, hs.comes hn.flat hc2⟩
theorem nest_behind (kb : Int) (s s' : St) (r : List Wd) (tx : List UInt8) (hs : In s) (h : behind tx (.ok (s, r)) = .ok s') (hd : dmax (ks s'.out) ≤ 39) : behind tx (.ok (nest kb s, r)) = .ok (nest kb s') ∧ In s' := by
  cases r with
  | nil => cases h; exact ⟨rfl, hs⟩
  | cons w t => exact nest_value kb s s' (w :: t) tx hs h hd
theorem nest_wordsOf (kb : Int) (s s' : St) (x : Ln) (hs : In s) (ha : At1 x.words) (h : wordsOf s x = .ok s') (hd : dmax (ks s'.out) ≤ 39) : wordsOf (nest kb s) x = .ok (nest kb s') ∧ In s' := by
  unfold wordsOf at h ⊢
  cases hda : dashes s x.words with
  | error e => rw [hda] at h; cases h
  | ok y =>
    obtain ⟨s1, ws⟩ := y
    rw [hda] at h
    simp only at h
    have fin : ∀ s2 r, behind x.text (.ok (s2, r)) = .ok s' → dmax (ks s2.out) ≤ 39 := by
      intro s2 r hb
      have := grow_of_pre (fun s => behind x.text (.ok (s, r))) (fun o s => behind_pre o x.text (.ok (s, r))) s2 s' hb
      omega
    split at h
    · rename_i hk
      cases hke : keyed s1 ws with
      | error e => rw [hke] at h; cases h
      | ok z =>
        obtain ⟨s2, r⟩ := z
        rw [hke] at h
        have h2 := fin s2 r h
        have h1 := grow_of_preP (fun s => keyed s ws) (fun o s => keyed_pre o s ws) s1 s2 r hke
        obtain ⟨g1, g2, g3⟩ := nest_dashes kb x.words s s1 ws hs ha hda (by omega)
        obtain ⟨g4, g5⟩ := nest_keyed kb s1 s2 ws r g2 g3 hke h2
        rw [g1]
        simp only
        rw [if_pos hk, g4]
        exact nest_behind kb s2 s' r x.text g5 h hd
    · rename_i hk
      have h2 := fin s1 ws h
      obtain ⟨g1, g2, g3⟩ := nest_dashes kb x.words s s1 ws hs ha hda h2
      rw [g1]
      simp only
      rw [if_neg hk]
      exact nest_behind kb s1 s' ws x.text g2 h hd
theorem nest_lineIn (kb : Int) (s s' : St) (x : Ln) (hm : x.mark = 0) (hi : 1 ≤ x.indent) (hs : In s) (ha : At1 x.words) (h : lineIn s x = .ok s') (hd : dmax (ks s'.out) ≤ 39) : lineIn (nest kb s) x = .ok (nest kb s') ∧ In s' := by
  unfold lineIn at h ⊢
  rw [if_neg (by omega), if_neg (by omega)] at h ⊢
  have ho : opened s = s := by unfold opened; rw [if_neg (by simpa using hs.ne)]
  have ho2 : opened (nest kb s) = nest kb s := by
    unfold opened
    have hl := nestB_len kb s.blocks hs.ne
    refine if_neg fun hc => ?_
    have hc' : nestB kb s.blocks = [] := List.isEmpty_iff.1 hc
    rw [hc'] at hl
    simp at hl
  rw [ho] at h
  rw [ho2]
  have hp : place (nest kb s) x = mapE (nest kb) (place s x) := by
    unfold place
    rw [nest_dropTo kb _ (by omega) s hs]
    exact nest_placeAt kb _ _ _ (by omega) (In.dropGo _ _ _ hs)
  rw [hp]
  cases hpl : place s x with
  | error e => rw [hpl] at h; cases h
  | ok s1 =>
    rw [hpl] at h
    have h1 : In s1 := In.placeAt (In.dropGo _ _ _ hs) (by unfold place dropTo at hpl; exact hpl)
    exact nest_wordsOf kb s1 s' x h1 ha h hd
theorem end_nest (kb : Int) : ∀ m s, s.blocks.length = m + 1 → Lo s.blocks → ∃ h X, endGo (m + 1) s = ⟨[], h, X ++ [ev 1]⟩ ∧ endGo (m + 2) (nest kb s) = ⟨[], h, X ++ [ev (kb + 1), ev 1]⟩
  | 0, s, hl, hlo => by
    obtain ⟨bs, h, o⟩ := s
    rcases bs with _ | ⟨b, _ | ⟨c, t⟩⟩
    · simp at hl
    · obtain ⟨_, l2, _⟩ := hlo
      cases hw : b.waits with
      | false => exact ⟨h, o, by simp [endGo, close1, hw, l2], by simp [endGo, nest, nestB, close1, hw, doc, Bk.still]⟩
      | true => exact ⟨nop, o ++ [h.on hole], by simp [endGo, close1, hw, l2], by simp [endGo, nest, nestB, close1, hw, doc, Bk.still]⟩
    · simp at hl
  | m + 1, s, hl, hlo => by
    rcases hb : s.blocks with _ | ⟨b, _ | ⟨c, t⟩⟩
    · rw [hb] at hl; simp at hl
    · rw [hb] at hl; simp at hl
    · rw [hb] at hl hlo
      have hc : (close1 s).blocks = c :: t := by unfold close1; rw [hb]; simp only; split <;> rfl
      obtain ⟨h, X, e1, e2⟩ := end_nest kb m (close1 s) (by rw [hc]; simpa using hl) (by rw [hc]; exact hlo.2.2)
      refine ⟨h, X, e1, ?_⟩
      show endGo (m + 2) (close1 (nest kb s)) = _
      rw [nest_close1 kb s b c t hb]; exact e2
theorem nest_docsGo (kb : Int) (ls : List Ln) : ∀ s F, In s → (∀ x ∈ ls, x.mark = 0 ∧ 1 ≤ x.indent ∧ At1 x.words) → docsGo ls s = .ok F → dmax (ks F.out) ≤ 39 →
    ∃ h X, F = ⟨[], h, X ++ [ev 1]⟩ ∧ docsGo ls (nest kb s) = .ok ⟨[], h, X ++ [ev (kb + 1), ev 1]⟩ := by
  induction ls with
  | nil =>
    intro s F hs _ h _
    cases h
    have hp : 0 < s.blocks.length := List.length_pos_iff.2 hs.ne
    obtain ⟨h, X, e1, e2⟩ := end_nest kb (s.blocks.length - 1) s (by omega) hs.lo
    refine ⟨h, X, ?_, ?_⟩
    · unfold endDoc
      rw [← e1]; congr 1; omega
    · show Except.ok (endDoc (nest kb s)) = _
      unfold endDoc
      have : (nest kb s).blocks.length = s.blocks.length + 1 := nestB_len kb _ hs.ne
      rw [this, ← e2]; congr 2; omega
  | cons x t ih =>
    intro s F hs hm h hd
    unfold docsGo at h ⊢
    cases hl : lineIn s x with
    | error e => rw [hl] at h; cases h
    | ok s1 =>
      rw [hl] at h
      simp only at h
      obtain ⟨m1, m2, m3⟩ := hm x (List.mem_cons_self ..)
      have hg := grow_of_pre (fun s => docsGo t s) (fun o s => docsGo_pre o t s) s1 F h
      obtain ⟨g1, g2⟩ := nest_lineIn kb s s1 x m1 m2 hs m3 hl (by omega)
      rw [g1]
      exact ih s1 F g2 (fun y hy => hm y (List.mem_cons_of_mem _ hy)) h hd
theorem mark_rp (n : Nat) (p : List UInt8) : Lx.markOf (Lx.rp (n + 1) p) = 0 := by
  unfold Lx.markOf Lx.isMark
  rw [Lx.rp_succ]
  simp [Lib.hasPrefix, List.isPrefixOf]
/-- what stands ahead: a key, or a dash -/
def headL (dash : Bool) : List UInt8 := if dash then [45] else [107, 58]
def headE (dash : Bool) : List Ev.E := if dash then [ev 0, ev 2] else [ev 0, ev 4, ⟨6, [], [], [107], true⟩]
def headK (dash : Bool) : Int := if dash then 2 else 4
def headN (dash : Bool) : Ln := if dash then ⟨0, 0, [⟨12, [], 0⟩], []⟩ else ⟨0, 0, [⟨0, [107], 0⟩, ⟨11, [], 1⟩], []⟩
def stD : St := ⟨[doc], nop, []⟩
theorem head_line (d : Bool) : Lx.lineOf (headL d) = .ok (headN d) := by cases d <;> kernel_rfl
theorem head_step (d : Bool) : lineIn st0 (headN d) = .ok ((nest (headK d) stD).pre (headE d)) := by cases d <;> rfl
theorem head_no10 (d : Bool) : ∀ b ∈ headL d, b ≠ 10 := by cases d <;> decide
theorem nested_read (d : Bool) (l : List UInt8) (ls : List Ln) (hm : ∀ q ∈ Lx.pieces l, Lx.markOf q = 0) (h : Lx.read l = .ok ls) : Lx.read (headL d ++ 10 :: Lx.moved 2 (Lx.sp l)) = .ok (headN d :: ls.map (shL 2)) := by
  obtain ⟨e, he, hp⟩ := Lx.sp_pieces l
  have q2 : ∀ p ∈ Lx.sp l, Lx.markOf p = 0 ∧ Lx.markOf (Lx.rp 2 p) = 0 := fun p hq => ⟨hm p (by rw [hp]; exact List.mem_append_left _ hq), mark_rp 1 p⟩
  rw [Lx.sp_read] at h
  have h2 := Lx.rp_rd 2 _ _ (Nat.le_refl _) q2
  rw [h] at h2
  rw [Lx.read_rd, Lx.pieces_ten, Lx.pieces_one _ (head_no10 d), List.singleton_append, rd_row _ _ _ (head_line d) (by cases d <;> rfl) (by cases d <;> rfl)]
  have h3 := Lx.moved_read 2 _ (Lx.sp_no10 l)
  rw [Lx.read_rd] at h3
  rw [h3, h2]
  rfl
theorem lineIn_opened (s : St) (x : Ln) (hm : x.mark = 0) : lineIn s x = lineIn (opened s) x := by
  unfold lineIn
  rw [if_neg (by omega), if_neg (by omega), if_neg (by omega), if_neg (by omega)]
  have : opened (opened s) = opened s := by
    unfold opened
    cases hb : s.blocks with
    | nil => rfl
    | cons b t => simp [hb]
  rw [this]
/-- A TEXT BELOW A KEY, or a dash -/
theorem nested_text (d : Bool) (l : List UInt8) (es : List Ev.E) (h1 : Lib.contains (10 :: l) [10, 45, 45, 45] = false) (h2 : Lib.contains (10 :: l) [10, 46, 46, 46] = false) (h : text l = .ok es) (h3 : 3 ≤ es.length) (hd : dmax (ks es) < 40) :
    ∃ X, es = ev 0 :: (X ++ [ev 1]) ∧ text (headL d ++ 10 :: Lx.moved 2 (Lx.sp l)) = .ok (headE d ++ X ++ [ev (headK d + 1), ev 1]) := by
  have hm := Lx.no_mark l h1 h2
  unfold text at h
  cases hr : Lx.read l with
  | error e => rw [hr] at h; cases h
  | ok ls =>
    rw [hr] at h
    simp only at h
    have hmk : ∀ x ∈ ls, x.mark = 0 := by
      rw [Lx.read_rd] at hr
      exact Lx.rd_marks _ _ ls (Nat.le_refl _) hm hr
    unfold events at h
    cases hg : docsGo ls st0 with
    | error e => rw [hg] at h; cases h
    | ok F0 =>
      rw [hg] at h
      have hes : F0.out = es := by cases h; rfl
      cases ls with
      | nil =>
        cases hg
        have : es = [] := by rw [← hes]; rfl
        subst this; simp at h3
      | cons x t =>
        have e0 : docsGo (x :: t) st0 = docsGo (x :: t) (stD.pre [ev 0]) := by
          unfold docsGo
          rw [lineIn_opened st0 x (hmk x (List.mem_cons_self ..))]
          rfl
        rw [e0, docsGo_pre] at hg
        cases hF : docsGo (x :: t) stD with
        | error e => rw [hF] at hg; cases hg
        | ok F =>
          rw [hF] at hg
          have hF0 : F0 = F.pre [ev 0] := by cases hg; rfl
          have hout : es = ev 0 :: F.out := by rw [← hes, hF0]; rfl
          have hsh := sh_docsGo 2 (x :: t) stD ⟨rfl, rfl⟩ hmk
          have e1 : shS 2 stD = stD := rfl
          rw [e1, hF] at hsh
          have hin : In stD := ⟨⟨rfl, rfl, rfl⟩, by simp [stD], rfl⟩
          have hdF : dmax (ks (shS 2 F).out) ≤ 39 := by
            show dmax (ks F.out) ≤ 39
            rw [hout, ks_cons] at hd
            simp only [dmax] at hd
            have e2 : Ev.dstep (ev 0).kind = 0 := rfl
            rw [e2] at hd
            omega
          obtain ⟨hh, X, g1, g2⟩ := nest_docsGo (headK d) ((x :: t).map (shL 2)) stD (shS 2 F) hin (fun y hy => by
            obtain ⟨z, hz, rfl⟩ := List.mem_map.1 hy
            refine ⟨hmk z hz, ?_, fun w hw => ?_⟩
            · show 1 ≤ z.indent + 2; omega
            · obtain ⟨v, _, rfl⟩ := List.mem_map.1 hw
              show 1 ≤ v.at_ + 2; omega) hsh hdF
          have hX : F.out = X ++ [ev 1] := by
            have := congrArg St.out g1
            exact this
          refine ⟨X, by rw [hout, hX], ?_⟩
          unfold text
          rw [nested_read d l (x :: t) hm hr]
          simp only
          unfold events
          have e3 : docsGo (headN d :: (x :: t).map (shL 2)) st0 = docsGo ((x :: t).map (shL 2)) ((nest (headK d) stD).pre (headE d)) := by
            have hde : docsGo (headN d :: (x :: t).map (shL 2)) st0 = (match lineIn st0 (headN d) with
              | .error e => (.error e : Except Nat St)
              | .ok s' => docsGo ((x :: t).map (shL 2)) s') := rfl
            rw [hde, head_step]
          rw [e3, docsGo_pre, g2]
          simp [preS, St.pre, outOf]
end Px
end Go.Proofs.YtjcfmghijfnehaaGreatDoor
namespace Go.Proofs.YtjcfmghijfnehaaGreatDoor
open Go.RowKit
theorem wpList_appR {ops : Array Oper} {rest : List Oper} {o : Oper} {a : Act} {Q : Exit → Act → World → Prop} {w : World} (hgd : o.guard = none) (s x : Operand)
    (ho : o.op = .call { callee := .builtin .append, args := #[s, x], argTypes := #[23, 23] }) (B : Nat) (v : Value) (xs ys : List Ev.E) (ad : Addr) (m c : Nat) (hs : a.eval s = v) (hx : a.eval x = .slice (some ad) m c)
    (hv : OwnE w B v xs) (hm : m = ys.length) (hn : NewsE w ad ys) (hl : xs.length + ys.length ≤ 1000000000) (hB : B ≤ w.heap.size)
    (h : ∀ v' w', OwnE w' B v' (xs ++ ys) → Below B w w' → wpList Tryz.prog ops Q rest (a.put o.dst v') w') : wpList Tryz.prog ops Q (o :: rest) a w := by
  obtain ⟨v', w', hr, h2, h3⟩ := run_appR w o.type B v ad m c xs ys hv hm hn (by omega) hB
  refine wpList_plain hgd fun K hK => ?_
  unfold Oper.wp execOp
  simp only [ho, resolve, invoke, builtin, Sem.run_bind, Sem.run_pure, Result.andThen_ok, List.map_toArray, List.map_cons, List.map_nil, hs, hx, hr]
  exact hK _ _ (h v' w' h2 h3.below)
theorem news_blk {w : World} {b : Nat} {C : Array Value} {t : TypeId} {fr : Nat × Nat} {ys : List Ev.E} (h : w.heap[b]? = some (.cells C t fr)) (hc : C.toList = evsCells ys) : NewsE w ⟨b, 0, none⟩ ys := fun j u hu => by
  rw [Addr.add_lit, Nat.zero_add]
  refine cell_blk h j u ?_
  rw [← Array.getElem?_toList, hc]; exact hu
/-- what Text answers: a document's events -/
theorem textR_mid {B : Nat} {X : List Ev.E} {e : Ending} {w : World} (h : TextR B (.ok (Px.ev 0 :: (X ++ [Px.ev 1]))) e w) :
    ∃ g c, e = .returned (.tuple #[.slice (some ⟨g, 0, none⟩) (X.length + 2) c, .int .i64 0]) ∧ X.length + 2 ≤ c ∧ g < w.heap.size ∧ NewsE w ⟨g, 5, none⟩ X ∧ RdE w w.heap.size (.slice (some ⟨g, 0, none⟩) (X.length + 2) c) (Px.ev 0 :: (X ++ [Px.ev 1])) := by
  obtain ⟨v, rfl, h2⟩ := h
  have hr := rowE_rd h2
  have hl : (Px.ev 0 :: (X ++ [Px.ev 1])).length = X.length + 2 := by simp
  obtain ⟨g, c, rfl, hc, hg, _, hn⟩ := ownE_form h2 (by omega)
  rw [hl] at hc
  have hd := (hn.drop0 1 (by omega)).take X.length
  have e1 : ((Px.ev 0 :: (X ++ [Px.ev 1])).drop 1).take X.length = X := by simp
  rw [e1] at hd
  rw [hl] at hr
  exact ⟨g, c, by rw [hl], hc, hg, hd, hr⟩
def keyC : Array Value := #[.int .i64 0, .string ⟨#[]⟩, .string ⟨#[]⟩, .string ⟨#[]⟩, .bool false, .int .i64 4, .string ⟨#[]⟩, .string ⟨#[]⟩, .string ⟨#[]⟩, .bool false, .int .i64 6, .string ⟨#[]⟩, .string ⟨#[]⟩, .string ⟨#[107]⟩, .bool true]
def dashC : Array Value := #[.int .i64 0, .string ⟨#[]⟩, .string ⟨#[]⟩, .string ⟨#[]⟩, .bool false, .int .i64 2, .string ⟨#[]⟩, .string ⟨#[]⟩, .string ⟨#[]⟩, .bool false]
theorem key_own (w : World) : OwnE (w.alloc (.cells keyC 47)) w.heap.size (.slice (some ⟨w.heap.size, 0, none⟩) 3 3) (Px.headE false) :=
  ⟨rfl, .inr ⟨w.heap.size, 3, keyC, rfl, Nat.le_refl _, alloc_blk w _, Nat.le_refl _, by decide, rfl, rfl⟩⟩
theorem dash_own (w : World) : OwnE (w.alloc (.cells dashC 47)) w.heap.size (.slice (some ⟨w.heap.size, 0, none⟩) 2 2) (Px.headE true) :=
  ⟨rfl, .inr ⟨w.heap.size, 2, dashC, rfl, Nat.le_refl _, alloc_blk w _, Nat.le_refl _, by decide, rfl, rfl⟩⟩
theorem dash_own2 (w : World) : OwnE ((w.alloc (.cells keyC 47)).alloc (.cells dashC 47)) (w.heap.size + 1) (.slice (some ⟨w.heap.size + 1, 0, none⟩) 2 2) (Px.headE true) := by
  have := dash_own (w.alloc (.cells keyC 47))
  rw [World.size_alloc] at this
  exact this
/-- the text below, bit by bit -/
def headT (d : Bool) (Q : List (List UInt8)) : List UInt8 := Px.headL d ++ 10 :: Lx.moved 2 Q
theorem head_text (d : Bool) (Q : List (List UInt8)) (p : List UInt8) : str (headT d Q) ++ (((⟨#[32, 32]⟩ : ByteArray) ++ str p) ++ (⟨#[10]⟩ : ByteArray)) = str (headT d (Q ++ [p])) := by
  have e1 : (⟨#[32, 32]⟩ : ByteArray) = str [32, 32] := rfl
  have e2 : (⟨#[10]⟩ : ByteArray) = str [10] := rfl
  rw [e1, e2, str_app, str_app, str_app]
  unfold headT
  rw [Lx.moved_snoc, List.append_assoc, List.cons_append]
  rfl
theorem head_len (d : Bool) (Q : List (List UInt8)) : (headT d Q).length ≤ (Lx.moved 2 Q).length + 3 := by
  unfold headT
  cases d <;> simp [Px.headL] <;> omega

set_option maxHeartbeats 16000000 in
set_option maxRecDepth 100000 in
theorem nested_key (s : ByteArray) (w : World) (hs : s.size ≤ 2000) (hE : Env w) (hm1 : Lib.contains (10 :: s.data.toList) (⟨#[10, 45, 45, 45]⟩ : ByteArray).data.toList = false) (hm2 : Lib.contains (10 :: s.data.toList) (⟨#[10, 46, 46, 46]⟩ : ByteArray).data.toList = false)
    (X : List Ev.E) (hx : Px.text s.data.toList = .ok (Px.ev 0 :: (X ++ [Px.ev 1]))) (h1 : 1 ≤ X.length) (hd : Ev.dmax (Ev.kinds (Px.ev 0 :: (X ++ [Px.ev 1]))) < 40)
    (hy : Px.text (headT false (Lx.sp s.data.toList)) = .ok (Px.headE false ++ X ++ [Px.ev (Px.headK false + 1), Px.ev 1])) :
    Calls Tryz.prog 7 #[.string s, .bool false] w fun e w' => e = .returned (.bool true) ∧ Below w.heap.size w w' := by
  have cA := Lib.hid (palive_any w hE)
  have HE := Lib.hid hE
  have b1 : decide ((2000 : Int) < (s.size : Int)) = false := decide_eq_false (by omega)
  have c1 := fun w hE => contains_any ((⟨#[10]⟩ : ByteArray) ++ s) ⟨#[10, 45, 45, 45]⟩ w (by rw [ten_size]; omega) hE
  have c2 := fun w hE => contains_any ((⟨#[10]⟩ : ByteArray) ++ s) ⟨#[10, 46, 46, 46]⟩ w (by rw [ten_size]; omega) hE
  rw [ten_data] at c1 c2
  rw [hm1] at c1
  rw [hm2] at c2
  have C1 := Lib.hid c1
  have C2 := Lib.hid c2
  have hl : s.data.toList.length ≤ 2000 := by rw [ba_len]; omega
  have lx := Px.text_len _ _ hx
  rw [List.length_cons, List.length_append, List.length_singleton] at lx
  have r1 := fun w hE => textP_any s w (by omega) hE
  rw [hx] at r1
  have R1 := Lib.hid r1
  have CD := Lib.hid (fun v w h => depth_any v (Px.ev 0 :: (X ++ [Px.ev 1])) w h (by simp; omega))
  have d0 := Ev.dmax_nonneg (Ev.kinds (Px.ev 0 :: (X ++ [Px.ev 1])))
  generalize Ev.dmax (Ev.kinds (Px.ev 0 :: (X ++ [Px.ev 1]))) = DM at *
  have dm1 : decide ((40 : Int) ≤ DM) = false := decide_eq_false (by omega)
  have dm2 : decide (DM ≥ (40 : Int)) = false := dm1
  have i3 : decide ((X.length : Int) + 2 < 3) = false := decide_eq_false (by omega)
  have i4 : decide (((X.length + 2 : Nat) : Int) < 3) = false := decide_eq_false (by omega)
  have cP := Lib.hid (fun w => pieces_doc s w (by omega))
  have SZ := Lib.hid (moved_size 2 s.data.toList (by decide) hl)
  have SI := Lib.hid (sp_item s.data.toList)
  have hcnt := sp_count s.data.toList
  rw [ba_len] at hcnt
  have hlen : s.data.toList.length = s.size := ba_len s
  have TX := Lib.hid (fun w (hE : Env w) => by
    have h1 := textP_any (str (headT false (Lx.sp s.data.toList))) w (by have h2 := SZ.out (Lx.sp s.data.toList).length; rw [List.take_of_length_le (Nat.le_refl _)] at h2; have h3 := head_len false (Lx.sp s.data.toList); rw [str_len]; omega) hE
    rw [str_dat, hy] at h1
    exact h1)
  clear hm1 hm2 hx hy r1 c1 c2 hE
  obtain ⟨HX, hHX⟩ : ∃ HX, Px.headE false ++ X = HX := ⟨_, rfl⟩
  have lHX : HX.length ≤ 28100 := by rw [← hHX]; simp [Px.headE]; omega
  rw [hHX] at TX
  generalize hWE : HX ++ [Px.ev (Px.headK false + 1), Px.ev 1] = WE at *
  have HWE := Lib.hid hWE
  have HHX := Lib.hid hHX
  have lW : WE.length ≤ 30000 := by rw [← hWE]; simp; omega
  clear hWE hHX
  generalize Lx.sp s.data.toList = Q at *
  go_enter Tryz.func7, Tryz.ntmps7
  go_wp2_with (first
    | (go_at_call 10; refine cA.out.mono ?_; rintro e w1 ⟨rfl, hb1⟩; have C1' := Lib.hid (C1.out w1 (HE.out.below hb1)); have C2' := Lib.hid (C2.out w1 (HE.out.below hb1)))
    | (go_at_call 19; go_fit C1'.out; rintro e w' ⟨rfl, rfl⟩)
    | (go_at_call 19; go_fit C2'.out; rintro e w' ⟨rfl, rfl⟩)
    | (go_at_call 11; refine (R1.out _ (HE.out.below hb1)).mono ?_; rintro e w2 ⟨hq, hb2⟩; obtain ⟨g, c, rfl, hc, hg, hn, hr⟩ := textR_mid hq; have HN := Lib.hid hn; have HR := Lib.hid hr; clear hn hr hq; have hb12 := bthen hb1 hb2)
    | (go_at_call 22; refine (CD.out _ w2 HR.out).mono ?_; rintro e w3 ⟨rfl, hb3⟩; have hb13 := bthen hb12 hb3; have HN3 := Lib.hid (HN.out.below hb3 hg); have hg3 := Nat.lt_of_lt_of_le hg hb3.size)
    | (at_builtin; refine wpList_appR rfl (.tmp 54) (.tmp 59) rfl w3.heap.size _ (Px.headE false) X _ _ _ rfl rfl ?o1 ?m1 ?n1 ?l1 ?b1 ?_; (case o1 => exact key_own w3); (case m1 => rfl); (case n1 => exact HN3.out.below (bnew w3 _) hg3); (case l1 => simp [Px.headE]; omega); (case b1 => rw [World.size_alloc]; omega); intro v5 w5 ho5 hb5; rw [HHX.out] at ho5; have HO5 := Lib.hid ho5; obtain ⟨oa, oc, rfl⟩ := own_slice ho5; clear ho5)
    | (at_builtin; refine wpList_appR rfl (.tmp 60) (.tmp 65) rfl w3.heap.size _ HX [Px.ev (Px.headK false + 1), Px.ev 1] _ _ _ rfl rfl ?o1 ?m1 ?n1 ?l1 ?b1 ?_; (case o1 => exact OwnE.below HO5.out (bnew _ _)); (case m1 => rfl); (case n1 => exact news_blk (alloc_blk w5 _) rfl); (case l1 => simp only [List.length_cons, List.length_nil]; omega); (case b1 => rw [World.size_alloc]; have := hb5.size; rw [World.size_alloc] at this; omega); intro v6 w6 ho6 hb6; rw [HWE.out] at ho6; have HO6 := Lib.hid ho6; obtain ⟨wa, wc, rfl⟩ := own_slice ho6; clear ho6 HO5; have hb16 : Below w.heap.size w w6 := hb13.trans (Below.mono ((bnew w3 _).trans ((hb5.mono (Nat.le_refl _)).trans ((bnew w5 _).mono (by have := hb5.size; rw [World.size_alloc] at this; omega) |>.trans (hb6.mono (Nat.le_refl _))))) hb13.size))
    | (go_at_call 21; refine (cP.out _).mono ?_; rintro e w7 ⟨⟨v, rfl, hv⟩, hb7⟩; obtain ⟨va, vc, rfl⟩ := own_slice hv; have HV := Lib.hid hv; clear hv; have hb17 := hb16.trans (hb7.mono hb16.size)))
  go_loopw [7, 70] (fun hv iv wr => ∃ j : Nat, j ≤ Q.length ∧ hv = .string (str (headT false (Q.take j))) ∧ iv = .int .i64 j ∧ Below w7.heap.size w7 wr) (fun _ i _ => Q.length - (intOf i).toNat)
  case atStart => exact ⟨0, by omega, rfl, rfl, Below.refl _ _⟩
  case round =>
    obtain ⟨j, hj, rfl, rfl, hbw⟩ := hrel
    have hBr := hbw.size
    by_cases hlt : j < Q.length
    · obtain ⟨g', c', e, hc', hg', hcl⟩ := HV.out.cell (by omega)
      cases e
      have c0 := (hbw.cell (p := ⟨g', j, none⟩) hg').trans (hcl j hlt)
      have HT := Lib.hid (List.take_succ_eq_append_getElem hlt)
      have hp := SI.out j hlt
      have hz := SZ.out j
      have hz2 := head_len false (Q.take j)
      clear hcl
      generalize Q[j] = p at *
      have z1 : (str (headT false (Q.take j))).size ≤ 20010 := by rw [str_len]; omega
      have z2 : (str p).size ≤ 2000 := by rw [str_len]; omega
      go_wp2
      go_roundw
      case rel => exact ⟨j + 1, by omega, by rw [HT.out]; exact congrArg Value.string (head_text false _ p), by go_num, hbw⟩
      case measure => simp [intOf]; omega
    · have hje : j = Q.length := by omega
      subst hje
      rw [List.take_of_length_le (Nat.le_refl _)]
      have hbr : Below w.heap.size w wr := hb17.trans (hbw.mono hb17.size)
      have hb6r : Below w6.heap.size w6 wr := bthen hb7 hbw
      have R2 := Lib.hid (TX.out wr (HE.out.below hbr))
      go_wp2_with (first
        | (go_at_call 11; go_fit R2.out; rintro e w8 ⟨hq, hb8⟩; obtain ⟨ya, yc, rfl, hy⟩ := textR_ok hq; have OX := Lib.hid (ours_any _ WE w8 (rowE_rd hy) (by omega)); clear hy hq)
        | (go_at_call 15; go_fit OX.out; rintro e w9 ⟨⟨p, rfl, hp⟩, hb9⟩; obtain ⟨pa, pc, rfl⟩ := own_slice hp; have HP := Lib.hid hp; clear hp; have OY := Lib.hid (ours_any _ WE w9 (rowE_rd (HO6.out.below (bthen (bthen hb6r hb8) hb9))) (by omega)))
        | (go_at_call 15; go_fit OY.out; rintro e w10 ⟨⟨q, rfl, hq⟩, hb10⟩; obtain ⟨qa, qc, rfl⟩ := own_slice hq; have CS := Lib.hid (sameE_any _ _ WE w10 (rowE_rd (HP.out.below hb10)) (rowE_rd hq) (by omega)); clear hq)
        | (go_at_call 14; go_fit CS.out; rintro e w11 ⟨rfl, n11, rfl⟩))
      go_ret
      exact ⟨rfl, bel_drewN' (hbr.trans ((bthen (bthen hb8 hb9) hb10).mono hbr.size)) _⟩

set_option maxHeartbeats 16000000 in
set_option maxRecDepth 100000 in
theorem nested_dash (s : ByteArray) (w : World) (hs : s.size ≤ 2000) (hE : Env w) (hm1 : Lib.contains (10 :: s.data.toList) (⟨#[10, 45, 45, 45]⟩ : ByteArray).data.toList = false) (hm2 : Lib.contains (10 :: s.data.toList) (⟨#[10, 46, 46, 46]⟩ : ByteArray).data.toList = false)
    (X : List Ev.E) (hx : Px.text s.data.toList = .ok (Px.ev 0 :: (X ++ [Px.ev 1]))) (h1 : 1 ≤ X.length) (hd : Ev.dmax (Ev.kinds (Px.ev 0 :: (X ++ [Px.ev 1]))) < 40)
    (hy : Px.text (headT true (Lx.sp s.data.toList)) = .ok (Px.headE true ++ X ++ [Px.ev (Px.headK true + 1), Px.ev 1])) :
    Calls Tryz.prog 7 #[.string s, .bool true] w fun e w' => e = .returned (.bool true) ∧ Below w.heap.size w w' := by
  have cA := Lib.hid (palive_any w hE)
  have HE := Lib.hid hE
  have b1 : decide ((2000 : Int) < (s.size : Int)) = false := decide_eq_false (by omega)
  have c1 := fun w hE => contains_any ((⟨#[10]⟩ : ByteArray) ++ s) ⟨#[10, 45, 45, 45]⟩ w (by rw [ten_size]; omega) hE
  have c2 := fun w hE => contains_any ((⟨#[10]⟩ : ByteArray) ++ s) ⟨#[10, 46, 46, 46]⟩ w (by rw [ten_size]; omega) hE
  rw [ten_data] at c1 c2
  rw [hm1] at c1
  rw [hm2] at c2
  have C1 := Lib.hid c1
  have C2 := Lib.hid c2
  have hl : s.data.toList.length ≤ 2000 := by rw [ba_len]; omega
  have lx := Px.text_len _ _ hx
  rw [List.length_cons, List.length_append, List.length_singleton] at lx
  have r1 := fun w hE => textP_any s w (by omega) hE
  rw [hx] at r1
  have R1 := Lib.hid r1
  have CD := Lib.hid (fun v w h => depth_any v (Px.ev 0 :: (X ++ [Px.ev 1])) w h (by simp; omega))
  have d0 := Ev.dmax_nonneg (Ev.kinds (Px.ev 0 :: (X ++ [Px.ev 1])))
  generalize Ev.dmax (Ev.kinds (Px.ev 0 :: (X ++ [Px.ev 1]))) = DM at *
  have dm1 : decide ((40 : Int) ≤ DM) = false := decide_eq_false (by omega)
  have dm2 : decide (DM ≥ (40 : Int)) = false := dm1
  have i3 : decide ((X.length : Int) + 2 < 3) = false := decide_eq_false (by omega)
  have i4 : decide (((X.length + 2 : Nat) : Int) < 3) = false := decide_eq_false (by omega)
  have cP := Lib.hid (fun w => pieces_doc s w (by omega))
  have SZ := Lib.hid (moved_size 2 s.data.toList (by decide) hl)
  have SI := Lib.hid (sp_item s.data.toList)
  have hcnt := sp_count s.data.toList
  rw [ba_len] at hcnt
  have hlen : s.data.toList.length = s.size := ba_len s
  have TX := Lib.hid (fun w (hE : Env w) => by
    have h1 := textP_any (str (headT true (Lx.sp s.data.toList))) w (by have h2 := SZ.out (Lx.sp s.data.toList).length; rw [List.take_of_length_le (Nat.le_refl _)] at h2; have h3 := head_len true (Lx.sp s.data.toList); rw [str_len]; omega) hE
    rw [str_dat, hy] at h1
    exact h1)
  clear hm1 hm2 hx hy r1 c1 c2 hE
  obtain ⟨HX, hHX⟩ : ∃ HX, Px.headE true ++ X = HX := ⟨_, rfl⟩
  have lHX : HX.length ≤ 28100 := by rw [← hHX]; simp [Px.headE]; omega
  rw [hHX] at TX
  generalize hWE : HX ++ [Px.ev (Px.headK true + 1), Px.ev 1] = WE at *
  have HWE := Lib.hid hWE
  have HHX := Lib.hid hHX
  have lW : WE.length ≤ 30000 := by rw [← hWE]; simp; omega
  clear hWE hHX
  generalize Lx.sp s.data.toList = Q at *
  go_enter Tryz.func7, Tryz.ntmps7
  go_wp2_with (first
    | (go_at_call 10; refine cA.out.mono ?_; rintro e w1 ⟨rfl, hb1⟩; have C1' := Lib.hid (C1.out w1 (HE.out.below hb1)); have C2' := Lib.hid (C2.out w1 (HE.out.below hb1)))
    | (go_at_call 19; go_fit C1'.out; rintro e w' ⟨rfl, rfl⟩)
    | (go_at_call 19; go_fit C2'.out; rintro e w' ⟨rfl, rfl⟩)
    | (go_at_call 11; refine (R1.out _ (HE.out.below hb1)).mono ?_; rintro e w2 ⟨hq, hb2⟩; obtain ⟨g, c, rfl, hc, hg, hn, hr⟩ := textR_mid hq; have HN := Lib.hid hn; have HR := Lib.hid hr; clear hn hr hq; have hb12 := bthen hb1 hb2)
    | (go_at_call 22; refine (CD.out _ w2 HR.out).mono ?_; rintro e w3 ⟨rfl, hb3⟩; have hb13 := bthen hb12 hb3; have HN3 := Lib.hid (HN.out.below hb3 hg); have hg3 := Nat.lt_of_lt_of_le hg hb3.size)
    | (at_builtin; refine wpList_appR rfl (.tmp 54) (.tmp 59) rfl (w3.heap.size + 1) _ (Px.headE true) X _ _ _ rfl rfl ?o1 ?m1 ?n1 ?l1 ?b1 ?_; (case o1 => exact dash_own2 w3); (case m1 => rfl); (case n1 => exact HN3.out.below (bnew2 w3 _ _) hg3); (case l1 => simp [Px.headE]; omega); (case b1 => rw [World.size_alloc, World.size_alloc]; omega); intro v5 w5 ho5 hb5; rw [HHX.out] at ho5; have HO5 := Lib.hid ho5; obtain ⟨oa, oc, rfl⟩ := own_slice ho5; clear ho5)
    | (at_builtin; refine wpList_appR rfl (.tmp 60) (.tmp 65) rfl (w3.heap.size + 1) _ HX [Px.ev (Px.headK true + 1), Px.ev 1] _ _ _ rfl rfl ?o1 ?m1 ?n1 ?l1 ?b1 ?_; (case o1 => exact OwnE.below HO5.out (bnew _ _)); (case m1 => rfl); (case n1 => exact news_blk (alloc_blk w5 _) rfl); (case l1 => simp only [List.length_cons, List.length_nil]; omega); (case b1 => rw [World.size_alloc]; have := hb5.size; rw [World.size_alloc, World.size_alloc] at this; omega); intro v6 w6 ho6 hb6; rw [HWE.out] at ho6; have HO6 := Lib.hid ho6; obtain ⟨wa, wc, rfl⟩ := own_slice ho6; clear ho6 HO5; have hb16 : Below w.heap.size w w6 := hb13.trans (Below.mono ((bnew2 w3 _ _).trans ((hb5.mono (Nat.le_succ _)).trans ((bnew w5 _).mono (by have := hb5.size; rw [World.size_alloc, World.size_alloc] at this; omega) |>.trans (hb6.mono (Nat.le_succ _))))) hb13.size))
    | (go_at_call 21; refine (cP.out _).mono ?_; rintro e w7 ⟨⟨v, rfl, hv⟩, hb7⟩; obtain ⟨va, vc, rfl⟩ := own_slice hv; have HV := Lib.hid hv; clear hv; have hb17 := hb16.trans (hb7.mono hb16.size)))
  go_loopw [7, 70] (fun hv iv wr => ∃ j : Nat, j ≤ Q.length ∧ hv = .string (str (headT true (Q.take j))) ∧ iv = .int .i64 j ∧ Below w7.heap.size w7 wr) (fun _ i _ => Q.length - (intOf i).toNat)
  case atStart => exact ⟨0, by omega, rfl, rfl, Below.refl _ _⟩
  case round =>
    obtain ⟨j, hj, rfl, rfl, hbw⟩ := hrel
    have hBr := hbw.size
    by_cases hlt : j < Q.length
    · obtain ⟨g', c', e, hc', hg', hcl⟩ := HV.out.cell (by omega)
      cases e
      have c0 := (hbw.cell (p := ⟨g', j, none⟩) hg').trans (hcl j hlt)
      have HT := Lib.hid (List.take_succ_eq_append_getElem hlt)
      have hp := SI.out j hlt
      have hz := SZ.out j
      have hz2 := head_len true (Q.take j)
      clear hcl
      generalize Q[j] = p at *
      have z1 : (str (headT true (Q.take j))).size ≤ 20010 := by rw [str_len]; omega
      have z2 : (str p).size ≤ 2000 := by rw [str_len]; omega
      go_wp2
      go_roundw
      case rel => exact ⟨j + 1, by omega, by rw [HT.out]; exact congrArg Value.string (head_text true _ p), by go_num, hbw⟩
      case measure => simp [intOf]; omega
    · have hje : j = Q.length := by omega
      subst hje
      rw [List.take_of_length_le (Nat.le_refl _)]
      have hbr : Below w.heap.size w wr := hb17.trans (hbw.mono hb17.size)
      have hb6r : Below w6.heap.size w6 wr := bthen hb7 hbw
      have R2 := Lib.hid (TX.out wr (HE.out.below hbr))
      go_wp2_with (first
        | (go_at_call 11; go_fit R2.out; rintro e w8 ⟨hq, hb8⟩; obtain ⟨ya, yc, rfl, hy⟩ := textR_ok hq; have OX := Lib.hid (ours_any _ WE w8 (rowE_rd hy) (by omega)); clear hy hq)
        | (go_at_call 15; go_fit OX.out; rintro e w9 ⟨⟨p, rfl, hp⟩, hb9⟩; obtain ⟨pa, pc, rfl⟩ := own_slice hp; have HP := Lib.hid hp; clear hp; have OY := Lib.hid (ours_any _ WE w9 (rowE_rd (HO6.out.below (bthen (bthen hb6r hb8) hb9))) (by omega)))
        | (go_at_call 15; go_fit OY.out; rintro e w10 ⟨⟨q, rfl, hq⟩, hb10⟩; obtain ⟨qa, qc, rfl⟩ := own_slice hq; have CS := Lib.hid (sameE_any _ _ WE w10 (rowE_rd (HP.out.below hb10)) (rowE_rd hq) (by omega)); clear hq)
        | (go_at_call 14; go_fit CS.out; rintro e w11 ⟨rfl, n11, rfl⟩))
      go_ret
      exact ⟨rfl, bel_drewN' (hbr.trans ((bthen (bthen hb8 hb9) hb10).mono hbr.size)) _⟩

set_option maxHeartbeats 4000000 in
set_option maxRecDepth 100000 in
theorem nested_walk (s : ByteArray) (d : Bool) (w : World) (hs : s.size ≤ 9223372036854775807) (hE : Env w) :
    Calls Tryz.prog 7 #[.string s, .bool d] w fun e w' => e = .returned (.bool true) ∧ Below w.heap.size w w' := by
  have cA := Lib.hid (palive_any w hE)
  have HE := Lib.hid hE
  by_cases hbig : 2000 < s.size
  · have b1 : decide ((2000 : Int) < (s.size : Int)) = true := decide_eq_true (by omega)
    clear hE
    go_enter Tryz.func7, Tryz.ntmps7
    go_wp2_with (go_at_call 10; refine cA.out.mono ?_; rintro e w1 ⟨rfl, hb1⟩)
    go_ret
    exact ⟨rfl, hb1⟩
  · have b1 : decide ((2000 : Int) < (s.size : Int)) = false := decide_eq_false (by omega)
    have c1 := fun w hE => contains_any ((⟨#[10]⟩ : ByteArray) ++ s) ⟨#[10, 45, 45, 45]⟩ w (by rw [ten_size]; omega) hE
    have c2 := fun w hE => contains_any ((⟨#[10]⟩ : ByteArray) ++ s) ⟨#[10, 46, 46, 46]⟩ w (by rw [ten_size]; omega) hE
    rw [ten_data] at c1 c2
    cases hm1 : Lib.contains (10 :: s.data.toList) (⟨#[10, 45, 45, 45]⟩ : ByteArray).data.toList with
    | true =>
      rw [hm1] at c1
      have C1 := Lib.hid c1
      clear c1 c2 hm1 hE
      go_enter Tryz.func7, Tryz.ntmps7
      go_wp2_with (first
        | (go_at_call 10; refine cA.out.mono ?_; rintro e w1 ⟨rfl, hb1⟩)
        | (go_at_call 19; refine (C1.out _ (HE.out.below hb1)).mono ?_; rintro e w' ⟨rfl, rfl⟩))
      go_ret
      exact ⟨rfl, hb1⟩
    | false =>
      rw [hm1] at c1
      cases hm2 : Lib.contains (10 :: s.data.toList) (⟨#[10, 46, 46, 46]⟩ : ByteArray).data.toList with
      | true =>
        rw [hm2] at c2
        have C1 := Lib.hid c1
        have C2 := Lib.hid c2
        clear c1 c2 hm1 hm2 hE
        go_enter Tryz.func7, Tryz.ntmps7
        go_wp2_with (first
          | (go_at_call 10; refine cA.out.mono ?_; rintro e w1 ⟨rfl, hb1⟩; have C1' := Lib.hid (C1.out w1 (HE.out.below hb1)); have C2' := Lib.hid (C2.out w1 (HE.out.below hb1)))
          | (go_at_call 19; go_fit C1'.out; rintro e w' ⟨rfl, rfl⟩)
          | (go_at_call 19; go_fit C2'.out; rintro e w' ⟨rfl, rfl⟩))
        go_ret
        exact ⟨rfl, hb1⟩
      | false =>
        rw [hm2] at c2
        have C1 := Lib.hid c1
        have C2 := Lib.hid c2
        have r1 := fun w hE => textP_any s w (by omega) hE
        cases hx : Px.text s.data.toList with
        | error n =>
          rw [hx] at r1
          have hn := Px.text_er _ _ hx
          have bn : ((n : Int) != 0) = true := bne_iff_ne.2 (by omega)
          have R1 := Lib.hid r1
          clear c1 c2 hm1 hm2 hE hx r1 hn
          go_enter Tryz.func7, Tryz.ntmps7
          go_wp2_with (first
            | (go_at_call 10; refine cA.out.mono ?_; rintro e w1 ⟨rfl, hb1⟩; have C1' := Lib.hid (C1.out w1 (HE.out.below hb1)); have C2' := Lib.hid (C2.out w1 (HE.out.below hb1)))
            | (go_at_call 19; go_fit C1'.out; rintro e w' ⟨rfl, rfl⟩)
            | (go_at_call 19; go_fit C2'.out; rintro e w' ⟨rfl, rfl⟩)
            | (go_at_call 11; refine (R1.out _ (HE.out.below hb1)).mono ?_; rintro e w2 ⟨hq, hb2⟩; obtain rfl := textR_err hq; clear hq))
          go_ret
          exact ⟨rfl, bthen hb1 hb2⟩
        | ok es =>
          rw [hx] at r1
          by_cases h3 : es.length < 3
          · have R1 := Lib.hid r1
            have i3 : decide ((es.length : Int) < 3) = true := decide_eq_true (by omega)
            clear c1 c2 hm1 hm2 hE hx r1
            go_enter Tryz.func7, Tryz.ntmps7
            go_wp2_with (first
              | (go_at_call 10; refine cA.out.mono ?_; rintro e w1 ⟨rfl, hb1⟩; have C1' := Lib.hid (C1.out w1 (HE.out.below hb1)); have C2' := Lib.hid (C2.out w1 (HE.out.below hb1)))
              | (go_at_call 19; go_fit C1'.out; rintro e w' ⟨rfl, rfl⟩)
              | (go_at_call 19; go_fit C2'.out; rintro e w' ⟨rfl, rfl⟩)
              | (go_at_call 11; refine (R1.out _ (HE.out.below hb1)).mono ?_; rintro e w2 ⟨hq, hb2⟩; obtain ⟨va, vc, rfl, _⟩ := textR_ok hq; clear hq))
            go_ret
            exact ⟨rfl, bthen hb1 hb2⟩
          · by_cases hd : Ev.dmax (Ev.kinds es) < 40
            · obtain ⟨X, hX, hy⟩ := Px.nested_text d s.data.toList es hm1 hm2 hx (by omega) hd
              subst hX
              have hXl : 1 ≤ X.length := by simp only [List.length_cons, List.length_append, List.length_nil] at h3; omega
              cases d with
              | false => exact nested_key s w (by omega) hE hm1 hm2 X hx hXl hd hy
              | true => exact nested_dash s w (by omega) hE hm1 hm2 X hx hXl hd hy
            · have lx := Px.text_len _ _ hx
              rw [ba_len] at lx
              have R1 := Lib.hid r1
              have CD := Lib.hid (fun v w h => depth_any v es w h (by omega))
              have d1 := Ev.dmax_le (Ev.kinds es)
              rw [Ev.kinds_len] at d1
              generalize Ev.dmax (Ev.kinds es) = DM at *
              have dm1 : decide ((40 : Int) ≤ DM) = true := decide_eq_true (by omega)
              have i3 : decide ((es.length : Int) < 3) = false := decide_eq_false (by omega)
              clear c1 c2 hm1 hm2 hE hx r1
              go_enter Tryz.func7, Tryz.ntmps7
              go_wp2_with (first
                | (go_at_call 10; refine cA.out.mono ?_; rintro e w1 ⟨rfl, hb1⟩; have C1' := Lib.hid (C1.out w1 (HE.out.below hb1)); have C2' := Lib.hid (C2.out w1 (HE.out.below hb1)))
                | (go_at_call 19; go_fit C1'.out; rintro e w' ⟨rfl, rfl⟩)
                | (go_at_call 19; go_fit C2'.out; rintro e w' ⟨rfl, rfl⟩)
                | (go_at_call 11; refine (R1.out _ (HE.out.below hb1)).mono ?_; rintro e w2 ⟨hq, hb2⟩; obtain ⟨va, vc, rfl, hv⟩ := textR_ok hq; have HV := Lib.hid hv; clear hq hv)
                | (go_at_call 22; refine (CD.out _ w2 (rowE_rd HV.out)).mono ?_; rintro e w3 ⟨rfl, hb3⟩))
              go_ret
              exact ⟨rfl, bthen (bthen hb1 hb2) hb3⟩
end Go.Proofs.YtjcfmghijfnehaaGreatDoor
