/-
  Plain mathematics: lines that are moved to the right tell the same events.
-/
import Derived.Test.YtjcfmghijfnehaaGreatDoorKm
namespace Go.Proofs.YtjcfmghijfnehaaGreatDoor
namespace Px
open Lx (Wd Ln shW shL mapE)
theorem sh_bk (n : Nat) (ws : List Wd) (k : Nat) : bk (ws.map (shW n)) k = bk ws k := by cases ws <;> rfl
theorem sh_tail (n : Nat) (ws : List Wd) : (ws.map (shW n)).tail = ws.tail.map (shW n) := by cases ws <;> rfl
theorem sh_leaf (n : Nat) (w : Wd) (p : Pr) : leaf (shW n w) p = leaf w p := rfl
theorem sh_cutP (n : Nat) (ws : List Wd) : ∀ p, cutP p (ws.map (shW n)) = mapE (fun q => (q.1, q.2.map (shW n))) (cutP p ws) := by
  induction ws with
  | nil => intro p; rfl
  | cons w t ih =>
    intro p
    rw [List.map_cons]
    unfold cutP
    have hk : (shW n w).kind = w.kind := rfl
    have ht : (shW n w).text = w.text := rfl
    rw [hk, ht, ih, ih]
    split
    · split <;> rfl
    · split
      · split <;> rfl
      · rfl
/-- what is left is moved, too -/
def mR (n : Nat) : Rd → Rd := mapE fun q => (q.1.map (shW n), q.2)
theorem sh_leafW (n : Nat) (p : Pr) (ws : List Wd) : leafW p (ws.map (shW n)) = mR n (leafW p ws) := by
  cases ws with
  | nil => rfl
  | cons w t =>
    show (match leaf (shW n w) p with
      | .ok x => (.ok (t.map (shW n), [x]) : Rd)
      | .error e => .error e) = mR n (match leaf w p with
      | .ok x => .ok (t, [x])
      | .error e => .error e)
    rw [sh_leaf]
    cases leaf w p <;> rfl
theorem sh_pre (n : Nat) (es : List Ev.E) (x : Rd) : pre es (mR n x) = mR n (pre es x) := by cases x <;> rfl
theorem sh_items (n : Nat) (one : List Wd → Rd) (c : Nat) (ho : ∀ ws, one (ws.map (shW n)) = mR n (one ws)) : ∀ m ws, items one c m (ws.map (shW n)) = mR n (items one c m ws)
  | 0, _ => rfl
  | m + 1, ws => by
    unfold items
    rw [sh_bk, sh_tail, ho]
    split
    · rfl
    · cases one ws with
      | error e => rfl
      | ok y =>
        obtain ⟨r, es⟩ := y
        simp only [mR, mapE]
        rw [sh_bk, sh_bk, sh_tail, sh_items n one c ho m, sh_items n one c ho m]
        split
        · exact sh_pre n _ _
        · split
          · exact sh_pre n _ _
          · rfl
theorem sh_keyW (n : Nat) (ws : List Wd) : keyW (ws.map (shW n)) = mR n (keyW ws) := by
  unfold keyW
  rw [sh_bk, sh_cutP]
  split
  · rfl
  · cases cutP nop ws with
    | error e => rfl
    | ok y => exact sh_leafW n _ _
theorem sh_pair (n : Nat) (nd : List Wd → Rd) (hn : ∀ ws, nd (ws.map (shW n)) = mR n (nd ws)) (ws : List Wd) : pair nd (ws.map (shW n)) = mR n (pair nd ws) := by
  unfold pair
  rw [sh_keyW]
  cases keyW ws with
  | error e => rfl
  | ok y =>
    obtain ⟨r, es⟩ := y
    simp only [mR, mapE]
    rw [sh_bk, sh_tail, sh_bk, sh_bk, hn]
    split
    · split
      · rfl
      · exact sh_pre n _ _
    · rfl
theorem sh_wrap (n : Nat) (p : Pr) (k : Int) (x : Rd) : wrap p k (mR n x) = mR n (wrap p k x) := by cases x <;> rfl
theorem sh_nodeWith (n : Nat) (lst mp : List Wd → Rd) (h1 : ∀ ws, lst (ws.map (shW n)) = mR n (lst ws)) (h2 : ∀ ws, mp (ws.map (shW n)) = mR n (mp ws)) (ws : List Wd) : nodeWith lst mp (ws.map (shW n)) = mR n (nodeWith lst mp ws) := by
  unfold nodeWith
  rw [sh_cutP]
  cases cutP nop ws with
  | error e => rfl
  | ok y =>
    obtain ⟨p, r⟩ := y
    simp only [mapE]
    rw [sh_bk, sh_bk, sh_tail, h1, h2, sh_leafW]
    split
    · exact sh_wrap n _ _ _
    · split
      · exact sh_wrap n _ _ _
      · rfl
theorem sh_node (n : Nat) : ∀ k ws, node k (ws.map (shW n)) = mR n (node k ws)
  | 0, ws => by unfold node; exact sh_nodeWith n (fun _ => .error 13) (fun _ => .error 13) (fun _ => rfl) (fun _ => rfl) ws
  | k + 1, ws => by
    unfold node
    refine sh_nodeWith n _ _ (fun r => ?_) (fun r => ?_) ws
    · rw [List.length_map]; exact sh_items n _ _ (sh_node n k) _ r
    · rw [List.length_map]; exact sh_items n _ _ (sh_pair n _ (sh_node n k)) _ r
theorem sh_flowOf (n : Nat) (ws : List Wd) (d : Nat) : flowOf (ws.map (shW n)) d = flowOf ws d := by
  unfold flowOf
  rw [sh_node]
  cases node (40 - d) ws with
  | error e => rfl
  | ok y =>
    obtain ⟨r, es⟩ := y
    cases r <;> rfl
theorem sh_isKey (n : Nat) (ws : List Wd) : isKeyGo (ws.map (shW n)) = isKeyGo ws := by
  induction ws with
  | nil => rfl
  | cons w t ih =>
    rw [List.map_cons]
    unfold isKeyGo
    have hk : (shW n w).kind = w.kind := rfl
    rw [hk, ih, sh_bk]
theorem sh_goesOn (n : Nat) (k : Int) (ws : List Wd) : goesOn k (ws.map (shW n)) = goesOn k ws := by
  unfold goesOn
  rw [sh_bk, sh_isKey]

/-- all blocks but the lowest one, so far to the right -/
def mvB (n : Nat) (b : Bk) : Bk := ⟨b.kind, b.fin, b.col + n, b.waits⟩
def shB (n : Nat) : List Bk → List Bk
  | [] => []
  | [b] => [b]
  | b :: c :: t => mvB n b :: shB n (c :: t)
/-- the lowest one is a document -/
def Bot : List Bk → Prop
  | [] => True
  | [b] => b.kind = 0 ∧ b.col = -1
  | _ :: c :: t => Bot (c :: t)
theorem Bot.tail {b : Bk} {t : List Bk} (h : Bot (b :: t)) : Bot t := by
  cases t with
  | nil => exact True.intro
  | cons c t => exact h
theorem shB_cons (n : Nat) (b : Bk) (t : List Bk) (h : t ≠ []) : shB n (b :: t) = mvB n b :: shB n t := by
  cases t with
  | nil => exact absurd rfl h
  | cons c t => rfl
theorem shB_len (n : Nat) : ∀ l : List Bk, (shB n l).length = l.length
  | [] => rfl
  | [_] => rfl
  | _ :: c :: t => by show (shB n (c :: t)).length + 1 = _; rw [shB_len n (c :: t)]; rfl
theorem sh_still (n : Nat) (l : List Bk) : still (shB n l) = shB n (still l) := by
  rcases l with _ | ⟨b, _ | ⟨c, t⟩⟩ <;> rfl
theorem sh_waitB (n : Nat) (l : List Bk) : waitB (shB n l) = shB n (waitB l) := by
  rcases l with _ | ⟨b, _ | ⟨c, t⟩⟩ <;> rfl
theorem bot_still {l : List Bk} (h : Bot l) : Bot (still l) := by
  rcases l with _ | ⟨b, _ | ⟨c, t⟩⟩ <;> exact h
theorem bot_wait {l : List Bk} (h : Bot l) : Bot (waitB l) := by
  rcases l with _ | ⟨b, _ | ⟨c, t⟩⟩ <;> exact h
def shS (n : Nat) (s : St) : St := ⟨shB n s.blocks, s.held, s.out⟩
theorem sh_comes (n : Nat) (s : St) (x : Ev.E) (bh : List Ev.E) : comes (shS n s) x bh = mapE (shS n) (comes s x bh) := by
  unfold comes shS
  simp only
  cases dress s.held x with
  | error e => rfl
  | ok y => simp only [mapE]; rw [sh_still]
theorem sh_fill (n : Nat) (s : St) (x : Ev.E) : fill (shS n s) x = shS n (fill s x) := by
  unfold fill shS
  simp only
  rw [sh_still]
theorem sh_close1 (n : Nat) (s : St) : close1 (shS n s) = shS n (close1 s) := by
  obtain ⟨bs, h, o⟩ := s
  rcases bs with _ | ⟨b, _ | ⟨c, t⟩⟩
  · rfl
  · show (if b.waits then _ else _) = shS n (if b.waits then _ else _)
    split <;> rfl
  · show (if b.waits then _ else _) = shS n (if b.waits then _ else _)
    split <;> rfl
theorem bot_close1 (s : St) (h : Bot s.blocks) : Bot (close1 s).blocks := by
  unfold close1
  cases hb : s.blocks with
  | nil => rw [hb] at h; rw [hb]; exact h
  | cons b t =>
    rw [hb] at h
    simp only
    split
    · exact h.tail
    · exact h.tail
theorem sh_endGo (n : Nat) : ∀ m s, endGo m (shS n s) = shS n (endGo m s)
  | 0, _ => rfl
  | m + 1, s => by unfold endGo; rw [sh_close1, sh_endGo n m]
theorem sh_endDoc (n : Nat) (s : St) : endDoc (shS n s) = shS n (endDoc s) := by
  unfold endDoc
  have : (shS n s).blocks.length = s.blocks.length := shB_len n _
  rw [this, sh_endGo]
theorem sh_dropGo (n : Nat) (ind : Int) : ∀ m s, dropGo (ind + n) m (shS n s) = shS n (dropGo ind m s)
  | 0, _ => rfl
  | m + 1, s => by
    obtain ⟨bs, h, o⟩ := s
    rcases bs with _ | ⟨b, _ | ⟨c, t⟩⟩
    · rfl
    · rfl
    · unfold dropGo
      have e : (shS n ⟨b :: c :: t, h, o⟩).blocks = mvB n b :: shB n (c :: t) := rfl
      obtain ⟨c', t', hc⟩ : ∃ c' t', shB n (c :: t) = c' :: t' := by cases t <;> exact ⟨_, _, rfl⟩
      rw [e, hc]
      simp only
      rw [sh_close1, sh_dropGo n ind m]
      have : (ind + n < (mvB n b).col) = (ind < b.col) := by show (ind + (n : Int) < b.col + n) = _; exact propext (by omega)
      simp only [this]
      split <;> rfl
theorem bot_dropGo (ind : Int) : ∀ m s, Bot s.blocks → Bot (dropGo ind m s).blocks
  | 0, _, h => h
  | m + 1, s, h => by
    unfold dropGo
    split
    · split
      · exact bot_dropGo ind m _ (bot_close1 s h)
      · exact h
    · exact h
theorem sh_placeAt (n : Nat) (s : St) (ind : Nat) (ws : List Wd) (hb : Bot s.blocks) : placeAt (shS n s) (((ind + n : Nat)) : Int) (ws.map (shW n)) = mapE (shS n) (placeAt s ind ws) := by
  unfold placeAt
  rw [sh_fill]
  obtain ⟨bs, h, o⟩ := s
  rcases bs with _ | ⟨b, _ | ⟨c, t⟩⟩
  · rfl
  · obtain ⟨_, h2⟩ := hb
    have e : (shS n ⟨[b], h, o⟩).blocks = [b] := rfl
    rw [e]
    simp only
    rw [if_pos (show b.col ≠ ((ind + n : Nat) : Int) by rw [h2]; omega), if_pos (show b.col ≠ (ind : Int) by rw [h2]; omega)]
    split <;> rfl
  · have e : (shS n ⟨b :: c :: t, h, o⟩).blocks = mvB n b :: shB n (c :: t) := rfl
    rw [e]
    simp only
    have e1 : ((mvB n b).col ≠ ((ind + n : Nat) : Int)) = (b.col ≠ (ind : Int)) := by unfold mvB; exact propext (by simp only [ne_eq]; omega)
    have e2 : (mvB n b).waits = b.waits := rfl
    have e3 : (mvB n b).kind = b.kind := rfl
    simp only [e1, e2, e3, sh_goesOn]
    split
    · split <;> rfl
    · split
      · split <;> rfl
      · rfl
theorem bot_placeAt (s s' : St) (ind : Int) (ws : List Wd) (hb : Bot s.blocks) (h : placeAt s ind ws = .ok s') : Bot s'.blocks := by
  unfold placeAt at h
  split at h
  · cases h
  · split at h
    · split at h
      · cases h; exact hb
      · cases h
    · split at h
      · split at h
        · cases h; exact bot_still hb
        · cases h; exact hb
      · cases h
theorem sh_enter (n : Nat) (s : St) (k f : Int) (c : Nat) (hk : k = 2 ∨ k = 4) (hb : Bot s.blocks) : enter (shS n s) k f ((c + n : Nat) : Int) = mapE (shS n) (enter s k f c) := by
  unfold enter
  obtain ⟨bs, h, o⟩ := s
  rcases bs with _ | ⟨b, _ | ⟨d, t⟩⟩
  · rfl
  · obtain ⟨h1, _⟩ := hb
    have e : (shS n ⟨[b], h, o⟩).blocks = [b] := rfl
    rw [e]
    simp only
    rw [if_neg (show ¬ (b.kind = k ∧ b.col = ((c + n : Nat) : Int)) by rw [h1]; omega), if_neg (show ¬ (b.kind = k ∧ b.col = (c : Int)) by rw [h1]; omega)]
    split
    · rfl
    · simp only [mapE, shS, shB, mvB]
      try (congr 1; try simp)
  · have e : (shS n ⟨b :: d :: t, h, o⟩).blocks = mvB n b :: shB n (d :: t) := rfl
    rw [e]
    simp only
    have e1 : ((mvB n b).kind = k ∧ (mvB n b).col = ((c + n : Nat) : Int)) = (b.kind = k ∧ b.col = (c : Int)) := by unfold mvB; exact propext (by simp only; omega)
    simp only [e1, shB_len]
    split
    · rfl
    · split
      · rfl
      · simp only [mapE, shS, shB, mvB, Bk.still]
        try (congr 1; try simp)
theorem bot_enter (s s' : St) (k f c : Int) (hb : Bot s.blocks) (h : enter s k f c = .ok s') : Bot s'.blocks := by
  unfold enter at h
  cases hs : s.blocks with
  | nil => rw [hs] at h; cases h
  | cons b t =>
    rw [hs] at h hb
    simp only at h
    split at h
    · cases h; rw [hs]; exact hb
    · split at h
      · cases h
      · cases h
        exact bot_still (l := b :: t) hb
theorem sh_wait (n : Nat) (s : St) : (shS n s).wait = shS n s.wait := by
  unfold St.wait shS
  simp only
  rw [sh_waitB]
def mS (n : Nat) : St × List Wd → St × List Wd := fun q => (shS n q.1, q.2.map (shW n))
theorem sh_dashes (n : Nat) (ws : List Wd) : ∀ s, Bot s.blocks → dashes (shS n s) (ws.map (shW n)) = mapE (mS n) (dashes s ws) := by
  induction ws with
  | nil => intro s _; rfl
  | cons w t ih =>
    intro s hb
    rw [List.map_cons]
    unfold dashes
    have hk : (shW n w).kind = w.kind := rfl
    have ha : (shW n w).at_ = w.at_ + n := rfl
    rw [hk, ha, sh_enter n s 2 3 w.at_ (.inl rfl) hb]
    split
    · cases he : enter s 2 3 w.at_ with
      | error e => rfl
      | ok s1 =>
        simp only [mapE]
        rw [sh_wait]
        exact ih _ (bot_wait (bot_enter s s1 2 3 _ hb he))
    · rfl
theorem bot_dashes (ws : List Wd) : ∀ s s' r, Bot s.blocks → dashes s ws = .ok (s', r) → Bot s'.blocks := by
  induction ws with
  | nil => intro s s' r hb h; cases h; exact hb
  | cons w t ih =>
    intro s s' r hb h
    unfold dashes at h
    split at h
    · cases he : enter s 2 3 w.at_ with
      | error e => rw [he] at h; cases h
      | ok s1 =>
        rw [he] at h
        exact ih _ _ _ (bot_wait (bot_enter s s1 2 3 _ hb he)) h
    · cases h; exact hb
theorem sh_afterKey (n : Nat) (r : List Wd) (x : Except Nat St) : afterKey (r.map (shW n)) (mapE (shS n) x) = mapE (mS n) (afterKey r x) := by
  cases x with
  | error e => rfl
  | ok s => simp only [mapE, afterKey, mS]; rw [sh_wait]
theorem bot_comes (s s' : St) (x : Ev.E) (bh : List Ev.E) (hb : Bot s.blocks) (h : comes s x bh = .ok s') : Bot s'.blocks := by
  unfold comes at h
  cases hd : dress s.held x with
  | error e => rw [hd] at h; cases h
  | ok y => rw [hd] at h; cases h; exact bot_still hb
theorem bot_afterKey (s' : St) (r q : List Wd) (x : Except Nat St) (hx : ∀ s, x = .ok s → Bot s.blocks) (h : afterKey r x = .ok (s', q)) : Bot s'.blocks := by
  cases x with
  | error e => cases h
  | ok s => cases h; exact bot_wait (hx s rfl)
theorem sh_keyGo (n : Nat) (s : St) (p : Pr) (ws : List Wd) : keyGo (shS n s) p (ws.map (shW n)) = mapE (mS n) (keyGo s p ws) := by
  cases ws with
  | nil => rfl
  | cons w t =>
    rw [List.map_cons]
    unfold keyGo
    have hk : (shW n w).kind = w.kind := rfl
    simp only [hk, sh_leaf, sh_comes, sh_tail]
    split
    · exact sh_afterKey n t _
    · cases leaf w p with
      | error e => rfl
      | ok x => exact sh_afterKey n _ _
theorem sh_keyed (n : Nat) (s : St) (ws : List Wd) (hb : Bot s.blocks) : keyed (shS n s) (ws.map (shW n)) = mapE (mS n) (keyed s ws) := by
  cases ws with
  | nil => rfl
  | cons w t =>
    have e0 : (w :: t).map (shW n) = shW n w :: t.map (shW n) := rfl
    rw [e0]
    unfold keyed
    have ha : (shW n w).at_ = w.at_ + n := rfl
    simp only [ha, sh_enter n s 4 5 w.at_ (.inr rfl) hb]
    cases he : enter s 4 5 w.at_ with
    | error e => rfl
    | ok s1 =>
      simp only [mapE]
      rw [← e0, sh_cutP]
      cases cutP nop (w :: t) with
      | error e => rfl
      | ok y => exact sh_keyGo n s1 _ _
theorem bot_keyed (s s' : St) (ws r : List Wd) (hb : Bot s.blocks) (h : keyed s ws = .ok (s', r)) : Bot s'.blocks := by
  cases ws with
  | nil => cases h
  | cons w t =>
    unfold keyed at h
    simp only at h
    cases he : enter s 4 5 w.at_ with
    | error e => rw [he] at h; cases h
    | ok s1 =>
      rw [he] at h
      simp only at h
      have h1 := bot_enter s s1 4 5 _ hb he
      cases hc : cutP nop (w :: t) with
      | error e => rw [hc] at h; cases h
      | ok y =>
        obtain ⟨p, q⟩ := y
        rw [hc] at h
        simp only at h
        cases q with
        | nil => cases h
        | cons a u =>
          unfold keyGo at h
          simp only at h
          split at h
          · exact bot_afterKey s' _ _ _ (fun s2 h2 => bot_comes _ _ _ _ h1 h2) h
          · cases hl : leaf a p with
            | error e => rw [hl] at h; cases h
            | ok x => rw [hl] at h; exact bot_afterKey s' _ _ _ (fun s2 h2 => bot_comes _ _ _ _ h1 h2) h
theorem sh_value (n : Nat) (s : St) (ws : List Wd) (tx : List UInt8) : value (shS n s) (ws.map (shW n)) tx = mapE (shS n) (value s ws tx) := by
  unfold value
  rw [sh_cutP, sh_flowOf]
  have hl : (shS n s).blocks.length = s.blocks.length := shB_len n _
  rw [hl]
  cases cutP nop ws with
  | error e => rfl
  | ok y =>
    obtain ⟨p, r⟩ := y
    simp only [mapE]
    rw [List.length_map, sh_bk, sh_comes]
    split
    · unfold hold
      show (if s.held.some then _ else _) = mapE (shS n) (if s.held.some then _ else _)
      split <;> rfl
    · split
      · rfl
      · cases flowOf ws (s.blocks.length - 1) with
        | error e => rfl
        | ok es =>
          cases es with
          | nil => rfl
          | cons x xs => exact sh_comes n s x xs
theorem bot_value (s s' : St) (ws : List Wd) (tx : List UInt8) (hb : Bot s.blocks) (h : value s ws tx = .ok s') : Bot s'.blocks := by
  unfold value at h
  cases hc : cutP nop ws with
  | error e => rw [hc] at h; cases h
  | ok y =>
    obtain ⟨p, r⟩ := y
    rw [hc] at h
    simp only at h
    split at h
    · unfold hold at h
      split at h
      · cases h
      · cases h; exact hb
    · split at h
      · exact bot_comes _ _ _ _ hb h
      · cases hf : flowOf ws (s.blocks.length - 1) with
        | error e => rw [hf] at h; cases h
        | ok es =>
          rw [hf] at h
          cases es with
          | nil => cases h
          | cons x xs => exact bot_comes _ _ _ _ hb h
theorem sh_behind (n : Nat) (tx : List UInt8) (y : Except Nat (St × List Wd)) : behind tx (mapE (mS n) y) = mapE (shS n) (behind tx y) := by
  cases y with
  | error e => rfl
  | ok z =>
    obtain ⟨s, r⟩ := z
    cases r with
    | nil => rfl
    | cons w t => exact sh_value n s (w :: t) tx
theorem sh_wordsOf (n : Nat) (s : St) (x : Ln) (hb : Bot s.blocks) : wordsOf (shS n s) (shL n x) = mapE (shS n) (wordsOf s x) := by
  unfold wordsOf
  have e1 : (shL n x).words = x.words.map (shW n) := rfl
  have e2 : (shL n x).text = x.text := rfl
  rw [e1, e2, sh_dashes n x.words s hb]
  cases hd : dashes s x.words with
  | error e => rfl
  | ok y =>
    obtain ⟨s1, ws⟩ := y
    have h1 := bot_dashes _ _ _ _ hb hd
    simp only [mapE, mS]
    rw [sh_isKey, sh_keyed n s1 ws h1]
    split
    · exact sh_behind n x.text _
    · exact sh_behind n x.text (.ok (s1, ws))
theorem bot_behind (s' : St) (tx : List UInt8) (y : Except Nat (St × List Wd)) (hy : ∀ s r, y = .ok (s, r) → Bot s.blocks) (h : behind tx y = .ok s') : Bot s'.blocks := by
  cases y with
  | error e => cases h
  | ok z =>
    obtain ⟨s, r⟩ := z
    cases r with
    | nil => cases h; exact hy _ _ rfl
    | cons w t => exact bot_value _ _ _ _ (hy _ _ rfl) h
theorem sh_opened (n : Nat) (s : St) : opened (shS n s) = shS n (opened s) := by
  obtain ⟨bs, h, o⟩ := s
  rcases bs with _ | ⟨b, _ | ⟨c, t⟩⟩ <;> rfl
theorem bot_opened (s : St) (h : Bot s.blocks) : Bot (opened s).blocks := by
  unfold opened
  split
  · rename_i hb
    have : s.blocks = [] := List.isEmpty_iff.1 hb
    unfold beginDoc
    rw [this]
    exact ⟨rfl, rfl⟩
  · exact h
theorem sh_lineIn (n : Nat) (s : St) (x : Ln) (hm : x.mark = 0) (hb : Bot s.blocks) : lineIn (shS n s) (shL n x) = mapE (shS n) (lineIn s x) := by
  unfold lineIn
  have e0 : (shL n x).mark = x.mark := rfl
  rw [e0, if_neg (by omega), if_neg (by omega), if_neg (by omega), if_neg (by omega), sh_opened]
  have ho := bot_opened s hb
  have e1 : place (shS n (opened s)) (shL n x) = mapE (shS n) (place (opened s) x) := by
    unfold place dropTo
    have e2 : (shL n x).indent = x.indent + n := rfl
    have e3 : (shL n x).words = x.words.map (shW n) := rfl
    have e4 : (shS n (opened s)).blocks.length = (opened s).blocks.length := shB_len n _
    rw [e2, e3, e4]
    have e5 : (((x.indent + n : Nat)) : Int) = (x.indent : Int) + n := by omega
    rw [show dropGo ((x.indent + n : Nat) : Int) (opened s).blocks.length (shS n (opened s)) = shS n (dropGo x.indent (opened s).blocks.length (opened s)) by rw [e5]; exact sh_dropGo n _ _ _]
    exact sh_placeAt n _ _ _ (bot_dropGo _ _ _ ho)
  rw [e1]
  cases hp : place (opened s) x with
  | error e => rfl
  | ok s1 => exact sh_wordsOf n s1 x (bot_placeAt _ _ _ _ (bot_dropGo _ _ _ ho) hp)
theorem bot_lineIn (s s' : St) (x : Ln) (hm : x.mark = 0) (hb : Bot s.blocks) (h : lineIn s x = .ok s') : Bot s'.blocks := by
  unfold lineIn at h
  rw [if_neg (by omega), if_neg (by omega)] at h
  have ho := bot_opened s hb
  cases hp : place (opened s) x with
  | error e => rw [hp] at h; cases h
  | ok s1 =>
    rw [hp] at h
    simp only at h
    have h1 := bot_placeAt _ _ _ _ (bot_dropGo _ _ _ ho) hp
    unfold wordsOf at h
    cases hd : dashes s1 x.words with
    | error e => rw [hd] at h; cases h
    | ok y =>
      obtain ⟨s2, ws⟩ := y
      rw [hd] at h
      have h2 := bot_dashes _ _ _ _ h1 hd
      simp only at h
      refine bot_behind s' x.text _ (fun s3 r he => ?_) h
      split at he
      · exact bot_keyed _ _ _ _ h2 he
      · cases he; exact h2
theorem sh_docsGo (n : Nat) (ls : List Ln) : ∀ s, Bot s.blocks → (∀ x ∈ ls, x.mark = 0) → docsGo (ls.map (shL n)) (shS n s) = mapE (shS n) (docsGo ls s) := by
  induction ls with
  | nil => intro s _ _; show Except.ok (endDoc (shS n s)) = _; rw [sh_endDoc]; rfl
  | cons x t ih =>
    intro s hb hm
    rw [List.map_cons]
    unfold docsGo
    rw [sh_lineIn n s x (hm x (List.mem_cons_self ..)) hb]
    cases hl : lineIn s x with
    | error e => rfl
    | ok s1 => exact ih s1 (bot_lineIn s s1 x (hm x (List.mem_cons_self ..)) hb hl) fun y hy => hm y (List.mem_cons_of_mem _ hy)
/-- LINES THAT ARE MOVED tell the same -/
theorem events_shift (n : Nat) (ls : List Ln) (hm : ∀ x ∈ ls, x.mark = 0) : events (ls.map (shL n)) = events ls := by
  unfold events
  have h := sh_docsGo n ls st0 True.intro hm
  have e : shS n st0 = st0 := rfl
  rw [e] at h
  rw [h]
  cases docsGo ls st0 <;> rfl
end Px
end Go.Proofs.YtjcfmghijfnehaaGreatDoor
