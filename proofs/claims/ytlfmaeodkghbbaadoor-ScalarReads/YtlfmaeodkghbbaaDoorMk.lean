/-
  Plain mathematics: the document's Unquote and Unsingle, by characters, against the program's, by bytes.
-/
import Derived.Test.YtlfmaeodkghbbaaDoorRo
import Derived.Test.YtlfmaeodkghbbaaDoorMj
namespace Go.Proofs.YtlfmaeodkghbbaaDoor

def hexR (l : List UInt8) (d n : Nat) : Option Nat := if l.length < d then none else hexNum (l.take d) n
def nmbG (l : List Nat) (d n : Nat) : Option Nat := if l.length < d then none else numN (l.take d) n
theorem hexNum_cons (b : UInt8) (t : List UInt8) (n : Nat) : hexNum (b :: t) n = (Sc.digB b).bind fun d => hexNum t (n * 16 + d) := by
  simp only [hexNum]; cases Sc.digB b <;> rfl
theorem hexR_cons (b : UInt8) (t : List UInt8) (d n : Nat) : hexR (b :: t) (d + 1) n = (Sc.digB b).bind fun x => hexR t d (n * 16 + x) := by
  unfold hexR
  by_cases h : t.length < d
  · rw [if_pos (by simp; omega)]
    cases Sc.digB b with
    | none => rfl
    | some x => rw [Option.bind_some, if_pos h]
  · rw [if_neg (by simp; omega), List.take_succ_cons, hexNum_cons]
    cases Sc.digB b with
    | none => rfl
    | some x => rw [Option.bind_some, Option.bind_some, if_neg h]
theorem nmbG_cons (c : Nat) (t : List Nat) (d n : Nat) : nmbG (c :: t) (d + 1) n = (digN c).bind fun x => nmbG t d (n * 16 + x) := by
  unfold nmbG
  by_cases h : t.length < d
  · rw [if_pos (by simp; omega)]
    cases digN c with
    | none => rfl
    | some x => rw [Option.bind_some, if_pos h]
  · rw [if_neg (by simp; omega), List.take_succ_cons, numN_cons]
    cases digN c with
    | none => rfl
    | some x => rw [Option.bind_some, Option.bind_some, if_neg h]
/-- a character of ASCII is its byte; another one's first byte is none of ASCII -/
theorem enc_case (c : Nat) (hc : Sc.isCh c) : (c < 128 ∧ ∃ b : UInt8, b.toNat = c ∧ Sc.enc c = [b]) ∨ (128 ≤ c ∧ ∃ b u, 128 ≤ b.toNat ∧ Sc.enc c = b :: u) := by
  by_cases h : c < 128
  · left
    exact ⟨h, UInt8.ofNat c, Sc.toNat_of c (by omega), Sc.enc1 c (by omega)⟩
  · right
    refine ⟨by omega, ?_⟩
    cases he : Sc.enc c with
    | nil => exact absurd he (Sc.enc_ne c)
    | cons b u =>
      refine ⟨b, u, ?_, rfl⟩
      rcases Nat.lt_or_ge b.toNat 128 with h1 | h1
      · have := mem_enc c b hc (by rw [he]; simp) h1; omega
      · exact h1
theorem digN_hi (c : Nat) (h : 128 ≤ c) : digN c = none := by
  unfold digN
  rw [if_neg (by omega), if_neg (by omega), if_neg (by omega)]
theorem hex_enc : ∀ (d : Nat) (u : List Nat) (n : Nat), (∀ r ∈ u, Sc.isCh r) → hexR (Sc.encs u) d n = nmbG u d n ∧ ∀ m, nmbG u d n = some m → (Sc.encs u).drop d = Sc.encs (u.drop d)
  | 0, u, n, _ => by
    refine ⟨?_, fun m _ => by simp⟩
    unfold hexR nmbG
    rw [if_neg (by omega), if_neg (by omega)]
    simp [hexNum, numN]
  | d + 1, [], n, _ => by
    unfold hexR nmbG
    refine ⟨by rw [if_pos (by simp [Sc.encs]), if_pos (by simp)], fun m h => ?_⟩
    rw [if_pos (by simp)] at h; cases h
  | d + 1, c :: v, n, h => by
    have hc := h c (by simp)
    have hv : ∀ r ∈ v, Sc.isCh r := fun r hr => h r (by simp [hr])
    rw [nmbG_cons]
    rcases enc_case c hc with ⟨h1, b, hb, he⟩ | ⟨h1, b, u, hb, he⟩
    · rw [Sc.encs_cons, he, List.singleton_append, hexR_cons, digN_byte, hb]
      cases hd : digN c with
      | none => exact ⟨rfl, fun m hm => by cases hm⟩
      | some x =>
        have ih := hex_enc d v (n * 16 + x) hv
        rw [Option.bind_some, Option.bind_some]
        refine ⟨ih.1, fun m hm => ?_⟩
        rw [List.drop_succ_cons, List.drop_succ_cons]
        exact ih.2 m hm
    · rw [digN_hi c h1, Sc.encs_cons, he, List.cons_append, hexR_cons, digN_byte, digN_hi _ hb]
      exact ⟨rfl, fun m hm => by cases hm⟩
theorem numOf_hexR (b : UInt8) (t : List UInt8) (d : Nat) : numOf (b :: t) d = match hexR t d 0 with
    | none => (0, 0)
    | some n => if Sc.isCh n then (n, 1 + d) else (0, 0) := by
  unfold numOf hexR
  by_cases h : t.length < d
  · rw [if_pos (by rw [List.length_cons]; omega), if_pos h]
  · rw [if_neg (by rw [List.length_cons]; omega), if_neg h]; rfl
theorem charFrom_hi (x : Nat) (h : 128 ≤ x) : charFrom 0 x = none := by
  unfold charFrom
  rw [Option.map_eq_none_iff, List.find?_eq_none]
  intro p hp e
  have : ∀ q ∈ namedTab, q.2 < 128 := by decide
  have := this p (by simpa using hp)
  rw [beq_iff_eq] at e
  omega
theorem charFrom_not (x r : Nat) (h : charFrom 0 x = some r) : x ≠ 120 ∧ x ≠ 117 ∧ x ≠ 85 := by
  refine ⟨?_, ?_, ?_⟩ <;> rintro rfl <;> revert h <;> decide +revert
def EscM (t : List Nat) : Prop := match meantN t with
  | none => (escOf (Sc.encs t)).2 = 0
  | some p => escOf (Sc.encs t) = p ∧ (Sc.encs t).drop p.2 = Sc.encs (t.drop p.2)
theorem escM_num (b : UInt8) (c : Nat) (u : List Nat) (d : Nat) (hd : d ≠ 0) (hu : ∀ r ∈ u, Sc.isCh r) (hw : widN c = d) (hm : meantN (c :: u) = numM c u) (he : Sc.enc c = [b])
    (hs : escOf (b :: Sc.encs u) = numOf (b :: Sc.encs u) d) : EscM (c :: u) := by
  unfold EscM
  have hx := hex_enc d u 0 hu
  rw [hm, Sc.encs_cons, he, List.singleton_append, hs, numOf_hexR, hx.1]
  unfold numM
  rw [hw, if_neg hd]
  have hn : nmbN u d = nmbG u d 0 := rfl
  rw [hn]
  cases hg : nmbG u d 0 with
  | none => rfl
  | some n =>
    simp only [Option.bind_some]
    by_cases hi : Sc.isCh n
    · rw [if_pos hi]
      simp only
      refine ⟨if_pos hi, ?_⟩
      have e : ∀ (y : UInt8) (l : List UInt8), (y :: l).drop (1 + d) = l.drop d := fun y l => by rw [Nat.add_comm, List.drop_succ_cons]
      have e2 : (c :: u).drop (1 + d) = u.drop d := by rw [Nat.add_comm, List.drop_succ_cons]
      rw [e, e2]
      exact hx.2 n hg
    · rw [if_neg hi]
      show (if Sc.isCh n then (n, 1 + d) else (0, 0)).2 = 0
      rw [if_neg hi]
theorem esc_meant (t : List Nat) (h : ∀ r ∈ t, Sc.isCh r) : EscM t := by
  cases t with
  | nil => rfl
  | cons c u =>
    have hc := h c (by simp)
    have hu : ∀ r ∈ u, Sc.isCh r := fun r hr => h r (by simp [hr])
    have hM : meantN (c :: u) = if c = 47 then some (47, 1) else match charFrom 0 c with
      | some r => some (r, 1)
      | none => numM c u := rfl
    rcases enc_case c hc with ⟨h1, b, hb, he⟩ | ⟨h1, b, v, hb, he⟩
    · have hE : escOf (b :: Sc.encs u) = if c = 47 then (47, 1) else if c = 120 then numOf (b :: Sc.encs u) 2 else if c = 117 then numOf (b :: Sc.encs u) 4 else if c = 85 then numOf (b :: Sc.encs u) 8 else nmR (charFrom 0 c) := by
        rw [← hb]; rfl
      by_cases h47 : c = 47
      · unfold EscM
        rw [hM, if_pos h47, Sc.encs_cons, he, List.singleton_append, hE, if_pos h47]
        exact ⟨rfl, rfl⟩
      · rw [if_neg h47] at hM hE
        cases hcf : charFrom 0 c with
        | some r =>
          obtain ⟨n1, n2, n3⟩ := charFrom_not c r hcf
          unfold EscM
          rw [hM, hcf, Sc.encs_cons, he, List.singleton_append, hE, if_neg n1, if_neg n2, if_neg n3, hcf]
          exact ⟨rfl, rfl⟩
        | none =>
          rw [hcf] at hM hE
          by_cases k1 : c = 120
          · exact escM_num b c u 2 (by decide) hu (by unfold widN; rw [if_pos k1]) hM he (by rw [hE, if_pos k1])
          · by_cases k2 : c = 117
            · exact escM_num b c u 4 (by decide) hu (by unfold widN; rw [if_neg k1, if_pos k2]) hM he (by rw [hE, if_neg k1, if_pos k2])
            · by_cases k3 : c = 85
              · exact escM_num b c u 8 (by decide) hu (by unfold widN; rw [if_neg k1, if_neg k2, if_pos k3]) hM he (by rw [hE, if_neg k1, if_neg k2, if_pos k3])
              · have hw : widN c = 0 := by unfold widN; rw [if_neg k1, if_neg k2, if_neg k3]
                unfold EscM
                rw [hM, Sc.encs_cons, he, List.singleton_append, hE, if_neg k1, if_neg k2, if_neg k3]
                unfold numM
                rw [if_pos hw]; rfl
    · have hw : widN c = 0 := by unfold widN; rw [if_neg (by omega), if_neg (by omega), if_neg (by omega)]
      unfold EscM
      rw [hM, if_neg (by omega), charFrom_hi c h1]
      unfold numM
      rw [if_pos hw, Sc.encs_cons, he, List.cons_append]
      simp only [escOf]
      rw [if_neg (by omega), if_neg (by omega), if_neg (by omega), if_neg (by omega), charFrom_hi _ hb]
      rfl
theorem unq_same : ∀ (n : Nat) (l : List Nat), l.length ≤ n → (∀ r ∈ l, Sc.isCh r) → unq (Sc.encs l) = (unqN l).map Sc.encs
  | 0, l, h, _ => by
    have : l = [] := List.eq_nil_of_length_eq_zero (by omega)
    subst this; rfl
  | n + 1, [], _, _ => rfl
  | n + 1, c :: t, h, hch => by
    rw [List.length_cons] at h
    have hc := hch c (by simp)
    have ht : ∀ r ∈ t, Sc.isCh r := fun r hr => hch r (by simp [hr])
    rw [unqN_cons]
    by_cases hq : c = 34 ∨ c = 10
    · have hb : (UInt8.ofNat c).toNat = c := Sc.toNat_of c (by omega)
      rw [if_pos hq, Sc.encs_cons, Sc.enc1 c (by omega), List.singleton_append, unq_cons, if_pos (by rw [hb]; exact hq)]
      rfl
    · rw [if_neg hq]
      by_cases h92 : c = 92
      · have hb : (UInt8.ofNat c).toNat = c := Sc.toNat_of c (by omega)
        rw [if_pos h92, Sc.encs_cons, Sc.enc1 c (by omega), List.singleton_append, unq_cons, if_neg (by rw [hb]; exact hq), if_pos (by rw [hb]; exact h92)]
        have hE := esc_meant t ht
        unfold EscM at hE
        cases hm : meantN t with
        | none => rw [hm] at hE; rw [if_pos hE]; rfl
        | some p =>
          rw [hm] at hE
          simp only at hE
          have hg := meantN_good t p.1 p.2 hm
          rw [hE.1, if_neg (by omega), hE.2, unq_same n (t.drop p.2) (by rw [List.length_drop]; omega) fun r hr => ht r (List.mem_of_mem_drop hr)]
          rw [Option.bind_some, Option.map_map, Option.map_map]
          congr 1
      · rw [if_neg h92, Sc.encs_cons, unq_raw _ _ fun b hb => ?_, unq_same n t (by omega) ht, Option.map_map, Option.map_map]
        · congr 1
        · by_cases hb' : b.toNat < 128
          · have := mem_enc c b hc hb hb'; omega
          · omega
/-- THE DOCUMENT's Unquote IS THE PROGRAM's -/
theorem unquote_same (s : List UInt8) : unquoteRef s (Sc.rns s) = unquoteOf s := by
  unfold unquoteRef unquoteOf
  by_cases hv : Lib.validD s = true
  · have hs := Sc.encs_rns s hv
    have hc := Sc.ch_rns s
    generalize Sc.rns s = l at *
    have h1 := head_encs l hc 34 (by decide)
    have h2 := last_encs l hc 34 (by decide)
    rw [hs] at h1 h2
    simp only [show (34 : UInt8).toNat = 34 from rfl] at h1 h2
    rw [Bool.eq_iff_iff, beq_iff_eq, beq_iff_eq] at h1 h2
    by_cases H : 2 ≤ l.length ∧ l.head? = some 34 ∧ l.getLast? = some 34
    · obtain ⟨H1, H2, H3⟩ := H
      obtain ⟨m, hm⟩ : ∃ m, l = 34 :: (m ++ [34]) := by
        cases l with
        | nil => cases H2
        | cons x t =>
          have hx : x = 34 := by simpa using H2
          cases t with
          | nil => simp at H1
          | cons y u =>
            rw [List.getLast?_cons_cons] at H3
            obtain ⟨m, hm⟩ := List.getLast?_eq_some_iff.1 H3
            exact ⟨m, by rw [hx, hm]⟩
      have hmc : ∀ r ∈ m, Sc.isCh r := fun r hr => hc r (by rw [hm]; simp [hr])
      have e34 : Sc.enc 34 = [34] := by decide
      have hsm : s = 34 :: (Sc.encs m ++ [34]) := by
        rw [← hs, hm, Sc.encs_cons, Sc.encs_append, Sc.encs_cons, e34]; rfl
      have hsl : 2 ≤ s.length := by rw [hsm]; simp
      rw [if_pos ⟨hv, H1, H2, H3⟩, if_pos ⟨hv, hsl, h1.2 H2, h2.2 H3⟩]
      have m1 : (l.drop 1).take (l.length - 2) = m := by rw [hm]; simp
      have m2 : (s.drop 1).take (s.length - 2) = Sc.encs m := by rw [hsm]; simp
      rw [m1, m2, unq_same m.length m (Nat.le_refl _) hmc]
    · rw [if_neg fun h => H h.2, if_neg]
      rintro ⟨_, g1, g2, g3⟩
      have k2 := h1.1 g2
      have k3 := h2.1 g3
      apply H
      refine ⟨?_, k2, k3⟩
      cases l with
      | nil => cases k2
      | cons x t =>
        have hx : x = 34 := by simpa using k2
        cases t with
        | nil =>
          rw [← hs, hx] at g1
          exact absurd g1 (by decide)
        | cons y u => simp
  · rw [if_neg fun h => hv h.1, if_neg fun h => hv h.1]

theorem undblN_dblN : ∀ l : List Nat, undblN (dblN l) = l
  | [] => rfl
  | c :: t => by
    have e : dblN (c :: t) = (if c = 39 then [39, 39] else [c]) ++ dblN t := by unfold dblN; rw [List.flatMap_cons]
    have ih := undblN_dblN t
    rw [e]
    by_cases h : c = 39
    · rw [if_pos h, h]
      show undblN (39 :: 39 :: dblN t) = _
      rw [undblN_cons, if_pos rfl, List.drop_succ_cons, List.drop_zero, ih]
    · rw [if_neg h]
      show undblN (c :: dblN t) = _
      rw [undblN_cons, if_neg h, ih]
/-- what single quotes tell of a text whose form they are -/
theorem single_back (o s : List UInt8) (h : singleOf o = some s) : unsingleOf s = some o ∧ unsingleRef s (Sc.rns s) = some o := by
  have hh := h
  unfold singleOf at h
  split at h
  · rename_i ho
    have hs : s = Sc.sq o := (Option.some.inj h).symm
    refine ⟨by rw [hs]; exact unsingle_sq o ho, ?_⟩
    obtain ⟨hv, _⟩ := oneLine_valid ho
    have hc := Sc.ch_rns o
    have hc2 : ∀ r ∈ 39 :: dblN (Sc.rns o) ++ [39], Sc.isCh r := by
      intro r hr
      simp only [List.cons_append, List.mem_cons, List.mem_append, List.not_mem_nil, or_false] at hr
      rcases hr with rfl | hr | rfl
      · unfold Sc.isCh; omega
      · exact dblN_ch _ hc r hr
      · unfold Sc.isCh; omega
    have hse : s = Sc.encs (39 :: dblN (Sc.rns o) ++ [39]) := by rw [sq_encs _ hc, Sc.encs_rns o hv, hs]
    have hr : Sc.rns s = 39 :: dblN (Sc.rns o) ++ [39] := by rw [hse, Sc.rns_encs _ hc2]
    have hvs : Lib.validD s = true := by rw [hse]; exact Sc.valid_encs _ hc2
    have hmid : ((Sc.rns s).drop 1).take ((Sc.rns s).length - 2) = dblN (Sc.rns o) := by rw [hr]; simp
    unfold unsingleRef
    rw [if_pos ⟨hvs, by rw [hr]; simp⟩, hmid, undblN_dblN, Sc.encs_rns o hv, if_pos hh]
  · cases h
/-- THE DOCUMENT's Unsingle IS THE PROGRAM's -/
theorem unsingle_same (s : List UInt8) : unsingleRef s (Sc.rns s) = unsingleOf s := by
  by_cases h : ∃ o, singleOf o = some s
  · obtain ⟨o, ho⟩ := h
    have := single_back o s ho
    rw [this.1, this.2]
  · have h1 : unsingleRef s (Sc.rns s) = none := by
      unfold unsingleRef
      split
      · rw [if_neg fun e => h ⟨_, e⟩]
      · rfl
    have h2 : unsingleOf s = none := by
      unfold unsingleOf
      split
      · rfl
      · rw [if_neg fun e => h ⟨_, e⟩]
    rw [h1, h2]
end Go.Proofs.YtlfmaeodkghbbaaDoor
