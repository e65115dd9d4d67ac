/-
  Plain mathematics: the document's way along a text without quotes, against the program's.
-/
import Derived.Test.YtlfmaeodkghbbaaDoorRj
import Derived.Test.YtlfmaeodkghbbaaDoorMi
namespace Go.Proofs.YtlfmaeodkghbbaaDoor

theorem pair_cons (a b x : UInt8) (m : List UInt8) : hasPair a b (x :: m) = ((x == a && m.head? == some b) || hasPair a b m) := by
  cases m with
  | nil => simp [hasPair]
  | cons y t => simp [hasPair]
theorem pair_raw (a b : UInt8) (m : List UInt8) : ∀ bs : List UInt8, (∀ x ∈ bs, x ≠ a) → hasPair a b (bs ++ m) = hasPair a b m
  | [], _ => rfl
  | x :: t, h => by
    rw [List.cons_append, pair_cons, beq_eq_false_iff_ne.2 (h x (by simp)), pair_raw a b m t fun y hy => h y (by simp [hy])]; simp
theorem toNat_inj {a b : UInt8} (h : a.toNat = b.toNat) : a = b := by
  have := congrArg UInt8.ofNat h; simpa using this
/-- a byte of ASCII stands in a character's bytes only as itself -/
theorem enc_of (r : Nat) (b : UInt8) (hc : Sc.isCh r) (hb : b.toNat < 128) : (r = b.toNat ∧ Sc.enc r = [b]) ∨ (r ≠ b.toNat ∧ ∀ x ∈ Sc.enc r, x ≠ b) := by
  by_cases h : r = b.toNat
  · left
    refine ⟨h, ?_⟩
    rw [Sc.enc1 r (by omega), h]; simp
  · right
    refine ⟨h, fun x hx e => ?_⟩
    subst e
    exact h (mem_enc r x hc hx hb)
theorem head_encs (l : List Nat) (h : ∀ r ∈ l, Sc.isCh r) (b : UInt8) (hb : b.toNat < 128) : ((Sc.encs l).head? == some b) = (l.head? == some b.toNat) := by
  cases l with
  | nil => rfl
  | cons r t =>
    rw [Sc.encs_cons, List.head?_cons]
    rcases enc_of r b (h r (by simp)) hb with ⟨h1, h2⟩ | ⟨h1, h2⟩
    · rw [h2, h1]; simp
    · obtain ⟨x, u, hx⟩ : ∃ x u, Sc.enc r = x :: u := by
        cases he : Sc.enc r with
        | nil => exact absurd he (Sc.enc_ne r)
        | cons x u => exact ⟨x, u, rfl⟩
      have := h2 x (by rw [hx]; simp)
      rw [hx, List.cons_append, List.head?_cons, Bool.eq_iff_iff]
      simp only [beq_iff_eq, Option.some.injEq]
      exact ⟨fun e => absurd e this, fun e => absurd e h1⟩
theorem last_encs (l : List Nat) (h : ∀ r ∈ l, Sc.isCh r) (b : UInt8) (hb : b.toNat < 128) : ((Sc.encs l).getLast? == some b) = (l.getLast? == some b.toNat) := by
  rcases List.eq_nil_or_concat l with rfl | ⟨t, r, rfl⟩
  · rfl
  · rw [List.concat_eq_append] at *
    rw [Sc.encs_append, Sc.encs_cons, Sc.encs_nil, List.append_nil, List.getLast?_append, List.getLast?_append]
    rcases enc_of r b (h r (by simp)) hb with ⟨h1, h2⟩ | ⟨h1, h2⟩
    · rw [h2, h1]; simp
    · obtain ⟨x, hx⟩ : ∃ x, (Sc.enc r).getLast? = some x := by
        cases he : (Sc.enc r).getLast? with
        | none => exact absurd (List.getLast?_eq_none_iff.1 he) (Sc.enc_ne r)
        | some x => exact ⟨x, rfl⟩
      have := h2 x (List.mem_of_getLast? hx)
      rw [hx, Bool.eq_iff_iff]
      simp only [Option.some_or, beq_iff_eq, Option.some.injEq, List.getLast?_singleton]
      exact ⟨fun e => absurd e this, fun e => absurd e h1⟩
theorem pair_enc (a b : UInt8) (r : Nat) (t : List Nat) (hr : Sc.isCh r) (ht : ∀ x ∈ t, Sc.isCh x) (ha : a.toNat < 128) (hb : b.toNat < 128) :
    hasPair a b (Sc.encs (r :: t)) = ((r == a.toNat && t.head? == some b.toNat) || hasPair a b (Sc.encs t)) := by
  rw [Sc.encs_cons]
  rcases enc_of r a hr ha with ⟨h1, h2⟩ | ⟨h1, h2⟩
  · rw [h2, List.singleton_append, pair_cons, head_encs t ht b hb, h1]; simp
  · rw [pair_raw a b _ _ h2, beq_eq_false_iff_ne.2 h1]; simp
theorem hasAny_enc (r : Nat) (h : Sc.isCh r) : hasAny (Sc.enc r) = inB r nowL := by
  unfold hasAny inB
  rw [Bool.eq_iff_iff, List.any_eq_true, List.any_eq_true]
  constructor
  · rintro ⟨b, hb, hm⟩
    have hm' : b ∈ nowL := by simpa using hm
    have : ∀ x ∈ nowL, x.toNat < 128 := by decide
    refine ⟨b, hm', ?_⟩
    rw [beq_iff_eq]
    exact (mem_enc r b h hb (this b hm')).symm
  · rintro ⟨b, hb, hm⟩
    rw [beq_iff_eq] at hm
    have : ∀ x ∈ nowL, x.toNat < 128 := by decide
    have hb2 := this b hb
    refine ⟨b, ?_, by simpa using hb⟩
    rw [Sc.enc1 r (by omega), ← hm]; simp
theorem nowD_eq (r : Nat) : inB r nowD.data.toList = (decide (r = 10) || (decide (r = 13) || inB r nowL)) := by
  have e : nowD.data.toList = [9, 10, 13, 44, 91, 93, 123, 125] := rfl
  rw [e, Bool.eq_iff_iff]
  unfold inB nowL
  simp only [List.any_cons, List.any_nil, Bool.or_eq_true, beq_iff_eq, decide_eq_true_eq, Bool.or_false]
  simp only [show (9 : UInt8).toNat = 9 from rfl, show (10 : UInt8).toNat = 10 from rfl, show (13 : UInt8).toNat = 13 from rfl, show (44 : UInt8).toNat = 44 from rfl, show (91 : UInt8).toNat = 91 from rfl, show (93 : UInt8).toNat = 93 from rfl, show (123 : UInt8).toNat = 123 from rfl, show (125 : UInt8).toNat = 125 from rfl]
  omega
/-- the way along, at once -/
def wholeN (p : Nat) (l : List Nat) : Bool :=
  lineB l && (!hasAny (Sc.encs l) && (!(l.getLast? == some 58) && (!hasPair 58 32 (Sc.encs l) && (!hasPair 32 35 (Sc.encs l) && !(p == 32 && l.head? == some 35)))))
theorem goN_whole : ∀ (l : List Nat) (p : Nat), (∀ r ∈ l, Sc.isCh r) → goN p l = wholeN p l
  | [], p, _ => by simp [goN, wholeN, lineB, hasAny, Sc.encs, hasPair]
  | x :: t, p, h => by
    have hx := h x (by simp)
    have ht : ∀ r ∈ t, Sc.isCh r := fun r hr => h r (by simp [hr])
    have ih := goN_whole t x ht
    have e1 : lineB (x :: t) = (lineR x && lineB t) := by unfold lineB; rw [List.all_cons]
    have e2 : hasAny (Sc.encs (x :: t)) = (inB x nowL || hasAny (Sc.encs t)) := by rw [Sc.encs_cons, hasAny_app, hasAny_enc x hx]
    have e3 := pair_enc 58 32 x t hx ht (by decide) (by decide)
    have e4 := pair_enc 32 35 x t hx ht (by decide) (by decide)
    simp only [show (58 : UInt8).toNat = 58 from rfl, show (32 : UInt8).toNat = 32 from rfl, show (35 : UInt8).toNat = 35 from rfl] at e3 e4
    have e5 : ((x :: t).getLast? == some 58) = ((x == 58 && t.length == 0) || t.getLast? == some 58) := by
      cases t with
      | nil => rw [Bool.eq_iff_iff]; simp
      | cons y u => rw [List.getLast?_cons_cons, Bool.eq_iff_iff]; simp
    have e6 : ((x :: t).head? == some 35) = (x == 35) := by rw [List.head?_cons, Bool.eq_iff_iff]; simp
    have e7 : lineR x = (Sc.mayB (x : Int) && (!decide (x = 10) && !decide (x = 13))) := by unfold lineR; rw [Bool.and_assoc]
    unfold goN
    rw [ih]
    unfold wholeN
    rw [e1, e2, e3, e4, e5, e6, e7, nowD_eq]
    generalize Sc.mayB (x : Int) = b1
    generalize decide (x = 10) = b2
    generalize decide (x = 13) = b3
    generalize inB x nowL = b4
    generalize (x == 58) = b5
    generalize (t.length == 0) = b6
    generalize (t.head? == some 32) = b7
    generalize (x == 35) = b8
    generalize (p == 32) = b9
    generalize lineB t = c1
    generalize hasAny (Sc.encs t) = c2
    generalize (t.getLast? == some 58) = c3
    generalize hasPair 58 32 (Sc.encs t) = c4
    generalize hasPair 32 35 (Sc.encs t) = c5
    generalize (x == 32) = c6
    generalize (t.head? == some 35) = c7
    cases b1 <;> cases b2 <;> cases b3 <;> cases b4 <;> (try (simp; done))
    cases c1 <;> cases c2 <;> cases c3 <;> cases c4 <;> cases c5 <;> (try (simp; done))
    cases b5 <;> cases b6 <;> cases b7 <;> cases b8 <;> cases b9 <;> cases c6 <;> cases c7 <;> rfl
theorem first_asc : ∀ y : Fin 128, badFirst (UInt8.ofNat y.val) = ((y.val == 32) || inB y.val firstS.data.toList) := by decide +kernel
theorem first_hi : ∀ y : Fin 256, 128 ≤ y.val → badFirst (UInt8.ofNat y.val) = false := by decide +kernel
theorem first_enc (x : Nat) (b : UInt8) (u : List UInt8) (hx : Sc.isCh x) (he : Sc.enc x = b :: u) : badFirst b = ((x == 32) || inB x firstS.data.toList) := by
  by_cases h : x < 128
  · rw [Sc.enc1 x (by omega)] at he
    cases he
    exact first_asc ⟨x, h⟩
  · have hb : 128 ≤ b.toNat := by
      rcases Nat.lt_or_ge b.toNat 128 with h1 | h1
      · have := mem_enc x b hx (by rw [he]; simp) h1; omega
      · exact h1
    have := first_hi ⟨b.toNat, b.toNat_lt⟩ hb
    simp only [UInt8.ofNat_toNat] at this
    rw [this]
    symm
    rw [Bool.or_eq_false_iff]
    refine ⟨beq_eq_false_iff_ne.2 (by omega), ?_⟩
    unfold inB
    rw [List.any_eq_false]
    intro z hz e
    have h2 : ∀ y ∈ firstS.data.toList, y.toNat < 128 := by decide
    have := h2 z hz
    rw [beq_iff_eq] at e
    omega
/-- the document's Plain is the program's -/
theorem plain_same (s : List UInt8) : (Lib.validD s && plainRef s (Sc.rns s)) = plainB s := by
  cases hv : Lib.validD s with
  | false =>
    cases s with
    | nil => rfl
    | cons b u =>
      have : oneLineB (b :: u) = false := by unfold oneLineB; rw [hv]; rfl
      unfold plainB
      rw [this]; simp
  | true =>
    rw [Bool.true_and]
    have hs := Sc.encs_rns s hv
    have hc := Sc.ch_rns s
    have hol : oneLineB s = lineB (Sc.rns s) := by unfold oneLineB; rw [hv]; rfl
    generalize Sc.rns s = l at *
    cases l with
    | nil =>
      have : s = [] := hs.symm
      subst this; rfl
    | cons x t =>
      have hx := hc x (by simp)
      obtain ⟨b, u, he⟩ : ∃ b u, Sc.enc x = b :: u := by
        cases he : Sc.enc x with
        | nil => exact absurd he (Sc.enc_ne x)
        | cons b u => exact ⟨b, u, rfl⟩
      have hsb : s = b :: (u ++ Sc.encs t) := by rw [← hs, Sc.encs_cons, he]; rfl
      have hf := first_enc x b u hx he
      have h1 := last_encs (x :: t) hc 32 (by decide)
      have h2 := last_encs (x :: t) hc 58 (by decide)
      rw [hs] at h1 h2
      simp only [show (58 : UInt8).toNat = 58 from rfl, show (32 : UInt8).toNat = 32 from rfl] at h1 h2
      have hP : plainB s = (!(s == [46, 46, 46]) && (oneLineB s && (!hasAny s && (!badFirst b && (!(s.getLast? == some 32) && (!hasPair 58 32 s && (!(s.getLast? == some 58) && !hasPair 32 35 s))))))) := by
        rw [← suffix_one, ← suffix_one, ← contains_pair, ← contains_pair]
        rw [hsb]; rfl
      have hd : (s == [45, 45, 45]) = true → badFirst b = true := by
        intro h
        rw [beq_iff_eq, hsb] at h
        rw [(List.cons.inj h).1]
        decide
      have hG := goN_whole (x :: t) 0 hc
      have hR : plainRef s (x :: t) = (!(x == 32) && (!((x :: t).getLast? == some 32) && (!inB x firstS.data.toList && (!(s == [45, 45, 45]) && (!(s == [46, 46, 46]) && goN 0 (x :: t)))))) := rfl
      rw [hR, hP, hG, hol, h1, h2, hf]
      rw [hf] at hd
      unfold wholeN
      rw [hs]
      have h0 : ((0 : Nat) == 32) = false := rfl
      rw [h0]
      clear hR hP hG hol h1 h2 hf h0 hs hc hsb
      generalize (s == [45, 45, 45]) = a1 at *
      generalize (s == [46, 46, 46]) = a2 at *
      generalize lineB (x :: t) = a3 at *
      generalize hasAny s = a4 at *
      generalize (x == 32) = a5 at *
      generalize inB x firstS.data.toList = a6 at *
      generalize ((x :: t).getLast? == some 32) = a7 at *
      generalize ((x :: t).getLast? == some 58) = a8 at *
      generalize hasPair 58 32 s = a9 at *
      generalize hasPair 32 35 s = a10 at *
      clear hx he hv
      cases a5 <;> cases a6 <;> cases a1 <;> (try (simp; done)) <;> (try (simp at hd; done))
      all_goals (cases a2 <;> cases a3 <;> cases a4 <;> cases a7 <;> cases a8 <;> cases a9 <;> cases a10 <;> rfl)
end Go.Proofs.YtlfmaeodkghbbaaDoor
