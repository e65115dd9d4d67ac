/-
  Keys alike: faceOf, keyTwice (a set keyed by a struct), Twice.
-/
import Derived.Test.YtbimjdlkffbncaaDoorAc
import Derived.Maps.OwnSet
import Derived.DeepKeys4
import Derived.Carry
namespace Go.Proofs.YtbimjdlkffbncaaDoor
namespace Ar
/-- all that two keys have to share to be alike -/
abbrev Face := Bool × List UInt8 × List UInt8 × Int
def face (g : List Nd) (k : Int) : Face := if (at' g k).kind = 0 then (true, (at' g k).tag, (at' g k).text, 0) else (false, [], [], k)
/-- what stands at even places -/
def keys : List Int → List Int
  | [] => []
  | [k] => [k]
  | k :: _ :: t => k :: keys t
def twiceGo (g : List Nd) (seen : List Face) : List Int → Bool
  | [] => false
  | k :: t => if isNode g.length k = true then (if seen.contains (face g k) = true then true else twiceGo g (face g k :: seen) t) else twiceGo g seen t
def keyTwice (g : List Nd) (ks : List Int) : Bool := twiceGo g [] (keys ks)
def twice (g : List Nd) : Bool := g.any fun x => (x.kind == 2) && keyTwice g x.kids
theorem keys_step (ks : List Int) (j : Nat) (h : j < ks.length) : keys (ks.drop j) = ks[j] :: keys (ks.drop (j + 2)) := by
  by_cases h1 : j + 1 < ks.length
  · rw [List.drop_eq_getElem_cons h, List.drop_eq_getElem_cons h1]; rfl
  · rw [List.drop_eq_getElem_cons h, List.drop_eq_nil_of_le (by omega), List.drop_eq_nil_of_le (show ks.length ≤ j + 2 by omega)]; rfl
end Ar
open Go.RowKit Go.Maps

def faceV (f : Ar.Face) : Value := .agg #[.bool f.1, .string (str f.2.1), .string (str f.2.2.1), .int .i64 f.2.2.2]
theorem faceV_inj {a b : Ar.Face} (h : faceV a = faceV b) : a = b := by
  obtain ⟨a0, a1, a2, a3⟩ := a
  obtain ⟨b0, b1, b2, b3⟩ := b
  unfold faceV at h
  simp only [Value.agg.injEq, Array.mk.injEq, List.cons.injEq, Value.bool.injEq, Value.string.injEq, Value.int.injEq, true_and, and_true] at h
  obtain ⟨rfl, h1, h2, rfl⟩ := h
  have e1 := congrArg (fun s => s.data.toList) h1
  have e2 := congrArg (fun s => s.data.toList) h2
  rw [str_dat, str_dat] at e1 e2
  rw [e1, e2]
/-- a face that can be asked for -/
structure FaceOk (f : Ar.Face) : Prop where
  tag : f.2.1.length ≤ 1000000
  text : f.2.2.1.length ≤ 1000000
  lo : 0 ≤ f.2.2.2
  hi : f.2.2.2 ≤ 1000000

set_option maxHeartbeats 1000000 in
theorem faceOf_any (v : Value) (g : List Ar.Nd) (m : Nat) (hm : m < g.length) (w : World) (hg : RdG w w.heap.size v g) :
    Calls Tryd.prog 99 #[v, .int .i64 m] w fun e w' => e = .returned (faceV (Ar.face g m)) ∧ Below w.heap.size w w' := by
  obtain ⟨_, gc, rfl, hgc, hcl⟩ := hg
  obtain ⟨gg, rfl, hgg, hcl⟩ := hcl (by omega)
  have hn := hcl m hm
  have hat : Ar.at' g (m : Int) = g[m] := Ar.at_get g m (by omega) hm
  unfold Ar.face
  rw [hat]
  clear hcl hat
  generalize g[m] = x at *
  have n0 := fun w1 (hb : Below w.heap.size w w1) => (hn.below hb hgg).kind
  have n1 := fun w1 (hb : Below w.heap.size w w1) => (hn.below hb hgg).tag
  have n2 := fun w1 (hb : Below w.heap.size w w1) => (hn.below hb hgg).text
  have n3 := fun w1 (hb : Below w.heap.size w w1) => (hn.below hb hgg).kids
  have b0 := bnew w (.cells #[.bool false, .string ⟨#[]⟩, .string ⟨#[]⟩, .int .i64 0] 120)
  have q0 := n0 _ b0
  have q1 := n1 _ b0
  have q2 := n2 _ b0
  obtain ⟨a, c, q3, _⟩ := n3 _ b0
  clear n0 n1 n2 n3 hn
  obtain ⟨k, t, s, ks⟩ := x
  simp only at *
  by_cases hk : k = 0
  · subst hk
    rw [if_pos rfl]
    go_enter Tryd.func99, Tryd.ntmps99
    go_wp2
    refine bodyPost_ret (v := .agg #[.bool true, .string (str t), .string (str s), .int .i64 0]) (by simp [results, go_sem]) rfl ?_
    exact ⟨rfl, (bnew w _).alloc (bnew w _).size _⟩
  · rw [if_neg hk]
    go_enter Tryd.func99, Tryd.ntmps99
    go_wp2
    refine bodyPost_ret (v := .agg #[.bool false, .string ⟨#[]⟩, .string ⟨#[]⟩, .int .i64 m]) (by simp [results, go_sem]) rfl ?_
    exact ⟨rfl, (bnew w _).alloc (bnew w _).size _⟩

theorem laid' : laidOutB Tryd.prog = true := by kernel_rfl
theorem law : Keyed Tryd.prog 120 := Keyed.of_law (deep_law_laid laid' (m := 2) (by omega) (of_decide_eq_true (by kernel_rfl)) (by kernel_rfl) (by rw [Tryd.underlying120]))
theorem zeroU (w : World) : (zeroValue 122).run Tryd.prog w = .ok (.agg #[]) w := by kernel_rfl
set_option maxRecDepth 100000 in
theorem key_ok (f : Ar.Face) (h : FaceOk f) : ∃ l, keyOf Tryd.prog 120 (faceV f) = some l := by
  obtain ⟨b, t, s, n⟩ := f
  obtain ⟨h1, h2, h3, h4⟩ := h
  simp only at h1 h2 h3 h4
  have e1 : (str t).size ≤ maxLen := by rw [str_size]; unfold maxLen; omega
  have e2 : (str s).size ≤ maxLen := by rw [str_size]; unfold maxLen; omega
  have e3 : (Lit.int .i64 n).wf = true := by
    show (decide _ && decide _) = true
    rw [Bool.and_eq_true]
    exact ⟨decide_eq_true (by show (-9223372036854775808 : Int) ≤ n; omega), decide_eq_true (by show n ≤ (9223372036854775807 : Int); omega)⟩
  have hk : Tryd.prog.keyType 120 = true := by kernel_rfl
  have hc : Tryd.prog.cellsOf 120 = 4 := by kernel_rfl
  have c3 : Tryd.prog.cellsOf 3 = 1 := by kernel_rfl
  have c4 : Tryd.prog.cellsOf 4 = 1 := by kernel_rfl
  have c9 : Tryd.prog.cellsOf 9 = 1 := by kernel_rfl
  obtain ⟨N, hN⟩ : ∃ N, Tryd.prog.types.size = N + 1 := ⟨Tryd.prog.types.size - 1, by kernel_rfl⟩
  have hf : (faceV (b, t, s, n)).formed Tryd.prog 120 = true := by simp [faceV, Value.formed, Tryd.underlying120, hc]
  have hl : Tryd.prog.keyLits (Tryd.prog.types.size + 1) 120 [.bool b, .string (str t), .string (str s), .int .i64 n] = some [.bool b, .string t, .string s, .int .i64 n] := by
    rw [hN]
    unfold Program.keyLits
    rw [Tryd.underlying120]
    simp [hc, c3, c4, c9, Program.keyLits, Tryd.underlying3, Tryd.underlying4, Tryd.underlying9, e1, e2, e3, str_dat]
  refine ⟨.string (keyBytes [.bool b, .string t, .string s, .int .i64 n]), ?_⟩
  unfold keyOf
  rw [Tryd.underlying120]
  simp only
  rw [hk, hf]
  show Option.map _ (Tryd.prog.keyLits _ _ [.bool b, .string (str t), .string (str s), .int .i64 n]) = _
  rw [hl]; rfl
theorem ownM_below {H : Type} {P : Program} {k : TypeId} {R : Value → Option (DataW H × List MemPlace)} {w w' : World} {b n : Nat} {D : DataW H} (h : w.ownsMap P k R b n D) (hb : Below w.heap.size w w') : w'.ownsMap P k R b n D := by
  obtain ⟨es, clock, h1, h2⟩ := h
  exact ⟨es, clock, (hb.block b (Array.getElem?_eq_some_iff.1 h1).1).trans h1, h2⟩
theorem at_ok (g : List Ar.Nd) (hg : ∀ x ∈ g, Fine x) (k : Int) (h : Ar.isNode g.length k = true) (hl : g.length ≤ 1000000) : FaceOk (Ar.face g k) := by
  unfold Ar.isNode at h
  simp only [Bool.and_eq_true, decide_eq_true_eq] at h
  have hat := Ar.at_get g k h.1 (by omega)
  have hf := hg _ (List.getElem_mem (show k.toNat < g.length by omega))
  unfold Ar.face
  rw [hat]
  split
  · exact ⟨hf.tag, hf.text, Int.le_refl _, by show (0 : Int) ≤ 1000000; omega⟩
  · exact ⟨by show 0 ≤ _; omega, by show 0 ≤ _; omega, h.1, by show k ≤ _; omega⟩

/-- a set of faces -/
def Seen {H : Type} (D : DataW H) (seen : List Ar.Face) : Prop := IsMap D ∧ ∀ f l, FaceOk f → keyOf Tryd.prog 120 (faceV f) = some l → Maps.has D l = seen.contains f
theorem Seen.none {H : Type} : Seen (H := H) (.map []) [] := ⟨isMap_empty, fun _ _ _ _ => rfl⟩
theorem Seen.put {H : Type} {D : DataW H} {seen : List Ar.Face} (h : Seen D seen) (f : Ar.Face) (l : Lit) (hl : keyOf Tryd.prog 120 (faceV f) = some l) (d : DataW H) : Seen (D.put l d) (f :: seen) := by
  refine ⟨h.1.put l d, fun f' l' hf' hl' => ?_⟩
  by_cases e : l' = l
  · subst e
    have := faceV_inj (law.inj hl hl')
    subst this
    rw [has_put_same h.1 (law.key hl)]
    simp
  · rw [has_put_other e, h.2 f' l' hf' hl']
    have hne : f' ≠ f := fun e2 => e (by subst e2; rw [hl] at hl'; cases hl'; rfl)
    rw [List.contains_cons, beq_eq_false_iff_ne.2 hne, Bool.false_or]
end Go.Proofs.YtbimjdlkffbncaaDoor
