/-
  The plain functions of flatten: the event of a node, how deep a graph stands, its events; what comes back of a node's tag.
-/
import Derived.Test.YtbimjdlkffbncaaDoorCt
import Derived.Test.YtbimjdlkffbncaaDoorBc
import Derived.Test.YtbimjdlkffbncaaDoorWk
import Derived.Lib.ItoaLen
namespace Go.Proofs.YtbimjdlkffbncaaDoor
namespace Fl
def strW : List UInt8 := [115, 116, 114]
def unless' (t c : List UInt8) : List UInt8 := if t = c then [] else t
/-- the event of a node, without an anchor -/
def event (x : Ar.Nd) : Ev.E :=
  if x.kind = 0 then
    if plainB x.text = true ∧ (Tg.resolve x.text).w = x.tag then ⟨6, [], [], x.text, true⟩ else ⟨6, [], unless' x.tag strW, x.text, false⟩
  else if x.kind = 1 then ⟨2, [], unless' x.tag Ar.seqW, [], false⟩
  else if x.kind = 2 then ⟨4, [], unless' x.tag Ar.mapW, [], false⟩
  else ⟨0, [], [], [], false⟩
def anch (a : List UInt8) (x : Ev.E) : Ev.E := ⟨x.kind, a, x.tag, x.text, x.plain⟩
def alias' (a : List UInt8) : Ev.E := ⟨7, a, [], [], false⟩
def bare (k : Int) : Ev.E := ⟨k, [], [], [], false⟩
/-- how deep: nodes that were met, and the greatest depth, behind a node at a depth -/
def deep : Nat → List Ar.Nd → Nat → Int → Nat × Int → Nat × Int
  | 0, _, _, _, s => s
  | f + 1, g, a, d, s => if a < s.1 then s else if (Ar.at' g a).kind = 0 then (s.1 + 1, s.2) else (Ar.at' g a).kids.foldl (fun s k => deep f g k.toNat (d + 1) s) (s.1 + 1, max s.2 d)
def deepN (n : List Ar.Nd) : Int := if n.length = 0 then 0 else (deep (n.length + 1) n 0 1 (0, 0)).2
def deepOf (g : List Ar.Nd) : Int := deepN (Ar.normal g)
/-- what closes a node -/
def closing (k : Int) : List Ev.E := if k = 1 then [bare 3] else if k = 2 then [bare 5] else []
/-- the events of a node, behind nodes that were met, and events that were told -/
def tell : Nat → List Ar.Nd → List (List UInt8) → Nat → Nat × List Ev.E → Nat × List Ev.E
  | 0, _, _, _, s => s
  | f + 1, g, an, a, s =>
    if a < s.1 then (s.1, s.2 ++ [alias' (an.getD a [])])
    else
      let r := (Ar.at' g a).kids.foldl (fun s k => tell f g an k.toNat s) (s.1 + 1, s.2 ++ [anch (an.getD a []) (event (Ar.at' g a))])
      (r.1, r.2 ++ closing (Ar.at' g a).kind)
/-- the anchors of nodes, by how often they are met -/
def namesGo : Nat → List Int → List (List UInt8)
  | _, [] => []
  | n, c :: t => if 1 < c then (97 :: Lib.itoa ((n + 1 : Nat) : Int)) :: namesGo (n + 1) t else [] :: namesGo n t
def addRoot : List Int → List Int
  | [] => []
  | c :: t => (c + 1) :: t
def anchors (n : List Ar.Nd) : List (List UInt8) := namesGo 0 (addRoot (Ar.ins n))
/-- the events of a document: of a graph in its normal form -/
def docN (n : List Ar.Nd) : List Ev.E := (bare 0 :: (tell (n.length + 1) n (anchors n) 0 (0, [])).2) ++ [bare 1]
def doc (g : List Ar.Nd) : List Ev.E := docN (Ar.normal g)
def events (l : List (List Ar.Nd)) : Except Int (List Ev.E) :=
  if l.any (fun g => !Ar.right g) = true then .error 5 else if l.any (fun g => decide (40 < deepOf g)) = true then .error 13 else .ok (l.flatMap doc)
theorem namesGo_len : ∀ (cs : List Int) (n : Nat), (namesGo n cs).length = cs.length
  | [], _ => rfl
  | c :: t, n => by
    unfold namesGo
    split
    · rw [List.length_cons, List.length_cons, namesGo_len t]
    · rw [List.length_cons, List.length_cons, namesGo_len t]
theorem addRoot_len (cs : List Int) : (addRoot cs).length = cs.length := by cases cs <;> rfl
theorem foldl_grow {α β : Type} (p : β → Nat) (f : β → α → β) (c : Nat) : ∀ (ks : List α) (s : β), (∀ s k, k ∈ ks → p (f s k) ≤ p s + c) → p (ks.foldl f s) ≤ p s + ks.length * c
  | [], s, _ => by simp
  | k :: t, s, hf => by
    rw [List.foldl_cons, List.length_cons]
    have h1 := foldl_grow p f c t (f s k) (fun s k hk => hf s k (List.mem_cons_of_mem _ hk))
    have h2 := hf s k List.mem_cons_self
    rw [Nat.succ_mul]
    omega
theorem foldl_inv {α β : Type} (p : β → Prop) (f : β → α → β) (hf : ∀ s k, p s → p (f s k)) : ∀ (ks : List α) (s : β), p s → p (ks.foldl f s)
  | [], _, h => h
  | k :: t, s, h => foldl_inv p f hf t (f s k) (hf s k h)
theorem closing_len (k : Int) : (closing k).length ≤ 1 := by
  unfold closing
  split
  · exact Nat.le_refl _
  · split <;> simp
/-- nodes that were met grow -/
theorem tell_met (g : List Ar.Nd) (an : List (List UInt8)) : ∀ (f a : Nat) (s : Nat × List Ev.E), s.1 ≤ (tell f g an a s).1
  | 0, _, s => Nat.le_refl _
  | f + 1, a, s => by
    unfold tell
    split
    · exact Nat.le_refl _
    · have := foldl_inv (fun r : Nat × List Ev.E => s.1 ≤ r.1) (fun s k => tell f g an k.toNat s) (fun r k h => Nat.le_trans h (tell_met g an f _ r)) (Ar.at' g a).kids (s.1 + 1, s.2 ++ [anch (an.getD a []) (event (Ar.at' g a))]) (Nat.le_succ _)
      exact this
theorem tell_len (g : List Ar.Nd) (an : List (List UInt8)) (K : Nat) (hkids : Ar.Kids g) (hK : ∀ a, a < g.length → (Ar.at' g (a : Nat)).kids.length ≤ K) :
    ∀ (f a : Nat) (s : Nat × List Ev.E), a < g.length → (tell f g an a s).2.length + (g.length - (tell f g an a s).1) * (K + 2) ≤ s.2.length + (g.length - s.1) * (K + 2) + 1
  | 0, _, s, _ => Nat.le_succ _
  | f + 1, a, s, ha => by
    unfold tell
    by_cases h : a < s.1
    · rw [if_pos h]
      simp only [List.length_append, List.length_cons, List.length_nil]
      omega
    · rw [if_neg h]
      simp only [List.length_append]
      have hc := closing_len (Ar.at' g a).kind
      have hk := hK a ha
      have hg := foldl_grow (fun r : Nat × List Ev.E => r.2.length + (g.length - r.1) * (K + 2)) (fun s k => tell f g an k.toNat s) 1 (Ar.at' g a).kids (s.1 + 1, s.2 ++ [anch (an.getD a []) (event (Ar.at' g a))])
        (fun r k hk => tell_len g an K hkids hK f k.toNat r (hkids.at' ha k hk).2)
      simp only [List.length_append, List.length_cons, List.length_nil, Nat.mul_one] at hg
      obtain ⟨q, hq⟩ : ∃ q, g.length - s.1 = q + 1 := ⟨g.length - s.1 - 1, by omega⟩
      have hq2 : g.length - (s.1 + 1) = q := by omega
      rw [hq2] at hg
      rw [hq, Nat.succ_mul]
      omega
end Fl
end Go.Proofs.YtbimjdlkffbncaaDoor
