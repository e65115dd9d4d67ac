/-
  Events that a call owns, append onto them; the walk of Parse.
-/
import Derived.Test.YthkedlcmpibkjaaGreatDoorEm
namespace Go.Proofs.YthkedlcmpibkjaaGreatDoor
namespace Ev
def linesF : Nat → List UInt8 → List (List UInt8)
  | 0, _ => []
  | n + 1, r => if r.isEmpty then [] else (Lib.cut r [10]).1 :: linesF n (Lib.cut r [10]).2.1
def evsOf : List (List UInt8) → Option (List E)
  | [] => some []
  | l :: t => match eventOf l with
    | none => none
    | some x => (evsOf t).map (x :: ·)
/-- the lines can be walked -/
def Fine (ls : List (List UInt8)) : Prop := ∀ l ∈ ls, l.length ≤ 50000 ∧ ∀ x, eventOf l = some x → Small x
/-- the events that are printed as these lines -/
def keepP (s : List UInt8) : Option (List E) → Option (List E)
  | none => none
  | some es => if print es = s then some es else none
def parse (s : List UInt8) : Option (List E) := keepP s (evsOf (linesF s.length s))
theorem linesF_nil (n : Nat) : linesF n [] = [] := by cases n <;> rfl
theorem evs_none (l : List UInt8) (t : List (List UInt8)) (h : eventOf l = none) : evsOf (l :: t) = none := by simp only [evsOf, h]
theorem evs_some (l : List UInt8) (t : List (List UInt8)) (x : E) (h : eventOf l = some x) (acc : List E) : (evsOf (l :: t)).map (acc ++ ·) = (evsOf t).map ((acc ++ [x]) ++ ·) := by
  simp only [evsOf, h]
  cases evsOf t <;> simp
theorem cut_lt (r : List UInt8) (h : 0 < r.length) : (Lib.cut r [10]).2.1.length < r.length := by
  unfold Lib.cut
  split
  · simp only [List.length_drop, List.length_cons, List.length_nil]; omega
  · simp only [List.length_nil]; exact h
theorem cut_le (r : List UInt8) : (Lib.cut r [10]).1.length ≤ r.length := by
  unfold Lib.cut
  split
  · simp only [List.length_take]; omega
  · exact Nat.le_refl _
end Ev
open Go.RowKit

def evsCells (es : List Ev.E) : List Value := es.flatMap evCells
theorem evsCells_snoc (es : List Ev.E) (x : Ev.E) : evsCells (es ++ [x]) = evsCells es ++ evCells x := by
  unfold evsCells; rw [List.flatMap_append]; simp
theorem evsCells_at (es : List Ev.E) : ∀ (j : Nat) (h : j < es.length) (i : Nat), i < 5 → (evsCells es)[j * 5 + i]? = (evCells es[j])[i]? := by
  induction es with
  | nil => intro j h; simp at h
  | cons x t ih =>
    intro j h i hi
    have hx : (evCells x).length = 5 := rfl
    have e : evsCells (x :: t) = evCells x ++ evsCells t := rfl
    rw [e]
    cases j with
    | zero => rw [List.getElem?_append_left (by omega)]; simp
    | succ j =>
      rw [List.getElem?_append_right (by omega), hx, show (j + 1) * 5 + i - 5 = j * 5 + i by omega, ih j (by simpa using h) i hi]
      simp
/-- events that the call owns -/
def OwnE (w : World) (B : Nat) (v : Value) (es : List Ev.E) : Prop := w.ownsRow B 34 5 v es.length (evsCells es)
theorem OwnE.below {w w' : World} {B : Nat} {v : Value} {es : List Ev.E} (h : OwnE w B v es) (hb : Below w.heap.size w w') : OwnE w' B v es := row_below h hb
/-- a row that a call owns is read as events, whatever its type's number -/
theorem rowE_rd {w : World} {B t : Nat} {v : Value} {es : List Ev.E} (h : w.ownsRow B t 5 v es.length (evsCells es)) : RdE w w.heap.size v es := by
  have h' := h
  rcases h.2 with ⟨rfl, h0⟩ | ⟨g, cap, cur, rfl, hB, hh, hnc, hr⟩
  · have : es = [] := List.eq_nil_of_length_eq_zero h0
    subst this
    exact ⟨none, 0, rfl, Nat.le_refl _, fun h => absurd h (by simp)⟩
  · refine ⟨_, cap, rfl, hnc, fun _ => ⟨g, 0, rfl, (Array.getElem?_eq_some_iff.1 hh).1, fun j hj => ?_⟩⟩
    have hc := World.ownsRow.cells h' (g := g) rfl
    have hadd : ∀ k, (⟨g, 0, none⟩ : Addr).add k = ⟨g, k, none⟩ := fun k => by unfold Addr.add; split <;> simp_all
    have at_ : ∀ (i : Nat) (u : Value), i < 5 → (evCells es[j])[i]? = some u → w.cell? ⟨g, 0 + j * 5 + i, none⟩ = some u := fun i u hi hu => by
      rw [Nat.zero_add, ← hadd]
      exact hc _ _ ((evsCells_at es j hj i hi).trans hu)
    exact ⟨at_ 0 _ (by decide) rfl, at_ 1 _ (by decide) rfl, at_ 2 _ (by decide) rfl, at_ 3 _ (by decide) rfl, at_ 4 _ (by decide) rfl⟩
theorem infoE : (Tryz.prog.info? 34).map (fun i => (i.zero, i.size, i.bytes)) = some (some (.agg #[.int .i64 0, .string ⟨#[]⟩, .string ⟨#[]⟩, .string ⟨#[]⟩, .bool false]), 5, 64) := by kernel_rfl

theorem wpList_pushE {ops : Array Oper} {rest : List Oper} {o : Oper} {a : Act} {Q : Exit → Act → World → Prop} (hgd : o.guard = none) (s x : Operand)
    (ho : o.op = .call { callee := .builtin .append, args := #[s, x], argTypes := #[23, 23] }) (B : Nat) (v : Value) (es : List Ev.E) (y : Ev.E) (w0 : World) (C : Array Value) (c : Nat)
    (hs : a.eval s = v) (ga : Nat) (hx : a.eval x = .slice (some ⟨ga, 0, none⟩) 1 c) (hga : ga = w0.heap.size) (hC : C = #[.int .i64 y.kind, .string (str y.anchor), .string (str y.tag), .string (str y.text), .bool y.plain]) (hown : OwnE w0 B v es) (hl : es.length ≤ 2199023255488) (hB : B ≤ w0.heap.size)
    (h : ∀ v' w', OwnE w' B v' (es ++ [y]) → Below B w0 w' → B ≤ w'.heap.size → wpList Tryz.prog ops Q rest (a.put o.dst v') w') :
    wpList Tryz.prog ops Q (o :: rest) a (w0.alloc (.cells C 34)) := by
  subst hC hga
  obtain ⟨i0, hi, hz0, hz1, hz2⟩ := info_parts infoE
  refine wpList_append_own _ hgd s x 23 ho B 34 i0 _ 5 64 Tryz.underlying23 hi hz0 hz1 hz2 rfl (by decide) v es.length (evsCells es) hs (World.ownsRow.alloc hown _) ⟨w0.heap.size, 0, none⟩ 1 c (evCells y) hx rfl
    (fun j u hu => cells_of_new w0 34 (evCells y) j u hu) (fun u hu => by unfold evCells at hu; simp only [List.mem_cons, List.not_mem_nil, or_false] at hu; rcases hu with rfl | rfl | rfl | rfl | rfl <;> rfl) (by simp only [maxLen]; omega) (by omega) (by rw [World.size_alloc]; omega) ?_
  intro v' w' ho' hg _
  have hk : Below B w0 w' := ((Below.refl B w0).alloc hB _).grown hg (by rw [World.size_alloc]; omega) (fun k hk => (World.ownsRow.lt hown k hk).1)
  refine h v' w' ?_ hk (Nat.le_trans hB hk.size)
  unfold OwnE
  rw [List.length_append, evsCells_snoc]
  exact ho'

/-- what Parse answers -/
def ParseR (B : Nat) (o : Option (List Ev.E)) (e : Ending) (w' : World) : Prop := match o with
  | none => e = .returned (.tuple #[.slice none 0 0, .int .i64 5])
  | some es => ∃ v, e = .returned (.tuple #[v, .int .i64 0]) ∧ OwnE w' B v es
def sizeV : Value → Nat
  | .string s => s.size
  | _ => 0
theorem str_ne (a b : List UInt8) (h : a ≠ b) : ((str a).toList == (str b).toList) = false := by rw [str_toL, str_toL]; exact beq_eq_false_iff_ne.2 h
theorem evE_none : evE none = .returned (.tuple #[.agg #[.int .i64 0, .string ⟨#[]⟩, .string ⟨#[]⟩, .string ⟨#[]⟩, .bool false], .bool false]) := rfl
theorem evE_some (x : Ev.E) : evE (some x) = .returned (.tuple #[.agg #[.int .i64 x.kind, .string (str x.anchor), .string (str x.tag), .string (str x.text), .bool x.plain], .bool true]) := rfl

theorem cutlS (l : List UInt8) (w : World) (h : l.length ≤ 1000000000) (hE : Env w) : Calls Tryz.prog 13 #[.string (str l), .string ⟨#[10]⟩] w fun e w' => e = .returned (.tuple #[.string (str (Lib.cut l [10]).1), .string (str (Lib.cut l [10]).2.1), .bool (Lib.cut l [10]).2.2]) ∧ Below w.heap.size w w' := by
  obtain ⟨m, hm⟩ := hE.maxl
  exact (Tryz.strings_Cut (str l) ⟨#[10]⟩ m w (by rw [str_len]; omega) hm).mono fun _ _ h => ⟨h.1, by obtain ⟨n, hn⟩ := h.2; exact below_same hn⟩

set_option maxHeartbeats 4000000 in
set_option maxRecDepth 100000 in
theorem parse_any (s : List UInt8) (w : World) (hs : s.length ≤ 1000000000) (hn : (Ev.linesF s.length s).length ≤ 100000) (hf : Ev.Fine (Ev.linesF s.length s)) (hE : Env w) :
    Calls Tryz.prog 5 #[.string (str s)] w fun e w' => ParseR w.heap.size (Ev.parse s) e w' ∧ Below w.heap.size w w' := by
  obtain ⟨ANS, hANS⟩ : ∃ ANS, Ev.parse s = ANS := ⟨_, rfl⟩
  rw [hANS]
  obtain ⟨R, hR⟩ : ∃ R, Ev.evsOf (Ev.linesF s.length s) = R := ⟨_, rfl⟩
  have HP : Hid (Ev.keepP s R = ANS) := by
    show _ = _
    rw [← hANS, ← hR]; rfl
  have HA : Hid ((Ev.evsOf (Ev.linesF s.length s)).map ([] ++ ·) = R) := by show _ = _; rw [hR]; cases R <;> simp
  clear hANS hR
  have HE := Lib.hid hE
  have HF := Lib.hid hf
  clear hE hf
  go_enter Tryz.func5, Tryz.ntmps5
  go_wp2
  go_loopw [4, 5] (fun lv rv wr => ∃ (acc : List Ev.E) (r : List UInt8) (n : Nat), rv = .string (str r) ∧ r.length ≤ n ∧ r.length ≤ 1000000000 ∧ OwnE wr w.heap.size lv acc ∧ Hid ((Ev.evsOf (Ev.linesF n r)).map (acc ++ ·) = R) ∧ acc.length + (Ev.linesF n r).length ≤ 100000 ∧ Hid (Ev.Fine (Ev.linesF n r) ∧ ∀ x ∈ acc, Ev.Small x) ∧ Below w.heap.size w wr) (fun _ rv _ => sizeV rv)
  case atStart => exact ⟨[], s, s.length, rfl, Nat.le_refl _, hs, World.ownsRow_nil _ _ _ _, HA, by simpa using hn, ⟨HF.out, fun x hx => by cases hx⟩, Below.refl _ _⟩
  case round =>
    obtain ⟨acc, r, n, rfl, hrn, hrl, hown, HK, hcnt, HFr, hbw⟩ := hrel
    clear HA HF hn
    have hBr := hbw.size
    obtain ⟨va, vc, rfl⟩ := own_slice hown
    have HO := Lib.hid hown
    clear hown
    cases r with
    | nil =>
      have hK := HK.out
      rw [Ev.linesF_nil] at hK
      have hR : R = some acc := by rw [← hK]; simp [Ev.evsOf]
      subst hR
      rw [Ev.linesF_nil] at hcnt
      simp only [List.length_nil, Nat.add_zero] at hcnt
      have cP := Lib.hid (print_any _ acc wr (rowE_rd HO.out) hcnt HFr.out.2 (HE.out.below hbw))
      have HPA := Lib.hid HP.out
      clear HK hK HFr HP
      rw [str_nil] at *
      by_cases hp : Ev.print acc = s
      · have hA : ANS = some acc := by rw [← HPA.out]; exact if_pos hp
        subst hA
        rw [hp] at cP
        clear HPA hp
        go_wp2_with (go_at_call 10; refine cP.out.mono ?_; rintro e w2 ⟨rfl, hb2⟩)
        go_ret2
        exact ⟨⟨_, rfl, OwnE.below HO.out hb2⟩, bthen hbw hb2⟩
      · have hA : ANS = none := by rw [← HPA.out]; exact if_neg hp
        subst hA
        have hne := str_ne _ _ hp
        generalize Ev.print acc = P at *
        clear HPA
        go_wp2_with (go_at_call 10; refine cP.out.mono ?_; rintro e w2 ⟨rfl, hb2⟩)
        go_ret2
        exact ⟨rfl, bthen hbw hb2⟩
    | cons b t =>
      obtain ⟨m, rfl⟩ : ∃ m, n = m + 1 := ⟨n - 1, by simp at hrn; omega⟩
      have hlF : Ev.linesF (m + 1) (b :: t) = (Lib.cut (b :: t) [10]).1 :: Ev.linesF m (Lib.cut (b :: t) [10]).2.1 := rfl
      rw [hlF] at HK hcnt HFr
      have hcl := Ev.cut_lt (b :: t) (by simp)
      have hemp := ba_isEmpty (str (b :: t)) (by rw [str_len]; simp)
      have hnil := ba_notnil (str (b :: t)) (by rw [str_len]; simp)
      have cC := fun w hE => cutlS (b :: t) w hrl hE
      have hsz : (str (b :: t)).size = (b :: t).length := str_len _
      have hll := (HFr.out.1 _ (List.mem_cons_self ..)).1
      have hxS := (HFr.out.1 _ (List.mem_cons_self ..)).2
      have HF2 : Hid (Ev.Fine (Ev.linesF m (Lib.cut (b :: t) [10]).2.1)) := fun l hl => HFr.out.1 l (List.mem_cons_of_mem _ hl)
      have HSA := Lib.hid HFr.out.2
      generalize (Lib.cut (b :: t) [10]).2.2 = FL at *
      generalize (Lib.cut (b :: t) [10]).1 = L at *
      generalize (Lib.cut (b :: t) [10]).2.1 = r2 at *
      have cE := fun w hE => eventOf_any L w hll hE
      have CC := Lib.hid cC
      clear hlF cC HFr
      simp only [List.length_cons] at hcnt
      generalize hrr : b :: t = r at *
      clear hrr
      cases hx : Ev.eventOf L with
      | none =>
        have hK := HK.out
        rw [Ev.evs_none L _ hx] at hK
        obtain rfl : R = none := by rw [← hK]; rfl
        have hA : ANS = none := by rw [← HP.out]; rfl
        subst hA
        rw [hx, evE_none] at cE
        have CE := Lib.hid cE
        clear cE hK HK hx
        go_wp2_with (first
          | (go_at_call 13; refine (CC.out _ (HE.out.below hbw)).mono ?_; rintro e w2 ⟨rfl, hb2⟩)
          | (go_at_call 14; refine (CE.out _ ((HE.out.below hbw).below hb2)).mono ?_; rintro e w3 ⟨rfl, hb3⟩))
        go_ret2
        exact ⟨rfl, (bthen (bthen hbw hb2) hb3).alloc (bthen (bthen hbw hb2) hb3).size _⟩
      | some x =>
        have HN : Hid ((Ev.evsOf (Ev.linesF m r2)).map ((acc ++ [x]) ++ ·) = R) := by show _ = _; rw [← Ev.evs_some L _ x hx acc]; exact HK.out
        have HSX := Lib.hid (hxS x hx)
        rw [hx, evE_some] at cE
        have CE := Lib.hid cE
        clear cE HK hx
        go_wp2_with (first
          | (go_at_call 13; refine (CC.out _ (HE.out.below hbw)).mono ?_; rintro e w2 ⟨rfl, hb2⟩)
          | (go_at_call 14; refine (CE.out _ ((HE.out.below hbw).below hb2)).mono ?_; rintro e w3 ⟨rfl, hb3⟩; have HB3 := Lib.hid (bthen (bthen hbw hb2) hb3); have HO3 := Lib.hid (OwnE.below (OwnE.below HO.out hb2) hb3))
          | (at_builtin; refine wpList_pushE rfl (.tmp 25) (.tmp 27) rfl w.heap.size (.slice va acc.length vc) acc x (w3.alloc _) _ _ rfl _ rfl ?ga ?hC ?hown ?hl ?hB ?_; (case ga => rw [World.size_alloc]); (case hC => rfl); (case hown => exact OwnE.below HO3.out (bnew _ _)); (case hl => omega); (case hB => rw [World.size_alloc]; have := HB3.out.size; omega); intro v' w4 ho4 hb4 hB4))
        go_roundw
        case rel => exact ⟨acc ++ [x], r2, m, rfl, by omega, by omega, ho4, HN, by rw [List.length_append, List.length_singleton]; omega, ⟨HF2.out, fun y hy => by rcases List.mem_append.1 hy with hy | hy; (exact HSA.out y hy); (simp only [List.mem_cons, List.not_mem_nil, or_false] at hy; subst hy; exact HSX.out)⟩, (HB3.out.alloc HB3.out.size _).trans hb4⟩
        case measure => simp only [sizeV, str_len]; omega
end Go.Proofs.YthkedlcmpibkjaaGreatDoor
