/-
  The contracts of (*strings.Builder).WriteString and WriteByte, laid at this program (no walk).
  Walks of lines: isRight, textOf.
  THE CONTRACT of lines.textOf.
  THE CONTRACT of lex.Words.
  Walks of lines: lineOf, hasBar, saysSomething.
  Walks of lines: hasBar, saysSomething.
  The pieces of a text: mathematics, and the walk of lines.piecesOf.
  The lines of pieces: mathematics; lines that a call owns, and 'append' onto them.
-/
import Derived.Shelf.Strings.Builder1
import Derived.Test.YtjcfmghijfnehaaGreatDoorProg
import Derived.Test.YtjcfmghijfnehaaGreatDoorEn
import Derived.Test.YtjcfmghijfnehaaGreatDoorLk
import Derived.Lib.IndexLaws
namespace Go.Proofs
open Go.Shelf
def Tryz.lays166_ren : Go.Shelf.Ren := ⟨fun | 166 => 43 | 240 => 78 | 276 => 127 | n => n, fun | 0 => 0 | 3 => 3 | 4 => 4 | 5 => 5 | 9 => 9 | 20 => 20 | 37 => 53 | 70 => 82 | 72 => 84 | 75 => 87 | 80 => 91 | 164 => 162 | n => n, fun | n => n⟩
theorem Tryz.lays166 : Go.Proofs.Lays.n166 Tryz.prog Tryz.lays166_ren := {
  mixed := by kernel_rfl
  f166 := Tryz.func43.trans (congrArg some (by kernel_rfl))
  f240 := Tryz.func78.trans (congrArg some (by kernel_rfl))
  f276 := Tryz.func127.trans (congrArg some (by kernel_rfl))
  t0 := Tryz.underlying0
  a0 := Tryz.isAgg0
  z0 := Tryz.sizeOf0
  v0 := Tryz.zeroValue0
  t3 := Tryz.underlying3
  a3 := Tryz.isAgg3
  z3 := Tryz.sizeOf3
  v3 := Tryz.zeroValue3
  t4 := Tryz.underlying4
  a4 := Tryz.isAgg4
  z4 := Tryz.sizeOf4
  v4 := Tryz.zeroValue4
  t9 := Tryz.underlying9
  a9 := Tryz.isAgg9
  z9 := Tryz.sizeOf9
  v9 := Tryz.zeroValue9
  t20 := Tryz.underlying20
  a20 := Tryz.isAgg20
  z20 := Tryz.sizeOf20
  v20 := Tryz.zeroValue20
  t37 := Tryz.underlying53
  a37 := Tryz.isAgg53
  z37 := Tryz.sizeOf53
  v37 := Tryz.zeroValue53
  t70 := Tryz.underlying82
  a70 := Tryz.isAgg82
  z70 := Tryz.sizeOf82
  v70 := Tryz.zeroValue82
  t72 := Tryz.underlying84
  a72 := Tryz.isAgg84
  z72 := Tryz.sizeOf84
  v72 := Tryz.zeroValue84
  t75 := Tryz.underlying87
  a75 := Tryz.isAgg87
  z75 := Tryz.sizeOf87
  v75 := Tryz.zeroValue87
  t164 := Tryz.underlying162
  a164 := Tryz.isAgg162
  z164 := Tryz.sizeOf162
  v164 := Tryz.zeroValue162 }
theorem Tryz.Builder_Extra_166 : Builder.Extra Tryz.prog Tryz.lays166_ren := {
  sizeBuilder := by kernel_rfl
  liesBuilder := by kernel_rfl
  t5 := Tryz.underlying5
  a5 := Tryz.isAgg5
  z5 := Tryz.sizeOf5
  v5 := Tryz.zeroValue5
  infoByte := by kernel_rfl
  cellsByte := by kernel_rfl
  sizeByte := by kernel_rfl
  neB5 := by decide }
def Tryz.lays167_ren : Go.Shelf.Ren := ⟨fun | 167 => 93 | 240 => 78 | 276 => 127 | n => n, fun | 0 => 0 | 3 => 3 | 4 => 4 | 5 => 5 | 9 => 9 | 20 => 20 | 37 => 53 | 70 => 82 | 72 => 84 | 75 => 87 | 80 => 91 | 164 => 162 | n => n, fun | n => n⟩
theorem Tryz.lays167 : Go.Proofs.Lays.n167 Tryz.prog Tryz.lays167_ren := {
  mixed := by kernel_rfl
  f167 := Tryz.func93.trans (congrArg some (by kernel_rfl))
  f240 := Tryz.func78.trans (congrArg some (by kernel_rfl))
  f276 := Tryz.func127.trans (congrArg some (by kernel_rfl))
  t0 := Tryz.underlying0
  a0 := Tryz.isAgg0
  z0 := Tryz.sizeOf0
  v0 := Tryz.zeroValue0
  t4 := Tryz.underlying4
  a4 := Tryz.isAgg4
  z4 := Tryz.sizeOf4
  v4 := Tryz.zeroValue4
  t5 := Tryz.underlying5
  a5 := Tryz.isAgg5
  z5 := Tryz.sizeOf5
  v5 := Tryz.zeroValue5
  t9 := Tryz.underlying9
  a9 := Tryz.isAgg9
  z9 := Tryz.sizeOf9
  v9 := Tryz.zeroValue9
  t20 := Tryz.underlying20
  a20 := Tryz.isAgg20
  z20 := Tryz.sizeOf20
  v20 := Tryz.zeroValue20
  t37 := Tryz.underlying53
  a37 := Tryz.isAgg53
  z37 := Tryz.sizeOf53
  v37 := Tryz.zeroValue53
  t70 := Tryz.underlying82
  a70 := Tryz.isAgg82
  z70 := Tryz.sizeOf82
  v70 := Tryz.zeroValue82
  t72 := Tryz.underlying84
  a72 := Tryz.isAgg84
  z72 := Tryz.sizeOf84
  v72 := Tryz.zeroValue84
  t75 := Tryz.underlying87
  a75 := Tryz.isAgg87
  z75 := Tryz.sizeOf87
  v75 := Tryz.zeroValue87
  t164 := Tryz.underlying162
  a164 := Tryz.isAgg162
  z164 := Tryz.sizeOf162
  v164 := Tryz.zeroValue162 }
theorem Tryz.Builder_Extra_167 : Builder.Extra Tryz.prog Tryz.lays167_ren := {
  sizeBuilder := by kernel_rfl
  liesBuilder := by kernel_rfl
  t5 := Tryz.underlying5
  a5 := Tryz.isAgg5
  z5 := Tryz.sizeOf5
  v5 := Tryz.zeroValue5
  infoByte := by kernel_rfl
  cellsByte := by kernel_rfl
  sizeByte := by kernel_rfl
  neB5 := by decide }
open Go.RowKit in
theorem Tryz.Builder_WriteString (B b : Nat) (bs : List Value) (s : ByteArray) (w : World) (h : Lib.IsBuilder 84 5 B b bs w) (hlen : bs.length + s.size ≤ 140737488355328) (hBw : B ≤ w.heap.size) :
    Calls Tryz.prog 43 #[.pointer (some ⟨b, 0, none⟩), .string s] w fun e w' => e = .returned (.tuple #[.int .i64 s.size, .nilIface]) ∧ (Lib.BuilderAt 84 5 B b (.pointer (some ⟨b, 0, none⟩)) (bs ++ Lib.strCells s) w' ∧ Below B w w') := Any.Builder_WriteString Tryz.lays166 Tryz.Builder_Extra_166 B b bs s w h hlen hBw
open Go.RowKit in
theorem Tryz.Builder_WriteByte (B b : Nat) (bs : List Value) (c : Int) (w : World) (h : Lib.IsBuilder 84 5 B b bs w) (hlen : bs.length + 1 ≤ 140737488355328) (hBw : B ≤ w.heap.size) :
    Calls Tryz.prog 93 #[.pointer (some ⟨b, 0, none⟩), .int .u8 c] w fun e w' => e = .returned .nilIface ∧ (Lib.BuilderAt 84 5 B b (.pointer (some ⟨b, 0, none⟩)) (bs ++ [.int .u8 c]) w' ∧ Below B w w') := Any.Builder_WriteByte Tryz.lays167 Tryz.Builder_Extra_167 B b bs c w h hlen hBw
end Go.Proofs
namespace Go.Proofs.YtjcfmghijfnehaaGreatDoor
open Go.RowKit

theorem idx_any (p : Nat → Bool) (s : ByteArray) : ∀ (f pos : Nat), s.size ≤ pos + f → decide (0 ≤ Lib.idxFuncFrom p true s f pos) = (Sc.rns (s.data.toList.drop pos)).any p
  | 0, pos, h => by
    rw [Sc.drop_nil s pos (by omega), Sc.rns_nil]; simp [Lib.idxFuncFrom]
  | f + 1, pos, h => by
    by_cases hp : pos < s.size
    · have hd := dec_pos s pos
      unfold Lib.idxFuncFrom
      rw [if_pos hp, rns_drop s pos hp, List.any_cons]
      cases hpd : p (Utf8.decode s pos).1
      · rw [if_neg (by decide), Bool.false_or]
        exact idx_any p s f _ (by omega)
      · rw [if_pos rfl]; simp
    · rw [Lib.idxFuncFrom_end _ _ _ _ _ hp, Sc.drop_nil s pos (by omega), Sc.rns_nil]; rfl

set_option maxHeartbeats 1000000 in
theorem mayNot_any (r : Int) (w : World) :
    Calls Tryz.prog 158 #[.int .i32 r] w fun e w' => e = .returned (.bool (!Sc.mayB r)) ∧ w = w' := by
  have cM := Lib.hid (fun w => may_any r w)
  generalize Sc.mayB r = M at *
  go_enter Tryz.func158, Tryz.ntmps158
  go_wp2_with (go_at_call 80; refine (cM.out _).mono ?_; rintro e w' ⟨rfl, rfl⟩)
  go_ret
  exact ⟨rfl, rfl⟩
theorem entersR : ∀ args w, (callFunc 158 args).run Tryz.prog w = .ok (.enter 158 args) w := enters_of Tryz.func158 (by kernel_rfl) rfl

theorem any_not (l : List Nat) : l.any (fun r => !Sc.mayB r) = !(l.all fun r => Sc.mayB r) := by
  induction l with
  | nil => rfl
  | cons a t ih => rw [List.any_cons, List.all_cons, ih]; cases Sc.mayB a <;> simp

theorem cont_any (s : ByteArray) (w : World) :
    Calls Tryz.prog 157 #[.string s, .func (.func 158) #[] #[]] w fun e w' => e = .returned (.bool (!((Sc.rns s.data.toList).all fun r => Sc.mayB r))) ∧ Below w.heap.size w w' := by
  refine (Tryz.strings_ContainsFunc_grows 158 #[] entersR (fun r => !Sc.mayB r) s w (fun W x _ _ => ?_)).mono ?_
  · refine (mayNot_any x W).mono ?_
    rintro e w' ⟨rfl, rfl⟩
    exact ⟨rfl, Below.refl _ _⟩
  · rintro e w' ⟨rfl, hb⟩
    refine ⟨ret_bool ?_, hb⟩
    rw [← any_not]
    exact idx_any _ s s.size 0 (by omega)

set_option maxHeartbeats 1000000 in
theorem right_any (s : ByteArray) (w : World) (hs : s.size ≤ 1000000) (hE : Env w) :
    Calls Tryz.prog 92 #[.string s] w fun e w' => e = .returned (.bool (Lx.right s.data.toList)) ∧ Below w.heap.size w w' := by
  have cV := Lib.hid (valid_any s w hs hE)
  have cC := Lib.hid (fun w => cont_any s w)
  unfold Lx.right
  generalize Lib.validD s.data.toList = A at *
  generalize ((Sc.rns s.data.toList).all fun r => Sc.mayB r) = B at *
  cases A
  · go_enter Tryz.func92, Tryz.ntmps92
    go_wp2_with (go_at_call 71; refine cV.out.mono ?_; rintro e w1 ⟨rfl, hb⟩)
    go_ret
    exact ⟨rfl, hb⟩
  · go_enter Tryz.func92, Tryz.ntmps92
    go_wp2_with (first
      | (go_at_call 71; refine cV.out.mono ?_; rintro e w1 ⟨rfl, hb⟩)
      | (go_at_call 157; refine (cC.out _).mono ?_; rintro e w2 ⟨rfl, hb2⟩))
    go_ret
    exact ⟨ret_bool (by simp), bthen hb hb2⟩

theorem bld_below {T e : TypeId} {B b : Nat} {bs : List Value} {w w' : World} (h : Lib.IsBuilder T e B b bs w) (hb : Below w.heap.size w w') : Lib.IsBuilder T e B b bs w' := by
  rcases h with ⟨h1, v, hh, ho, hne⟩ | ⟨h1, v, hh, ho, hne⟩
  · exact .inl ⟨h1, v, (hb.block b (Array.getElem?_eq_some_iff.1 hh).1).trans hh, row_below ho hb, hne⟩
  · exact .inr ⟨h1, v, (hb.block b (Array.getElem?_eq_some_iff.1 hh).1).trans hh, row_below ho hb, hne⟩

namespace Lx
def joinT (a : List UInt8) : Except Nat (List UInt8) → Except Nat (List UInt8)
  | .ok x => .ok (a ++ x)
  | .error e => .error e
theorem joinT_blank (a : List UInt8) (r : Except Nat (List UInt8)) : joinT a (match r with
      | .ok x => .ok (10 :: x)
      | .error e => .error e) = joinT (a ++ [10]) r := by
  cases r <;> simp [joinT]
theorem joinT_text (a p : List UInt8) (r : Except Nat (List UInt8)) : joinT a (match r with
      | .ok x => .ok (p ++ 10 :: x)
      | .error e => .error e) = joinT ((a ++ p) ++ [10]) r := by
  cases r <;> simp [joinT]
end Lx
/-- a text, or an error -/
def txtE : Except Nat (List UInt8) → Ending
  | .ok x => .returned (.tuple #[.string (str x), .int .i64 0])
  | .error e => .returned (.tuple #[.string ⟨#[]⟩, .int .i64 e])
end Go.Proofs.YtjcfmghijfnehaaGreatDoor
namespace Go.Proofs.YtjcfmghijfnehaaGreatDoor
open Go.RowKit

theorem byts_take (ps : List ByteArray) (k : Nat) : byts (ps.take k) = (byts ps).take k := by unfold byts; rw [List.map_take]

set_option maxHeartbeats 4000000 in
set_option maxRecDepth 100000 in
theorem textLoop (a : Option Addr) (cap off : Nat) (ps qs : List ByteArray) (w : World) (hr : RdS w w.heap.size a qs) (hsh : Short qs) (hn : qs.length ≤ 1000000) (hE : Env w) (hcap : qs.length ≤ cap)
    (hq : qs = ps.take qs.length) (hps : ps.length ≤ 1000000) (hrp : RdS w w.heap.size a ps) (hshp : Short ps)
    (hwt : Lx.withoutTail (byts ps) = qs.length) (hoff : Lx.firstIndent (byts qs) = off) :
    Calls Tryz.prog 57 #[.slice a ps.length cap] w fun e w' => e = txtE (Lx.textGo off (byts qs)) ∧ Below w.heap.size w w' := by
  have cT := Lib.hid (tail_any a cap w.heap.size ps w hrp hshp hps)
  rw [hwt] at cT
  have cF := Lib.hid (fun c => firstIndent_any a c w.heap.size qs w hr hsh hn)
  rw [hoff] at cF
  have hql : qs.length ≤ ps.length := by rw [hq, List.length_take]; omega
  clear hwt hoff hrp hshp hq
  obtain ⟨ANS, hANS⟩ : ∃ ANS, Lx.textGo off (byts qs) = ANS := ⟨_, rfl⟩
  rw [hANS]
  have HA : Hid (Lx.joinT [] (Lx.textGo off ((byts qs).drop 0)) = ANS) := by
    show _ = ANS
    rw [List.drop_zero, hANS]; cases ANS <;> rfl
  have HR := Lib.hid hr
  have HS := Lib.hid hsh
  have HE := Lib.hid hE
  clear hANS hr hsh hE
  go_enter Tryz.func57, Tryz.ntmps57
  go_wp2_with (first
    | (go_at_call 90; refine cT.out.mono ?_; rintro e w' ⟨rfl, rfl⟩)
    | (go_at_call 91; refine (cF.out _).mono ?_; rintro e w' ⟨rfl, rfl⟩))
  clear cT cF
  go_loopw [16] (fun i wr => ∃ (j : Nat) (acc : List UInt8), j ≤ qs.length ∧ i = .int .i64 j ∧ Lib.IsBuilder 84 5 w.heap.size w.heap.size (Lib.byteCells acc) wr ∧ Below w.heap.size w wr ∧ acc.length ≤ j * 1000001 ∧ Hid (Lx.joinT acc (Lx.textGo off ((byts qs).drop j)) = ANS)) (fun i _ => qs.length - (intOf i).toNat)
  case atStart => exact ⟨0, [], by omega, rfl, Lib.fresh_isBuilder _ _ w, bnew w _, by simp, HA⟩
  case round =>
    obtain ⟨j, acc, hj, rfl, hbd, hbw, hal, HK⟩ := hrel
    clear HA
    have hBr := hbw.size
    by_cases hlt : j < qs.length
    · obtain ⟨g, o, rfl, hg, hc⟩ := HR.out (by omega)
      have hcj : wr.cell? ⟨g, o + j, none⟩ = some (.string qs[j]) := (hbw.cell (p := ⟨g, o + j, none⟩) hg).trans (hc j hlt)
      have hd := byts_drop qs j hlt
      have hps := HS.out.at j hlt
      obtain ⟨p, hp⟩ : ∃ p, qs[j] = p := ⟨_, rfl⟩
      rw [hp] at hcj hd hps
      have hEr : Env wr := HE.out.below hbw
      have cR := right_any p wr hps hEr
      clear hc hp hEr
      have hK := HK.out
      rw [hd] at hK
      unfold Lx.textGo at hK
      clear HK hd
      have cB := Lib.hid (fun w => blank_any p w (by omega))
      have cI := Lib.hid (fun w => indent_any p w (by omega))
      have hbl := Lx.blanks_le p.data.toList
      rw [ba_len] at hbl
      cases hR : Lx.right p.data.toList
      · rw [hR] at cR hK
        have hA : ANS = .error 5 := by rw [← hK]; rfl
        subst hA
        have CR := Lib.hid cR
        clear cR hK hR cB cI
        go_wp2_with (go_at_call 92; refine CR.out.mono ?_; rintro e w1 ⟨rfl, hb1⟩)
        go_ret2
        exact ⟨rfl, hbw.trans (hb1.mono hBr)⟩
      · rw [hR] at cR hK
        have CR := Lib.hid cR
        clear cR hR
        rw [if_neg (by decide)] at hK
        cases hX : Lx.blank p.data.toList
        · rw [hX] at hK cB
          rw [if_neg (by decide)] at hK
          clear hX
          generalize Lx.blanks p.data.toList = Y at *
          by_cases hY : Y < off
          · rw [if_pos hY] at hK
            have hA : ANS = .error 9 := by rw [← hK]; rfl
            subst hA
            have b1 : decide (Y < off) = true := decide_eq_true hY
            clear hK
            go_wp2_with (first
              | (go_at_call 92; refine CR.out.mono ?_; rintro e w1 ⟨rfl, hb1⟩)
              | (go_at_call 89; refine (cB.out _).mono ?_; rintro e w' ⟨rfl, rfl⟩)
              | (go_at_call 88; refine (cI.out _).mono ?_; rintro e w' ⟨rfl, rfl⟩))
            go_ret2
            exact ⟨rfl, hbw.trans (hb1.mono hBr)⟩
          · rw [if_neg hY] at hK
            have hK := (Lx.joinT_text acc (p.data.toList.drop off) (Lx.textGo off ((byts qs).drop (j + 1)))).symm.trans hK
            have b1 : decide (Y < off) = false := decide_eq_false hY
            have HN := Lib.hid hK
            have hed : (p.extract off p.size).data.toList = p.data.toList.drop off := Lib.extract_to_end p off
            have hes : (p.extract off p.size).size ≤ 1000000 := by rw [Lib.size_eq, hed, List.length_drop, ← Lib.size_eq]; omega
            clear hK
            have hlen1 : (Lib.byteCells acc).length = acc.length := Lib.byteCells_length acc
            have hjb : acc.length ≤ 1000001000000 := by
              have : j * 1000001 ≤ 1000000 * 1000001 := Nat.mul_le_mul_right _ (by omega)
              omega
            obtain ⟨q, hq⟩ : ∃ q, p.extract off p.size = q := ⟨_, rfl⟩
            rw [hq] at hed hes
            have hcells : Lib.byteCells acc ++ Lib.strCells q = Lib.byteCells (acc ++ p.data.toList.drop off) := by rw [Lib.byteCells_append, ← hed]; rfl
            have hcells2 : Lib.byteCells (acc ++ p.data.toList.drop off) ++ [.int .u8 10] = Lib.byteCells ((acc ++ p.data.toList.drop off) ++ [10]) := by rw [Lib.byteCells_append (acc ++ p.data.toList.drop off) [10]]; rfl
            have hln : (acc ++ p.data.toList.drop off).length ≤ acc.length + 1000000 := by
              rw [List.length_append, ← hed, ← Lib.size_eq]; omega
            have CW1 := Lib.hid (fun w1 (hb1 : Below wr.heap.size wr w1) => Tryz.Builder_WriteString w.heap.size w.heap.size (Lib.byteCells acc) q w1 (bld_below hbd hb1) (by rw [hlen1]; omega) (by have := hb1.size; omega))
            rw [hcells] at CW1
            have CW2 := Lib.hid (fun w2 (hb2 : Lib.BuilderAt 84 5 w.heap.size w.heap.size (.pointer (some ⟨w.heap.size, 0, none⟩)) (Lib.byteCells (acc ++ p.data.toList.drop off)) w2) (hs2 : w.heap.size ≤ w2.heap.size) => Tryz.Builder_WriteByte w.heap.size w.heap.size _ 10 w2 (Or.inr hb2) (by rw [Lib.byteCells_length]; omega) hs2)
            rw [hcells2] at CW2
            clear hcells hcells2 hbd
            go_wp2_with (first
              | (go_at_call 92; refine CR.out.mono ?_; rintro e w1 ⟨rfl, hb1⟩)
              | (go_at_call 89; refine (cB.out _).mono ?_; rintro e w' ⟨rfl, rfl⟩)
              | (go_at_call 88; refine (cI.out _).mono ?_; rintro e w' ⟨rfl, rfl⟩)
              | (go_at_call 43; refine (CW1.out _ hb1).mono ?_; rintro e w2 ⟨rfl, hbd2, hbb2⟩; have hs2 : w.heap.size ≤ w2.heap.size := by have h1 := hb1.size; have h2 := hbb2.size; omega)
              | (go_at_call 93; refine (CW2.out _ hbd2 hs2).mono ?_; rintro e w3 ⟨rfl, hbd3, hbb3⟩))
            go_roundw
            case rel => exact ⟨j + 1, _, by omega, by go_num, Or.inr hbd3, ((hbw.trans (hb1.mono hBr)).trans hbb2).trans hbb3, by rw [List.length_append, Nat.add_mul]; simp only [List.length_cons, List.length_nil]; omega, HN⟩
            case measure => simp [intOf]; omega
        · rw [hX] at hK cB
          rw [if_pos rfl] at hK
          have hK := (Lx.joinT_blank acc (Lx.textGo off ((byts qs).drop (j + 1)))).symm.trans hK
          clear hX
          have HN := Lib.hid hK
          have hjb : acc.length ≤ 1000001000000 := by
            have : j * 1000001 ≤ 1000000 * 1000001 := Nat.mul_le_mul_right _ (by omega)
            omega
          have hcells : Lib.byteCells acc ++ [.int .u8 10] = Lib.byteCells (acc ++ [10]) := by rw [Lib.byteCells_append]; rfl
          have CW2 := Lib.hid (fun w1 (hb1 : Below wr.heap.size wr w1) => Tryz.Builder_WriteByte w.heap.size w.heap.size (Lib.byteCells acc) 10 w1 (bld_below hbd hb1) (by rw [Lib.byteCells_length]; omega) (by have := hb1.size; omega))
          rw [hcells] at CW2
          clear hcells hbd hK
          go_wp2_with (first
            | (go_at_call 92; refine CR.out.mono ?_; rintro e w1 ⟨rfl, hb1⟩)
            | (go_at_call 89; refine (cB.out _).mono ?_; rintro e w' ⟨rfl, rfl⟩)
            | (go_at_call 93; refine (CW2.out _ hb1).mono ?_; rintro e w3 ⟨rfl, hbd3, hbb3⟩))
          go_roundw
          case rel => exact ⟨j + 1, _, by omega, by go_num, Or.inr hbd3, (hbw.trans (hb1.mono hBr)).trans hbb3, by rw [List.length_append, Nat.add_mul]; simp only [List.length_cons, List.length_nil]; omega, HN⟩
          case measure => simp [intOf]; omega
    · have hA : ANS = .ok acc := by
        rw [← HK.out, byts_nil qs j (by omega)]; simp [Lx.textGo, Lx.joinT]
      subst hA
      clear HK
      have CS := Lib.hid (Tryz.Builder_String_any w.heap.size w.heap.size acc wr hbd hBr)
      clear hbd
      go_wp2_with (go_at_call 45; refine CS.out.mono ?_; rintro e w1 ⟨rfl, hb1⟩)
      go_ret2
      exact ⟨rfl, hbw.trans hb1⟩

theorem text_any (a : Option Addr) (cap : Nat) (ps : List ByteArray) (w : World) (hr : RdS w w.heap.size a ps) (hsh : Short ps) (hn : ps.length ≤ 1000000) (hE : Env w) (hcap : ps.length ≤ cap) :
    Calls Tryz.prog 57 #[.slice a ps.length cap] w fun e w' => e = txtE (Lx.textOf (byts ps)) ∧ Below w.heap.size w w' := by
  have hle : Lx.withoutTail (byts ps) ≤ ps.length := by
    have := Lx.tailGo_le (byts ps) (byts ps).length
    rw [byts_len] at this; unfold Lx.withoutTail; rw [byts_len]; exact this
  have hl : (ps.take (Lx.withoutTail (byts ps))).length = Lx.withoutTail (byts ps) := by rw [List.length_take]; omega
  have := textLoop a cap _ ps (ps.take (Lx.withoutTail (byts ps))) w (hr.take _) (hsh.take _) (by omega) hE (by omega) (by rw [hl]) hn hr hsh hl.symm rfl
  rw [byts_take] at this
  exact this
end Go.Proofs.YtjcfmghijfnehaaGreatDoor
namespace Go.Proofs.YtjcfmghijfnehaaGreatDoor
open Go.RowKit

/-- Words' answer as Go gives it -/
def WordsR (B : Nat) : Except Nat (List Lx.Wd) → Ending → World → Prop
  | .ok ws, e, w' => ∃ v, e = .returned (.tuple #[v, .int .i64 0]) ∧ OwnW w' B v ws
  | .error n, e, _ => e = .returned (.tuple #[.slice none 0 0, .int .i64 n])

theorem kind_int (x : Lx.Wd) : (((x.kind : Nat) : Int) == 12) = decide (x.kind = 12) := by
  rw [Bool.eq_iff_iff]; simp; omega

set_option maxHeartbeats 4000000 in
set_option maxRecDepth 100000 in
theorem words_any (s : ByteArray) (w : World) (hs : s.size ≤ 50000) (hE : Env w) :
    Calls Tryz.prog 23 #[.string s] w fun e w' => WordsR w.heap.size (Lx.words s.data.toList) e w' ∧ Below w.heap.size w w' := by
  have cL := isLine_any s w (by omega) hE
  unfold Lx.words
  by_cases hL : Lx.isLine s.data.toList = true
  · rw [if_pos hL]
    rw [hL] at cL
    clear hL
    obtain ⟨ANS, hANS⟩ : ∃ ANS, Lx.wordsGo s.data.toList (s.data.toList.length + 1) (Lx.past s.data.toList 0) true = ANS := ⟨_, rfl⟩
    rw [hANS]
    rw [ba_len] at hANS
    have HA : Hid (Lx.joinW [] (Lx.wordsGo s.data.toList (s.size + 1) (Lx.past s.data.toList 0) true) = ANS) := by
      show _ = ANS
      rw [hANS]; cases ANS <;> rfl
    clear hANS
    have HP := Lib.hid (fun k hk w => past_any s k w (by omega) hk)
    have hp0 := Lx.past_le s.data.toList 0 (Nat.zero_le _)
    rw [ba_len] at hp0
    have cP0 := Lib.hid (fun w => past_any s 0 w (by omega) (Nat.zero_le _))
    have HL := Lib.hid cL
    have hE' := Lib.hid hE
    clear cL hE
    go_enter Tryz.func23, Tryz.ntmps23
    go_wp2_with (first
      | (go_at_call 46; refine HL.out.mono ?_; rintro e w1 ⟨rfl, hb⟩)
      | (go_at_call 47; refine (cP0.out _).mono ?_; rintro e w' ⟨rfl, rfl⟩))
    clear HL cP0
    have hB := hb.size
    go_loopw [4, 5, 6] (fun v d i wr => ∃ (k n : Nat) (acc : List Lx.Wd) (q : Bool), k ≤ s.size ∧ s.size < k + n ∧ (k < s.size → Lx.isB (s.data.toList.getD k 0) 32 = false) ∧ i = .int .i64 k ∧ d = .bool q ∧ OwnW wr w.heap.size v acc ∧ Below w.heap.size w wr ∧ acc.length ≤ k ∧ Hid (Lx.joinW acc (Lx.wordsGo s.data.toList n k q) = ANS)) (fun _ _ i _ => s.size - (intOf i).toNat)
    case atStart =>
      refine ⟨Lx.past s.data.toList 0, s.size + 1, [], true, hp0, by omega, fun h => Lx.past_not _ _ (by rw [ba_len]; exact h), rfl, rfl, World.ownsRow_nil _ _ _ _, hb, by simp, HA⟩
    case round =>
      obtain ⟨k, n, acc, q, hk, hn, hnb, rfl, rfl, hown, hbw, hal, HK⟩ := hrel
      clear HA
      have hBr := hbw.size
      have cO := Lib.hid (fun w => over_any s k w (by omega) hk)
      obtain ⟨m, rfl⟩ : ∃ m, n = m + 1 := ⟨n - 1, by omega⟩
      have hK := HK.out
      unfold Lx.wordsGo at hK
      clear HK
      by_cases ho : Lx.over s.data.toList k = true
      · rw [if_pos ho] at hK
        rw [ho] at cO
        have hA : ANS = .ok acc := by rw [← hK]; simp [Lx.joinW]
        clear hK ho
        subst hA
        go_wp2_with (go_at_call 48; refine (cO.out _).mono ?_; rintro e w' ⟨rfl, rfl⟩)
        go_ret2
        exact ⟨⟨_, rfl, hown⟩, hbw⟩
      · rw [if_neg ho] at hK
        rw [Bool.eq_false_iff.2 ho] at cO
        have hks : k < s.size := by
          rcases Nat.lt_or_ge k s.size with h | h
          · exact h
          · exfalso; apply ho; unfold Lx.over; rw [ba_len]; have : k = s.size := by omega
            rw [this]; simp
        have hnb := hnb hks
        have hEr : Env wr := hE'.out.below hbw
        have cW := wordAt_any s k q wr hs hks hnb hEr
        clear ho hEr
        cases hw : Lx.wordAt s.data.toList k q with
        | error e =>
          rw [hw] at cW hK
          have he := Lx.wordAt_err _ _ _ _ hw
          have hA : ANS = .error e := by rw [← hK]; rfl
          clear hK hw
          subst hA
          have be : ((e : Int) != 0) = true := bne_iff_ne.2 (by omega)
          unfold wordE at cW
          have CW := Lib.hid cW
          clear cW
          go_wp2_with (first
            | (go_at_call 48; refine (cO.out _).mono ?_; rintro e w' ⟨rfl, rfl⟩)
            | (go_at_call 49; refine CW.out.mono ?_; rintro e w2 ⟨rfl, hb2⟩))
          go_ret2
          exact ⟨rfl, hbw.trans ((bthen hb2 (bnew w2 _)).mono hBr)⟩
        | ok p =>
          obtain ⟨x, z⟩ := p
          rw [hw] at cW hK
          obtain ⟨hz1, hz2, hxk, hxa⟩ := Lx.wordAt_size _ _ _ _ _ (by rw [ba_len]; exact hks) hnb hw
          rw [ba_len] at hz2
          simp only at hK
          rw [Lx.joinW_step] at hK
          have cP := HP.out (k + z) hz2
          have hpl := Lx.past_le s.data.toList (k + z) (by rw [ba_len]; exact hz2)
          rw [ba_len] at hpl
          have hpg := Lx.past_ge s.data.toList (k + z)
          have hpn : Lx.past s.data.toList (k + z) < s.size → _ := fun h => Lx.past_not s.data.toList (k + z) (by rw [ba_len]; exact h)
          have HK := Lib.hid hK
          have HPN := Lib.hid hpn
          clear hK hw hpn hxk hxa
          generalize Lx.past s.data.toList (k + z) = J at *
          unfold wordE wordV at cW
          simp only at cW
          have CW := Lib.hid cW
          have CP := Lib.hid cP
          have hki := kind_int x
          clear cW cP
          generalize decide (x.kind = 12) = D at *
          go_wp2_with (first
            | (go_at_call 48; refine (cO.out _).mono ?_; rintro e w' ⟨rfl, rfl⟩)
            | (go_at_call 49; refine CW.out.mono ?_; rintro e w2 ⟨rfl, hb2⟩)
            | (at_builtin; refine wpList_pushW rfl (.tmp 30) (.tmp 32) rfl w.heap.size _ acc x (w2.alloc _) _ _ rfl _ rfl ?hg rfl (World.ownsRow.alloc (row_below hown hb2) _) ?hl ?hB ?_))
          case hg => rw [World.size_alloc]
          case hl => omega
          case hB => rw [World.size_alloc]; have := hb2.size; omega
          intro v' w' ho' hk' hB' hot
          have hlt := World.ownsRow.lt (row_below hown hb2)
          have c0 : w'.cell? ⟨w2.heap.size, 0, none⟩ = some (.int .i64 x.kind) := by
            have h7 := hot w2.heap.size (by first | omega | (rw [World.size_alloc]; omega)) (fun e => by have := (hlt _ e).2; omega)
            have e7 : (w2.alloc (.cells #[.int .i64 x.kind, .string (str x.text), .int .i64 x.at_] 56)).heap[w2.heap.size]? = some (.cells #[.int .i64 x.kind, .string (str x.text), .int .i64 x.at_] 56 (0, 0)) := by show (w2.heap.push _)[w2.heap.size]? = _; simp
            rw [e7] at h7
            exact cell_blk h7 0 _ rfl
          have hfin : Below w.heap.size w w' := (hbw.trans ((bthen hb2 (bnew w2 _)).mono hBr)).trans hk'
          have HO := Lib.hid ho'
          clear hot hlt ho' hown
          cases q
          all_goals
            go_wp2_with (go_at_call 47; refine (CP.out _).mono ?_; rintro e w' ⟨rfl, rfl⟩)
            go_roundw
            case rel => exact ⟨J, m, acc ++ [x], _, hpl, by omega, HPN.out, rfl, rfl, HO.out, hfin, by simp; omega, HK⟩
            case measure => simp [intOf]; omega
  · rw [if_neg hL]
    rw [Bool.eq_false_iff.2 hL] at cL
    clear hL hE
    have HL := Lib.hid cL
    clear cL
    go_enter Tryz.func23, Tryz.ntmps23
    go_wp2_with (go_at_call 46; refine HL.out.mono ?_; rintro e w1 ⟨rfl, hb⟩)
    go_ret2
    exact ⟨rfl, hb⟩
end Go.Proofs.YtjcfmghijfnehaaGreatDoor
namespace Go.Proofs.YtjcfmghijfnehaaGreatDoor
namespace Lx
structure Ln where
  mark : Nat
  indent : Nat
  words : List Wd
  text : List UInt8
/-- what a piece tells, without the text below its bar -/
def lineOf (p : List UInt8) : Except Nat Ln :=
  if markOf p = 0 then (match Lx.words p with
    | .error e => .error e
    | .ok ws => .ok ⟨0, blanks p, ws, []⟩) else .ok ⟨markOf p, 0, [], []⟩
def lastBar (ws : List Wd) : Bool := match ws.getLast? with
  | some x => decide (x.kind = 13)
  | none => false
def says (x : Ln) : Bool := decide (x.mark ≠ 0) || !x.words.isEmpty
theorem lineOf_err (p : List UInt8) (e : Nat) (h : lineOf p = .error e) : e ≠ 0 := by
  unfold lineOf at h
  split at h
  · split at h
    · rename_i he; cases h; exact words_err _ _ he
    · cases h
  · cases h
theorem lineOf_text (p : List UInt8) (x : Ln) (h : lineOf p = .ok x) : x.text = [] ∧ x.indent ≤ p.length := by
  unfold lineOf at h
  split at h
  · split at h
    · cases h
    · cases h; exact ⟨rfl, blanks_le p⟩
  · cases h; exact ⟨rfl, Nat.zero_le _⟩
end Lx
open Go.RowKit

/-- lineOf's answer as Go gives it -/
def LineR (B : Nat) : Except Nat Lx.Ln → Ending → World → Prop
  | .ok x, e, w' => ∃ v, e = .returned (.tuple #[.agg #[.int .i64 x.mark, .int .i64 x.indent, v, .string (str x.text)], .int .i64 0]) ∧ OwnW w' B v x.words
  | .error n, e, _ => e = .returned (.tuple #[.agg #[.int .i64 0, .int .i64 0, .slice none 0 0, .string ⟨#[]⟩], .int .i64 n])

theorem setCell_other (w : World) (p : Addr) (u : Value) (k : Nat) (h : k ≠ p.block) : (w.setCell p u).heap[k]? = w.heap[k]? := by
  unfold World.setCell
  simp only
  rw [Array.getElem?_modify, if_neg (fun e => h e.symm)]
theorem row_setCell {w : World} {B e z n : Nat} {v : Value} {xs : List Value} (h : w.ownsRow B e z v n xs) (p : Addr) (u : Value) (hp : v.ownBlock ≠ some p.block) : (w.setCell p u).ownsRow B e z v n xs := by
  obtain ⟨h1, h2⟩ := h
  refine ⟨h1, ?_⟩
  rcases h2 with h2 | ⟨g, cap, cur, hv, hB, hh, hr⟩
  · exact .inl h2
  · refine .inr ⟨g, cap, cur, hv, hB, ?_, hr⟩
    rw [setCell_other _ _ _ _ (fun e => hp (by rw [hv, ← e]; rfl))]; exact hh
theorem own_slice {w : World} {B e z n : Nat} {v : Value} {xs : List Value} (h : w.ownsRow B e z v n xs) : ∃ a cap, v = .slice a n cap := by
  rcases h.2 with ⟨rfl, rfl⟩ | ⟨g, cap, cur, rfl, _⟩
  · exact ⟨none, 0, rfl⟩
  · exact ⟨_, cap, rfl⟩
theorem row_base {w : World} {B B' e z n : Nat} {v : Value} {xs : List Value} (h : w.ownsRow B e z v n xs) (hB : B' ≤ B) : w.ownsRow B' e z v n xs := by
  obtain ⟨h1, h2⟩ := h
  refine ⟨h1, ?_⟩
  rcases h2 with h2 | ⟨g, cap, cur, hv, hB2, hr⟩
  · exact .inl h2
  · exact .inr ⟨g, cap, cur, hv, by omega, hr⟩

set_option maxHeartbeats 2000000 in
theorem lineOf_any (s : ByteArray) (w : World) (hs : s.size ≤ 50000) (hE : Env w) :
    Calls Tryz.prog 54 #[.string s] w fun e w' => LineR w.heap.size (Lx.lineOf s.data.toList) e w' ∧ Below w.heap.size w w' := by
  have cM := Lib.hid (fun w => mark_any s w (by omega))
  unfold Lx.lineOf
  generalize Lx.markOf s.data.toList = M at *
  by_cases hM : M = 0
  · subst hM
    rw [if_pos rfl]
    have cW := words_any s (w.alloc (.cells #[.int .i64 0, .int .i64 0, .slice none 0 0, .string ⟨#[]⟩] 76)) hs (hE.below (bnew w _))
    have cI := Lib.hid (fun w => indent_any s w (by omega))
    clear hE
    cases hw : Lx.words s.data.toList with
    | error n =>
      rw [hw] at cW
      have hn := Lx.words_err _ _ hw
      have bn : ((n : Int) != 0) = true := bne_iff_ne.2 (by omega)
      have CW := Lib.hid cW
      clear cW hw
      go_enter Tryz.func54, Tryz.ntmps54
      go_wp2_with (first
        | (go_at_call 87; refine (cM.out _).mono ?_; rintro e w' ⟨rfl, rfl⟩)
        | (go_at_call 23; refine CW.out.mono ?_; rintro e w1 ⟨hr, hb1⟩; obtain rfl := hr; have hk2 := blk_kept hb1 (Below.refl _ _); have f0 := frozen_blk hk2 0; have f1 := frozen_blk hk2 1; have f2 := frozen_blk hk2 2; have f3 := frozen_blk hk2 3; have c0 := cell_blk hk2 0 (.int .i64 0) rfl; have c1 := cell_blk hk2 1 (.int .i64 0) rfl; have c2 := cell_blk hk2 2 (.slice none 0 0) rfl; have c3 := cell_blk hk2 3 (.string ⟨#[]⟩) rfl; clear hk2))
      refine bodyPost_ret (v := .tuple #[.agg #[.int .i64 0, .int .i64 0, .slice none 0 0, .string ⟨#[]⟩], .int .i64 n]) (by simp [results, go_sem, c0, c1, c2, c3]) rfl ?_
      exact ⟨rfl, ((((bthen (bnew w _) hb1).setCell (p := ⟨w.heap.size, 0, none⟩) (Nat.le_refl _) _).setCell (p := ⟨w.heap.size, 1, none⟩) (Nat.le_refl _) _).setCell (p := ⟨w.heap.size, 2, none⟩) (Nat.le_refl _) _).setCell (p := ⟨w.heap.size, 3, none⟩) (Nat.le_refl _) _⟩
    | ok ws =>
      rw [hw] at cW
      have CW := Lib.hid cW
      clear cW hw
      go_enter Tryz.func54, Tryz.ntmps54
      go_wp2_with (first
        | (go_at_call 87; refine (cM.out _).mono ?_; rintro e w' ⟨rfl, rfl⟩)
        | (go_at_call 23; refine CW.out.mono ?_; rintro e w1 ⟨⟨v, rfl, hown⟩, hb1⟩; obtain ⟨va, vc, rfl⟩ := own_slice hown; have hk2 := blk_kept hb1 (Below.refl _ _); have f0 := frozen_blk hk2 0; have f1 := frozen_blk hk2 1; have f2 := frozen_blk hk2 2; have f3 := frozen_blk hk2 3; have c0 := cell_blk hk2 0 (.int .i64 0) rfl; have c1 := cell_blk hk2 1 (.int .i64 0) rfl; have c2 := cell_blk hk2 2 (.slice none 0 0) rfl; have c3 := cell_blk hk2 3 (.string ⟨#[]⟩) rfl; clear hk2)
        | (go_at_call 88; refine (cI.out _).mono ?_; rintro e w' ⟨rfl, rfl⟩))
      refine bodyPost_ret (v := .tuple #[.agg #[.int .i64 0, .int .i64 (Lx.blanks s.data.toList : Nat), .slice va ws.length vc, .string ⟨#[]⟩], .int .i64 0]) (by simp [results, go_sem, c0, c1, c2, c3]) rfl ?_
      have hne : (Value.slice va ws.length vc).ownBlock ≠ some w.heap.size := fun e => by
        have := (World.ownsRow.lt hown _ e).1
        rw [World.size_alloc] at this; omega
      refine ⟨⟨_, rfl, ?_⟩, ((((bthen (bnew w _) hb1).setCell (p := ⟨w.heap.size, 0, none⟩) (Nat.le_refl _) _).setCell (p := ⟨w.heap.size, 1, none⟩) (Nat.le_refl _) _).setCell (p := ⟨w.heap.size, 2, none⟩) (Nat.le_refl _) _).setCell (p := ⟨w.heap.size, 3, none⟩) (Nat.le_refl _) _⟩
      exact row_setCell (row_setCell (row_setCell (row_setCell (row_base hown (by rw [World.size_alloc]; omega)) _ _ hne) _ _ hne) _ _ hne) _ _ hne
  · rw [if_neg hM]
    have bM : ((M : Int) != 0) = true := bne_iff_ne.2 (by omega)
    clear hE
    go_enter Tryz.func54, Tryz.ntmps54
    go_wp2_with (go_at_call 87; refine (cM.out _).mono ?_; rintro e w' ⟨rfl, rfl⟩)
    refine bodyPost_ret (v := .tuple #[.agg #[.int .i64 M, .int .i64 0, .slice none 0 0, .string ⟨#[]⟩], .int .i64 0]) (by simp [results, go_sem]) rfl ?_
    exact ⟨⟨_, rfl, World.ownsRow_nil _ _ _ _⟩, bnew w _⟩
end Go.Proofs.YtjcfmghijfnehaaGreatDoor
namespace Go.Proofs.YtjcfmghijfnehaaGreatDoor
open Go.RowKit

theorem wordCells_at (ws : List Lx.Wd) (j : Nat) (h : j < ws.length) : (wordCells ws)[j * 3]? = some (.int .i64 (ws[j]).kind) ∧ (wordCells ws)[j * 3 + 1]? = some (.string (str (ws[j]).text)) ∧ (wordCells ws)[j * 3 + 2]? = some (.int .i64 (ws[j]).at_) := by
  induction ws generalizing j with
  | nil => simp at h
  | cons x t ih =>
    have e : wordCells (x :: t) = [.int .i64 x.kind, .string (str x.text), .int .i64 x.at_] ++ wordCells t := rfl
    cases j with
    | zero => rw [e]; simp
    | succ j =>
      have := ih j (by simp only [List.length_cons] at h; omega)
      rw [e]
      rw [List.getElem?_append_right (by simp; omega), List.getElem?_append_right (by simp; omega), List.getElem?_append_right (by simp; omega)]
      simp only [List.length_cons, List.length_nil]
      rw [show (j + 1) * 3 - (0 + 1 + 1 + 1) = j * 3 by omega, show (j + 1) * 3 + 1 - (0 + 1 + 1 + 1) = j * 3 + 1 by omega, show (j + 1) * 3 + 2 - (0 + 1 + 1 + 1) = j * 3 + 2 by omega]
      exact this
/-- the cells of words -/
theorem OwnW.cells {w : World} {B : Nat} {a : Option Addr} {n c : Nat} {ws : List Lx.Wd} (h : OwnW w B (.slice a n c) ws) (hn : 0 < ws.length) : n = ws.length ∧ n ≤ c ∧ ∃ g, a = some ⟨g, 0, none⟩ ∧ g < w.heap.size ∧ ∀ (j : Nat) (hj : j < ws.length), w.cell? ⟨g, j * 3, none⟩ = some (.int .i64 (ws[j]).kind) ∧ w.cell? ⟨g, j * 3 + 1, none⟩ = some (.string (str (ws[j]).text)) ∧ w.cell? ⟨g, j * 3 + 2, none⟩ = some (.int .i64 (ws[j]).at_) := by
  have h' := h
  rcases h.2 with ⟨e, h0⟩ | ⟨g, cap, cur, e, hB, hh, hnc, hr⟩
  · omega
  · cases e
    refine ⟨rfl, hnc, g, rfl, (Array.getElem?_eq_some_iff.1 hh).1, fun j hj => ?_⟩
    have hc := World.ownsRow.cells h' (g := g) rfl
    have hadd : ∀ k, (⟨g, 0, none⟩ : Addr).add k = ⟨g, k, none⟩ := fun k => by unfold Addr.add; split <;> simp_all
    obtain ⟨h1, h2, h3⟩ := wordCells_at ws j hj
    have a1 := hc _ _ h1
    have a2 := hc _ _ h2
    have a3 := hc _ _ h3
    rw [hadd] at a1 a2 a3
    exact ⟨a1, a2, a3⟩

theorem own_len {w : World} {B e z n : Nat} {v : Value} {xs : List Value} (h : w.ownsRow B e z v n xs) : n ≤ 9223372036854775807 := by
  rcases h.2 with ⟨_, h0⟩ | ⟨g, cap, cur, _, _, _, hnc, hm, _⟩
  · omega
  · unfold maxLen at hm; omega

set_option maxHeartbeats 1000000 in
theorem hasBar_any (m i : Nat) (v : Value) (t : ByteArray) (ws : List Lx.Wd) (B : Nat) (w : World) (hown : OwnW w B v ws) :
    Calls Tryz.prog 55 #[.agg #[.int .i64 m, .int .i64 i, v, .string t]] w fun e w' => e = .returned (.bool (Lx.lastBar ws)) ∧ Below w.heap.size w w' := by
  have hn := own_len hown
  obtain ⟨va, vc, rfl⟩ := own_slice hown
  by_cases h0 : ws.length = 0
  · have hw : ws = [] := List.eq_nil_of_length_eq_zero h0
    subst hw
    go_enter Tryz.func55, Tryz.ntmps55
    go_wp2
    go_ret
    exact ⟨rfl, bnew w _⟩
  · obtain ⟨_, hnc, g, rfl, hg, hc⟩ := hown.cells (by omega)
    obtain ⟨k, hk⟩ : ∃ k, ws.length = k + 1 := ⟨ws.length - 1, by omega⟩
    have c0 := (hc k (by omega)).1
    have hl : Lx.lastBar ws = decide ((ws[k]'(by omega)).kind = 13) := by
      unfold Lx.lastBar
      rw [List.getLast?_eq_getElem?, show ws.length - 1 = k by omega, List.getElem?_eq_getElem (by omega)]
    rw [hl]
    have hki : (((ws[k]'(by omega)).kind : Int) == 13) = decide ((ws[k]'(by omega)).kind = 13) := by rw [Bool.eq_iff_iff]; simp; omega
    generalize (ws[k]'(by omega)).kind = K at *
    rw [hk] at hnc ⊢
    rw [← hki]
    have c0' : ∀ o, (w.alloc o).cell? ⟨g, k * 3, none⟩ = some (.int .i64 K) := fun o => by rw [← c0]; exact (bnew w o).cell (p := ⟨g, k * 3, none⟩) hg
    clear hc hown hl hki c0
    have e1 : ((k + 1 : Nat) : Int) - 1 = (k : Int) := by omega
    go_enter Tryz.func55, Tryz.ntmps55
    go_wp2
    go_ret
    exact ⟨rfl, bnew w _⟩

set_option maxHeartbeats 1000000 in
theorem says_any (m i : Nat) (v : Value) (t : ByteArray) (ws : List Lx.Wd) (B : Nat) (w : World) (hown : OwnW w B v ws) :
    Calls Tryz.prog 58 #[.agg #[.int .i64 m, .int .i64 i, v, .string t]] w fun e w' => e = .returned (.bool (decide (m ≠ 0) || !ws.isEmpty)) ∧ Below w.heap.size w w' := by
  have hn := own_len hown
  obtain ⟨va, vc, rfl⟩ := own_slice hown
  have he : ws.isEmpty = decide (ws.length = 0) := by cases ws <;> simp
  rw [he]
  clear he hown
  generalize ws.length = n at *
  by_cases hm : m = 0
  · subst hm
    go_enter Tryz.func58, Tryz.ntmps58
    go_wp2
    go_ret
    exact ⟨ret_bool (by rw [Bool.eq_iff_iff]; simp; omega), bnew w _⟩
  · have bm : ((m : Int) != 0) = true := bne_iff_ne.2 (by omega)
    go_enter Tryz.func58, Tryz.ntmps58
    go_wp2
    go_ret
    exact ⟨ret_bool (by simp [hm]), bnew w _⟩
end Go.Proofs.YtjcfmghijfnehaaGreatDoor
namespace Go.Proofs.YtjcfmghijfnehaaGreatDoor
namespace Lx
/-- what stands between bytes 10 -/
def pieces : List UInt8 → List (List UInt8)
  | [] => [[]]
  | b :: t => if b = 10 then [] :: pieces t else match pieces t with
    | [] => [[b]]
    | p :: ps => (b :: p) :: ps
theorem pieces_ne (l : List UInt8) : pieces l ≠ [] := by
  cases l with
  | nil => simp [pieces]
  | cons b t =>
    unfold pieces
    split
    · simp
    · split <;> simp
theorem index10 (b : UInt8) (t : List UInt8) : Lib.index (b :: t) [10] = if b = 10 then 0 else if Lib.index t [10] = -1 then -1 else Lib.index t [10] + 1 := by
  rw [Lib.index_one, Lib.index_one]
  by_cases h : b = 10
  · subst h; rw [if_pos rfl]; simp [Lib.indexByte]
  · rw [if_neg h]
    have : Lib.indexByte (b :: t) 10 = if b == 10 then 0 else if Lib.indexByte t 10 == -1 then -1 else Lib.indexByte t 10 + 1 := rfl
    rw [this, if_neg (by simpa using h)]
    by_cases h2 : Lib.indexByte t 10 = -1
    · rw [h2]; rfl
    · rw [if_neg (by simpa using h2), if_neg h2]
theorem index_ge (l : List UInt8) : Lib.index l [10] = -1 ∨ ∃ i : Nat, Lib.index l [10] = i := by
  induction l with
  | nil => left; rw [Lib.index_one]; rfl
  | cons b t ih =>
    rw [index10]
    by_cases h : b = 10
    · right; exact ⟨0, by rw [if_pos h]; rfl⟩
    · rw [if_neg h]
      rcases ih with h2 | ⟨i, hi⟩
      · left; rw [if_pos h2]
      · right; refine ⟨i + 1, ?_⟩; rw [hi, if_neg (by omega)]; omega
theorem splitK_hit (k i : Nat) (s : List UInt8) (h : Lib.index s [10] = i) : Lib.splitK [10] 0 (k + 1) s = s.take i :: Lib.splitK [10] 0 k (s.drop (i + 1)) := by
  have hm : ¬ (Lib.index s [10] == -1) = true := fun e => by have := beq_iff_eq.1 e; omega
  have e : (Lib.index s [10]).toNat = i := by omega
  rw [Lib.splitK, if_neg hm, e]; rfl
theorem splitK_miss (k : Nat) (s : List UInt8) (h : Lib.index s [10] = -1) : Lib.splitK [10] 0 k s = [s] := by
  cases k with
  | zero => rfl
  | succ k => rw [Lib.splitK, if_pos (by rw [h]; rfl)]
theorem split_pieces (l : List UInt8) : Lib.split l [10] = pieces l := by
  induction l with
  | nil =>
    unfold Lib.split
    rw [splitK_miss _ _ (by rw [Lib.index_one]; rfl)]; rfl
  | cons b t ih =>
    unfold Lib.split at ih ⊢
    unfold pieces
    by_cases h : b = 10
    · rw [if_pos h]
      have hi : Lib.index (b :: t) [10] = ((0 : Nat) : Int) := by rw [index10, if_pos h]; rfl
      rw [Lib.count_hit (by simp) hi, Nat.add_comm, splitK_hit _ 0 _ hi]
      simp only [List.length_cons, List.length_nil, Nat.zero_add, List.drop_succ_cons, List.drop_zero, List.take_zero]
      rw [ih]
    · rw [if_neg h]
      rcases index_ge t with h2 | ⟨i, hi⟩
      · have hs : Lib.index (b :: t) [10] = -1 := by rw [index10, if_neg h, if_pos h2]
        rw [splitK_miss _ _ h2] at ih
        rw [splitK_miss _ _ hs, ← ih]
      · have hs : Lib.index (b :: t) [10] = ((i + 1 : Nat) : Int) := by rw [index10, if_neg h, hi, if_neg (by omega)]; omega
        rw [Lib.count_hit (by simp) hi, Nat.add_comm, splitK_hit _ i _ hi] at ih
        rw [Lib.count_hit (by simp) hs, Nat.add_comm, splitK_hit _ (i + 1) _ hs, ← ih]
        simp
theorem pieces_len (l : List UInt8) : (pieces l).length ≤ l.length + 1 := by
  induction l with
  | nil => simp [pieces]
  | cons b t ih =>
    unfold pieces
    split
    · simp only [List.length_cons]; omega
    · split
      · simp
      · rename_i h; rw [h] at ih; simp only [List.length_cons] at ih ⊢; omega
theorem pieces_short (l : List UInt8) : ∀ p ∈ pieces l, p.length ≤ l.length := by
  induction l with
  | nil => simp [pieces]
  | cons b t ih =>
    unfold pieces
    split
    · intro p hp
      rcases List.mem_cons.1 hp with rfl | hp
      · simp
      · have := ih p hp; simp only [List.length_cons]; omega
    · split
      · intro p hp; simp only [List.mem_cons, List.not_mem_nil, or_false] at hp; subst hp; simp
      · rename_i q qs h
        rw [h] at ih
        intro p hp
        rcases List.mem_cons.1 hp with rfl | hp
        · have := ih q (by simp); simp only [List.length_cons]; omega
        · have := ih p (by simp [hp]); simp only [List.length_cons]; omega
end Lx
open Go.RowKit

/-- all pieces lie in one block -/
def PiecesAt (w : World) (g : Nat) (ps : List ByteArray) : Prop := w.heap[g]? = some (.cells (ps.map Value.string).toArray 9 (0, 0))
theorem PiecesAt.rd {w : World} {g : Nat} {ps : List ByteArray} (h : PiecesAt w g ps) (o : Nat) : RdS w w.heap.size (some ⟨g, o, none⟩) (ps.drop o) := fun _ => by
  refine ⟨g, o, rfl, (Array.getElem?_eq_some_iff.1 h).1, fun j hj => ?_⟩
  rw [List.length_drop] at hj
  refine cell_blk h (o + j) _ ?_
  simp [List.getElem?_eq_getElem (show o + j < ps.length by omega)]
theorem PiecesAt.below {w w' : World} {g : Nat} {ps : List ByteArray} (h : PiecesAt w g ps) (hb : Below w.heap.size w w') : PiecesAt w' g ps :=
  (hb.block g (Array.getElem?_eq_some_iff.1 h).1).trans h

set_option maxHeartbeats 1000000 in
theorem pieces_any (s : ByteArray) (w : World) (hs : s.size ≤ 1000000) (hE : Env w) :
    Calls Tryz.prog 53 #[.string s] w fun e w' => ∃ ps, byts ps = Lx.pieces s.data.toList ∧ e = .returned (.slice (some ⟨w.heap.size, 0, none⟩) ps.length ps.length) ∧ PiecesAt w' w.heap.size ps ∧ Below w.heap.size w w' := by
  obtain ⟨m, hm⟩ := hE.maxl
  have cS := Tryz.strings_Split s ⟨#[10]⟩ m w (by omega) hm (by decide)
  obtain ⟨ps, hps⟩ : ∃ ps, Lib.splitB ⟨#[10]⟩ 0 (Lib.countB s ⟨#[10]⟩) s = ps := ⟨_, rfl⟩
  have hb : byts ps = Lx.pieces s.data.toList := by
    rw [← Lx.split_pieces, ← hps]
    exact Lib.splitB_data ⟨#[10]⟩ 0 _ s
  have hl : Lib.countB s ⟨#[10]⟩ + 1 = ps.length := by
    rw [← hps]; exact (Lib.splitB_all ⟨#[10]⟩ (by decide) 0 _ s rfl).symm
  rw [hps, hl] at cS
  have CS := Lib.hid cS
  clear cS hm hE hps hl
  go_enter Tryz.func53, Tryz.ntmps53
  go_wp2_with (go_at_call 86; refine CS.out.mono ?_; rintro e w' ⟨rfl, rfl⟩)
  go_ret
  refine ⟨ps, hb, rfl, ?_, bnew w _⟩
  show (w.heap.push _)[w.heap.size]? = _
  simp
end Go.Proofs.YtjcfmghijfnehaaGreatDoor
namespace Go.Proofs.YtjcfmghijfnehaaGreatDoor
namespace Lx
def consL (x : Ln) : Except Nat (List Ln) → Except Nat (List Ln)
  | .ok xs => .ok (x :: xs)
  | .error e => .error e
/-- the lines of pieces, with fuel -/
def readGo : Nat → List (List UInt8) → Except Nat (List Ln)
  | 0, _ => .ok []
  | _ + 1, [] => .ok []
  | n + 1, p :: t => match lineOf p with
    | .error e => .error e
    | .ok x => if lastBar x.words then
        (match textOf (t.take (textSize x.indent t)) with
        | .error e => .error e
        | .ok y => consL ⟨x.mark, x.indent, x.words, y⟩ (readGo n (t.drop (textSize x.indent t))))
      else if says x then consL x (readGo n t) else readGo n t
/-- THE LINES of a text, or their error -/
def read (l : List UInt8) : Except Nat (List Ln) := readGo (pieces l).length (pieces l)
def joinL (acc : List Ln) : Except Nat (List Ln) → Except Nat (List Ln)
  | .ok xs => .ok (acc ++ xs)
  | .error e => .error e
theorem joinL_cons (acc : List Ln) (x : Ln) (r : Except Nat (List Ln)) : joinL acc (consL x r) = joinL (acc ++ [x]) r := by
  cases r <;> simp [joinL, consL]
theorem textGo_err (off : Nat) (ps : List (List UInt8)) : ∀ e, textGo off ps = .error e → e ≠ 0 := by
  induction ps with
  | nil => intro e h; cases h
  | cons p t ih =>
    intro e h
    unfold textGo at h
    split at h
    · cases h; decide
    · split at h
      · split at h
        · cases h
        · rename_i he; cases h; exact ih _ he
      · split at h
        · cases h; decide
        · split at h
          · cases h
          · rename_i he; cases h; exact ih _ he
theorem lastBar_says (x : Ln) (h : lastBar x.words = true) : x.words.isEmpty = false := by
  cases hw : x.words with
  | nil => rw [hw] at h; cases h
  | cons a t => rfl
end Lx
open Go.RowKit

def lineCells (ps : List (Lx.Ln × Value)) : List Value := ps.flatMap fun p => [.int .i64 p.1.mark, .int .i64 p.1.indent, p.2, .string (str p.1.text)]
theorem lineCells_snoc (ps : List (Lx.Ln × Value)) (p : Lx.Ln × Value) : lineCells (ps ++ [p]) = lineCells ps ++ [.int .i64 p.1.mark, .int .i64 p.1.indent, p.2, .string (str p.1.text)] := by
  unfold lineCells; rw [List.flatMap_append]; simp
/-- lines that the call owns -/
def OwnL (w : World) (B : Nat) (v : Value) (ls : List Lx.Ln) : Prop :=
  ∃ ps : List (Lx.Ln × Value), ps.map (·.1) = ls ∧ w.ownsRow B 76 4 v ls.length (lineCells ps) ∧ ∀ p ∈ ps, OwnW w B p.2 p.1.words
theorem OwnL.below {w w' : World} {B : Nat} {v : Value} {ls : List Lx.Ln} (h : OwnL w B v ls) (hb : Below w.heap.size w w') : OwnL w' B v ls := by
  obtain ⟨ps, h1, h2, h3⟩ := h
  exact ⟨ps, h1, row_below h2 hb, fun p hp => row_below (h3 p hp) hb⟩
theorem ownL_nil (w : World) (B : Nat) : OwnL w B (.slice none 0 0) [] := ⟨[], rfl, World.ownsRow_nil _ _ _ _, fun p hp => by cases hp⟩
/-- rows of unlike types lie in unlike blocks -/
theorem own_ne {w : World} {B B' e e' z z' n m k : Nat} {v u : Value} {xs ys : List Value} (h : w.ownsRow B e z v n xs) (h' : w.ownsRow B' e' z' u m ys) (hne : e ≠ e') (hk : u.ownBlock = some k) : v.ownBlock ≠ some k := by
  intro hv
  rcases h.2 with ⟨rfl, _⟩ | ⟨g, cap, cur, rfl, _, hh, _⟩
  · cases hv
  · rcases h'.2 with ⟨rfl, _⟩ | ⟨g', cap', cur', rfl, _, hh', _⟩
    · cases hk
    · have e1 : g = k := by simpa [Value.ownBlock] using hv
      have e2 : g' = k := by simpa [Value.ownBlock] using hk
      subst e1; subst e2
      rw [hh] at hh'
      cases hh'; exact hne rfl
theorem row_kept {w w' : World} {B e z n : Nat} {v : Value} {xs : List Value} (h : w.ownsRow B e z v n xs) (hk : ∀ k, v.ownBlock = some k → w'.heap[k]? = w.heap[k]?) : w'.ownsRow B e z v n xs := by
  obtain ⟨h1, h2⟩ := h
  refine ⟨h1, ?_⟩
  rcases h2 with h2 | ⟨g, cap, cur, hv, hB, hh, hr⟩
  · exact .inl h2
  · exact .inr ⟨g, cap, cur, hv, hB, (hk g (by rw [hv]; rfl)).trans hh, hr⟩
theorem infoL : (Tryz.prog.info? 76).map (fun i => (i.zero, i.size, i.bytes)) = some (some (.agg #[.int .i64 0, .int .i64 0, .slice none 0 0, .string ⟨#[]⟩]), 4, 56) := by kernel_rfl

/-- 'append' of one line that was just laid, onto lines that the call owns -/
theorem wpList_pushL {ops : Array Oper} {rest : List Oper} {o : Oper} {a : Act} {Q : Exit → Act → World → Prop} (hgd : o.guard = none) (s x : Operand)
    (ho : o.op = .call { callee := .builtin .append, args := #[s, x], argTypes := #[36, 36] }) (B : Nat) (v : Value) (ls : List Lx.Ln) (y : Lx.Ln) (u : Value) (w0 : World) (C : Array Value) (c : Nat)
    (hs : a.eval s = v) (ga : Nat) (hx : a.eval x = .slice (some ⟨ga, 0, none⟩) 1 c) (hga : ga = w0.heap.size) (hC : C = #[.int .i64 y.mark, .int .i64 y.indent, u, .string (str y.text)]) (hown : OwnL w0 B v ls) (hu : OwnW w0 B u y.words) (hl : ls.length ≤ 2000000) (hB : B ≤ w0.heap.size)
    (h : ∀ v' w', OwnL w' B v' (ls ++ [y]) → Below B w0 w' → B ≤ w'.heap.size → (∀ k, k < w0.heap.size → v.ownBlock ≠ some k → w'.heap[k]? = w0.heap[k]?) → wpList Tryz.prog ops Q rest (a.put o.dst v') w') :
    wpList Tryz.prog ops Q (o :: rest) a (w0.alloc (.cells C 76)) := by
  subst hC hga
  obtain ⟨ps, hp1, hp2, hp3⟩ := hown
  obtain ⟨ua, uc, rfl⟩ := own_slice hu
  obtain ⟨i0, hi, hz0, hz1, hz2⟩ := info_parts infoL
  refine wpList_append_own _ hgd s x 36 ho B 76 i0 _ 4 56 Tryz.underlying36 hi hz0 hz1 hz2 rfl (by decide) v ls.length (lineCells ps) hs (World.ownsRow.alloc hp2 _) ⟨w0.heap.size, 0, none⟩ 1 c [.int .i64 y.mark, .int .i64 y.indent, .slice ua y.words.length uc, .string (str y.text)] hx rfl
    (fun j u hu => cells_of_new w0 76 [.int .i64 y.mark, .int .i64 y.indent, .slice ua y.words.length uc, .string (str y.text)] j u hu) (fun u hu => by simp only [List.mem_cons, List.not_mem_nil, or_false] at hu; rcases hu with rfl | rfl | rfl | rfl <;> rfl) (by simp only [maxLen]; omega) (by omega) (by rw [World.size_alloc]; omega) ?_
  intro v' w' ho' hg _
  have hk : Below B w0 w' := ((Below.refl B w0).alloc hB _).grown hg (by rw [World.size_alloc]; omega) (fun k hk => (World.ownsRow.lt hp2 k hk).1)
  have hkeep : ∀ k, k < w0.heap.size → v.ownBlock ≠ some k → w'.heap[k]? = w0.heap[k]? := fun k hk hne => by
    rw [hg.block k (by rw [World.size_alloc]; omega) hne.symm]
    show (w0.heap.push _)[k]? = _
    rw [Array.getElem?_push, if_neg (by omega)]
  have hkw : ∀ q ws, OwnW w0 B q ws → OwnW w' B q ws := fun q ws hq => row_kept hq fun k hk => hkeep k (World.ownsRow.lt hq k hk).2 (own_ne hp2 hq (by decide) hk)
  refine h v' w' ⟨ps ++ [(y, .slice ua y.words.length uc)], by rw [List.map_append, hp1]; rfl, ?_, ?_⟩ hk (Nat.le_trans hB hk.size) hkeep
  · rw [List.length_append, lineCells_snoc]
    exact ho'
  · intro p hp
    rcases List.mem_append.1 hp with hp | hp
    · exact hkw _ _ (hp3 p hp)
    · simp only [List.mem_cons, List.not_mem_nil, or_false] at hp
      subst hp
      exact hkw _ _ hu
end Go.Proofs.YtjcfmghijfnehaaGreatDoor
