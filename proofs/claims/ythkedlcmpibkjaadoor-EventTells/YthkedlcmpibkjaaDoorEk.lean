/-
  The walk of cutWord.
-/
import Derived.Test.YthkedlcmpibkjaaDoorEj
import Derived.IntWalk
namespace Go.Proofs.YthkedlcmpibkjaaDoor
namespace Ev
/-- the word behind the first blank, and what is behind it -/
def cutW (s p : List UInt8) : List UInt8 × List UInt8 :=
  if Lib.hasPrefix s p then
    (if 0 ≤ Lib.indexByte (s.drop 2) 32 then ((s.drop 1).take (1 + (Lib.indexByte (s.drop 2) 32).toNat), s.drop (2 + (Lib.indexByte (s.drop 2) 32).toNat)) else (s.drop 1, []))
  else ([], s)
end Ev
open Go.RowKit
theorem idx_lt (l : List UInt8) (c : UInt8) (n : Nat) (h : Lib.indexByte l c = n) : n < l.length := by
  have := (Lib.indexByte_some h).1
  rcases Nat.lt_or_ge n l.length with hl | hl
  · exact hl
  · rw [List.getElem?_eq_none hl] at this; cases this
def pairE (a b : List UInt8) : Ending := .returned (.tuple #[.string (str a), .string (str b)])
theorem pairE_of {s t : ByteArray} {a b : List UInt8} (h1 : s.data.toList = a) (h2 : t.data.toList = b) : Ending.returned (.tuple #[.string s, .string t]) = pairE a b := by
  subst h1 h2; unfold pairE; rw [str_eq, str_eq]

set_option maxHeartbeats 2000000 in
set_option maxRecDepth 100000 in
theorem cutWord_any (s p : ByteArray) (w : World) (hp : p.size = 2) (hs : s.size ≤ 1000000) :
    Calls Tryd.prog 62 #[.string s, .string p] w fun e w' => e = pairE (Ev.cutW s.data.toList p.data.toList).1 (Ev.cutW s.data.toList p.data.toList).2 ∧ ∃ n, w' = w.drewN n := by
  have cP := Lib.hid (Tryd.strings_HasPrefix s p w)
  unfold Ev.cutW
  cases h : Lib.hasPrefix s.data.toList p.data.toList
  · rw [h] at cP
    rw [if_neg (by decide)]
    clear h
    go_enter Tryd.func62, Tryd.ntmps62
    go_wp2_with (go_at_call 83; refine cP.out.mono ?_; rintro e w' ⟨rfl, rfl⟩)
    go_ret2
    exact ⟨pairE_of rfl rfl, 0, rfl⟩
  · rw [h] at cP
    rw [if_pos rfl]
    have h2 := Tag.pre_le s p h
    rw [hp] at h2
    clear h
    have e2 : (s.extract 2 s.size).data.toList = s.data.toList.drop 2 := Lib.extract_to_end s 2
    have cI := Tryd.strings_IndexByte (s.extract 2 s.size) 32 w
    rw [e2, show (Int.toNat 32).toUInt8 = 32 from rfl] at cI
    have hpi : (p.size : Int) = 2 := by omega
    by_cases hi : 0 ≤ Lib.indexByte (s.data.toList.drop 2) 32
    · rw [if_pos hi]
      obtain ⟨n, hn⟩ : ∃ n : Nat, Lib.indexByte (s.data.toList.drop 2) 32 = n := ⟨(Lib.indexByte (s.data.toList.drop 2) 32).toNat, by omega⟩
      rw [hn] at cI ⊢
      have hlt := idx_lt _ _ _ hn
      rw [List.length_drop, ← Lib.size_eq] at hlt
      have H1 : Hid ((s.extract 1 (2 + n)).data.toList = (s.data.toList.drop 1).take (1 + (n : Int).toNat)) := by
        show _ = _
        rw [Lib.extract_data]; congr 1; omega
      have H2 : Hid ((s.extract (2 + n) s.size).data.toList = s.data.toList.drop (2 + (n : Int).toNat)) := by
        show _ = _
        rw [Lib.extract_to_end]; congr 1
      have CI := Lib.hid cI
      clear hn hi e2 cI
      go_enter Tryd.func62, Tryd.ntmps62
      go_wp2_with (first
        | (go_at_call 83; refine cP.out.mono ?_; rintro e w' ⟨rfl, rfl⟩)
        | (go_at_call 84; refine CI.out.mono ?_; rintro e w' ⟨rfl, rfl⟩))
      have i1 : (1 : Int) ≤ 2 + (n : Int) := by omega
      have i2 : (2 : Int) + (n : Int) ≤ (s.size : Int) := by omega
      have i3 : ((2 : Int) + (n : Int)).toNat = 2 + n := by omega
      have i4 : (0 : Int) ≤ 2 + (n : Int) := by omega
      have i5 : IntKind.i64.wrap ((2 : Int) + (n : Int)) = 2 + n := IntWalk.i64_in _ (by omega)
      have i6 : (1 : Int) ≤ (s.size : Int) := by omega
      go_quiet (fail)
      go_wp2
      go_ret2
      exact ⟨pairE_of H1.out H2.out, _, rfl⟩
    · rw [if_neg hi]
      have hm1 : Lib.indexByte (s.data.toList.drop 2) 32 = -1 := by have := Lib.indexByte_ge (s.data.toList.drop 2) 32; omega
      rw [hm1] at cI
      have CI := Lib.hid cI
      have H1 : Hid ((s.extract 1 s.size).data.toList = s.data.toList.drop 1) := Lib.extract_to_end s 1
      clear hi hm1 e2 cI
      go_enter Tryd.func62, Tryd.ntmps62
      go_wp2_with (first
        | (go_at_call 83; refine cP.out.mono ?_; rintro e w' ⟨rfl, rfl⟩)
        | (go_at_call 84; refine CI.out.mono ?_; rintro e w' ⟨rfl, rfl⟩))
      go_ret2
      exact ⟨pairE_of H1.out rfl, 0, rfl⟩
end Go.Proofs.YthkedlcmpibkjaaDoor
