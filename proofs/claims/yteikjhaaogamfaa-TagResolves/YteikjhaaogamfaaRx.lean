/-
  Walks of the document's float and Resolve.
-/
import Derived.Test.YteikjhaaogamfaaRc
namespace Go.Proofs.Yteikjhaaogamfaa
open Go.RowKit

/-! The rows that are laid, word for word. -/
def infsO : Obj := .cells #[.string ⟨#[46, 105, 110, 102]⟩, .string ⟨#[46, 73, 110, 102]⟩, .string ⟨#[46, 73, 78, 70]⟩] 9
def nansO : Obj := .cells #[.string ⟨#[46, 110, 97, 110]⟩, .string ⟨#[46, 78, 97, 78]⟩, .string ⟨#[46, 78, 65, 78]⟩] 9
def nullsO : Obj := .cells #[.string ⟨#[]⟩, .string ⟨#[126]⟩, .string ⟨#[110, 117, 108, 108]⟩, .string ⟨#[78, 117, 108, 108]⟩, .string ⟨#[78, 85, 76, 76]⟩] 9
def boolsO : Obj := .cells #[.string ⟨#[116, 114, 117, 101]⟩, .string ⟨#[84, 114, 117, 101]⟩, .string ⟨#[84, 82, 85, 69]⟩, .string ⟨#[102, 97, 108, 115, 101]⟩, .string ⟨#[70, 97, 108, 115, 101]⟩, .string ⟨#[70, 65, 76, 83, 69]⟩] 9
theorem one_infs (s : ByteArray) (w : World) (b : Nat) (hb : b = w.heap.size) : Calls Try.prog 22 #[.string s, .slice (some ⟨b, 0, none⟩) 3 3] (w.alloc infsO) fun e w' => e = .returned (.bool (Tg.infs.contains s.data.toList)) ∧ w.alloc infsO = w' :=
  hb ▸ one_new s Tg.infs w (by decide)
theorem one_nans (s : ByteArray) (w : World) (b : Nat) (hb : b = w.heap.size) : Calls Try.prog 22 #[.string s, .slice (some ⟨b, 0, none⟩) 3 3] (w.alloc nansO) fun e w' => e = .returned (.bool (Tg.nans.contains s.data.toList)) ∧ w.alloc nansO = w' :=
  hb ▸ one_new s Tg.nans w (by decide)
theorem one_nulls (s : ByteArray) (w : World) (b : Nat) (hb : b = w.heap.size) : Calls Try.prog 22 #[.string s, .slice (some ⟨b, 0, none⟩) 5 5] (w.alloc nullsO) fun e w' => e = .returned (.bool (Tg.nulls.contains s.data.toList)) ∧ w.alloc nullsO = w' :=
  hb ▸ one_new s Tg.nulls w (by decide)
theorem one_bools (s : ByteArray) (w : World) (b : Nat) (hb : b = w.heap.size) : Calls Try.prog 22 #[.string s, .slice (some ⟨b, 0, none⟩) 6 6] (w.alloc boolsO) fun e w' => e = .returned (.bool (Tg.bools.contains s.data.toList)) ∧ w.alloc boolsO = w' :=
  hb ▸ one_new s Tg.bools w (by decide)
theorem alloc_below (w : World) (o : Obj) : Below w.heap.size w (w.alloc o) := (Below.refl _ w).alloc (Nat.le_refl _) o

set_option maxHeartbeats 4000000 in
set_option maxRecDepth 100000 in
theorem floatR_any (s : ByteArray) (w : World) (hs : s.size ≤ 1000000) :
    Calls Try.prog 24 #[.string s] w fun e w' => e = .returned (.bool (Tg.floatR s.data.toList)) ∧ Below w.heap.size w w' := by
  unfold Tg.floatR
  have C1 := Lib.hid (fun w1 => bareR_any s w1)
  obtain ⟨B, hB⟩ : ∃ B, B = str (Tg.bare s.data.toList) := ⟨_, rfl⟩
  have hBd : Tg.bare s.data.toList = B.data.toList := by rw [hB]; rfl
  have hBs : B.size ≤ 1000000 := by rw [hB, str_size]; have := bare_le s.data.toList; rw [← Lib.size_eq] at this; omega
  rw [← hB] at C1
  rw [hBd]
  clear hB hBd
  have CI := Lib.hid (fun w1 b hb => one_infs B w1 b hb)
  unfold infsO at CI
  cases h1 : Tg.infs.contains B.data.toList
  · rw [h1] at CI
    clear h1
    rw [Bool.false_or]
    have CN := Lib.hid (fun w1 b hb => one_nans s w1 b hb)
    unfold nansO at CN
    cases h2 : Tg.nans.contains s.data.toList
    · rw [h2] at CN
      clear h2
      rw [Bool.false_or]
      unfold Tg.decR
      have CF := Lib.hid (fun w1 => find_any B 101 69 101 69 rfl rfl w1 hBs)
      have hel : Tg.find 101 69 B.data.toList ≤ B.size := by rw [Lib.size_eq]; exact Tg.find_le _ _ _
      obtain ⟨E, hE⟩ : ∃ E, Tg.find 101 69 B.data.toList = E := ⟨_, rfl⟩
      rw [hE] at CF hel ⊢
      clear hE
      rw [← Lib.size_eq]
      obtain ⟨H, hH⟩ : ∃ H, H = B.extract 0 E := ⟨_, rfl⟩
      have hHd : B.data.toList.take E = H.data.toList := by rw [hH, ext_take]
      have hHs : H.size ≤ 1000000 := by have := take_size_le B E; rw [← hH] at this; omega
      rw [hHd]
      have HH := Lib.hid hH
      clear hH hHd
      have CR := Lib.hid (fun w1 => fraction_any H w1 hHs)
      by_cases h3 : E < B.size
      · have b1 : decide ((E : Int) < (B.size : Int)) = true := decide_eq_true (by omega)
        obtain ⟨T, hT⟩ : ∃ T, T = B.extract (E + 1) B.size := ⟨_, rfl⟩
        have hTd : B.data.toList.drop (E + 1) = T.data.toList := by rw [hT, ext_drop]
        have hTs : T.size ≤ 1000000 := by have := ext_size_le B (E + 1); rw [← hT] at this; omega
        rw [hTd]
        have HT := Lib.hid hT
        clear hT hTd
        have CB := Lib.hid (fun w1 => bareR_any T w1)
        have CO := Lib.hid (fun w1 => bareOnly T w1 hTs)
        cases h4 : Tg.only (Tg.bare T.data.toList) Tg.digs
        · rw [h4] at CO
          rw [if_pos ⟨h3, rfl⟩]
          clear h4
          go_enter Try.func24, Try.ntmps24
          go_wp2_with fail
          refine (C1.out _).mono ?_
          rintro e w1 ⟨rfl, rfl⟩
          go_wp2_with fail
          refine (CI.out _ _ (by simp)).mono ?_
          rintro e w1 ⟨rfl, rfl⟩
          go_wp2_with fail
          refine (CN.out _ _ (by simp)).mono ?_
          rintro e w1 ⟨rfl, rfl⟩
          go_wp2_with fail
          refine (C1.out _).mono ?_
          rintro e w1 ⟨rfl, rfl⟩
          go_wp2_with fail
          refine (CF.out _).mono ?_
          rintro e w1 ⟨rfl, rfl⟩
          go_wp2_with fail
          rw [← HT.out]
          refine (CB.out _).mono ?_
          rintro e w1 ⟨rfl, rfl⟩
          go_wp2_with fail
          refine (CO.out _).mono ?_
          rintro e w1 ⟨rfl, hb⟩
          go_wp2
          go_ret
          exact ⟨rfl, Below.then (Below.then (alloc_below _ _) (alloc_below _ _)) hb⟩
        · rw [h4] at CO
          rw [if_neg (by simp)]
          clear h4
          go_enter Try.func24, Try.ntmps24
          go_wp2_with fail
          refine (C1.out _).mono ?_
          rintro e w1 ⟨rfl, rfl⟩
          go_wp2_with fail
          refine (CI.out _ _ (by simp)).mono ?_
          rintro e w1 ⟨rfl, rfl⟩
          go_wp2_with fail
          refine (CN.out _ _ (by simp)).mono ?_
          rintro e w1 ⟨rfl, rfl⟩
          go_wp2_with fail
          refine (C1.out _).mono ?_
          rintro e w1 ⟨rfl, rfl⟩
          go_wp2_with fail
          refine (CF.out _).mono ?_
          rintro e w1 ⟨rfl, rfl⟩
          go_wp2_with fail
          rw [← HT.out]
          refine (CB.out _).mono ?_
          rintro e w1 ⟨rfl, rfl⟩
          go_wp2_with fail
          refine (CO.out _).mono ?_
          rintro e w1 ⟨rfl, hb⟩
          go_wp2_with fail
          rw [← HH.out]
          refine (CR.out _).mono ?_
          rintro e w2 ⟨rfl, hb2⟩
          go_wp2
          go_ret
          exact ⟨rfl, Below.then (Below.then (Below.then (alloc_below _ _) (alloc_below _ _)) hb) hb2⟩
      · have b1 : decide ((E : Int) < (B.size : Int)) = false := decide_eq_false (by omega)
        have b2 : decide (E < B.size) = false := decide_eq_false h3
        have b3 : ¬ (E : Int) < (B.size : Int) := by omega
        rw [if_neg (by simp [h3])]
        go_enter Try.func24, Try.ntmps24
        go_wp2_with fail
        refine (C1.out _).mono ?_
        rintro e w1 ⟨rfl, rfl⟩
        go_wp2_with fail
        refine (CI.out _ _ (by simp)).mono ?_
        rintro e w1 ⟨rfl, rfl⟩
        go_wp2_with fail
        refine (CN.out _ _ (by simp)).mono ?_
        rintro e w1 ⟨rfl, rfl⟩
        go_wp2_with fail
        refine (C1.out _).mono ?_
        rintro e w1 ⟨rfl, rfl⟩
        go_wp2_with fail
        refine (CF.out _).mono ?_
        rintro e w1 ⟨rfl, rfl⟩
        go_wp2_with fail
        rw [← HH.out]
        refine (CR.out _).mono ?_
        rintro e w2 ⟨rfl, hb2⟩
        go_wp2
        go_ret
        exact ⟨rfl, Below.then (Below.then (alloc_below _ _) (alloc_below _ _)) hb2⟩
    · rw [h2] at CN
      clear h2
      rw [Bool.true_or]
      go_enter Try.func24, Try.ntmps24
      go_wp2_with fail
      refine (C1.out _).mono ?_
      rintro e w1 ⟨rfl, rfl⟩
      go_wp2_with fail
      refine (CI.out _ _ (by simp)).mono ?_
      rintro e w1 ⟨rfl, rfl⟩
      go_wp2_with fail
      refine (CN.out _ _ (by simp)).mono ?_
      rintro e w1 ⟨rfl, rfl⟩
      go_wp2
      go_ret
      exact ⟨rfl, Below.then (alloc_below _ _) (alloc_below _ _)⟩
  · rw [h1] at CI
    clear h1
    rw [Bool.true_or, Bool.true_or]
    go_enter Try.func24, Try.ntmps24
    go_wp2_with fail
    refine (C1.out _).mono ?_
    rintro e w1 ⟨rfl, rfl⟩
    go_wp2_with fail
    refine (CI.out _ _ (by simp)).mono ?_
    rintro e w1 ⟨rfl, rfl⟩
    go_wp2
    go_ret
    exact ⟨rfl, alloc_below _ _⟩

set_option maxHeartbeats 4000000 in
set_option maxRecDepth 100000 in
theorem resolveR_any (s : ByteArray) (w : World) (hs : s.size ≤ 1000000) :
    Calls Try.prog 9 #[.string s] w fun e w' => e = .returned (.string (kS (Tg.resolveR s.data.toList))) ∧ Below w.heap.size w w' := by
  unfold Tg.resolveR
  have C1 := Lib.hid (fun w1 b hb => one_nulls s w1 b hb)
  unfold nullsO at C1
  have C2 := Lib.hid (fun w1 b hb => one_bools s w1 b hb)
  unfold boolsO at C2
  have C3 := Lib.hid (fun w1 => whole_any s w1 hs)
  have C4 := Lib.hid (fun w1 => floatR_any s w1 hs)
  cases h1 : Tg.nulls.contains s.data.toList
  · rw [h1] at C1
    clear h1
    rw [if_neg (by simp)]
    cases h2 : Tg.bools.contains s.data.toList
    · rw [h2] at C2
      clear h2
      rw [if_neg (by simp)]
      cases h3 : Tg.wholeR s.data.toList
      · rw [h3] at C3
        clear h3
        rw [if_neg (by simp)]
        cases h4 : Tg.floatR s.data.toList
        · rw [h4] at C4
          clear h4
          rw [if_neg (by simp)]
          go_enter Try.func9, Try.ntmps9
          go_wp2_with fail
          refine (C1.out _ _ (by simp)).mono ?_
          rintro e w1 ⟨rfl, rfl⟩
          go_wp2_with fail
          refine (C2.out _ _ (by simp)).mono ?_
          rintro e w1 ⟨rfl, rfl⟩
          go_wp2_with fail
          refine (C3.out _).mono ?_
          rintro e w1 ⟨rfl, hb⟩
          go_wp2_with fail
          refine (C4.out _).mono ?_
          rintro e w2 ⟨rfl, hb2⟩
          go_wp2
          go_ret
          exact ⟨rfl, Below.then (Below.then (Below.then (alloc_below _ _) (alloc_below _ _)) hb) hb2⟩
        · rw [h4] at C4
          clear h4
          rw [if_pos rfl]
          go_enter Try.func9, Try.ntmps9
          go_wp2_with fail
          refine (C1.out _ _ (by simp)).mono ?_
          rintro e w1 ⟨rfl, rfl⟩
          go_wp2_with fail
          refine (C2.out _ _ (by simp)).mono ?_
          rintro e w1 ⟨rfl, rfl⟩
          go_wp2_with fail
          refine (C3.out _).mono ?_
          rintro e w1 ⟨rfl, hb⟩
          go_wp2_with fail
          refine (C4.out _).mono ?_
          rintro e w2 ⟨rfl, hb2⟩
          go_wp2
          go_ret
          exact ⟨rfl, Below.then (Below.then (Below.then (alloc_below _ _) (alloc_below _ _)) hb) hb2⟩
      · rw [h3] at C3
        clear h3
        rw [if_pos rfl]
        go_enter Try.func9, Try.ntmps9
        go_wp2_with fail
        refine (C1.out _ _ (by simp)).mono ?_
        rintro e w1 ⟨rfl, rfl⟩
        go_wp2_with fail
        refine (C2.out _ _ (by simp)).mono ?_
        rintro e w1 ⟨rfl, rfl⟩
        go_wp2_with fail
        refine (C3.out _).mono ?_
        rintro e w1 ⟨rfl, hb⟩
        go_wp2
        go_ret
        exact ⟨rfl, Below.then (Below.then (alloc_below _ _) (alloc_below _ _)) hb⟩
    · rw [h2] at C2
      clear h2
      rw [if_pos rfl]
      go_enter Try.func9, Try.ntmps9
      go_wp2_with fail
      refine (C1.out _ _ (by simp)).mono ?_
      rintro e w1 ⟨rfl, rfl⟩
      go_wp2_with fail
      refine (C2.out _ _ (by simp)).mono ?_
      rintro e w1 ⟨rfl, rfl⟩
      go_wp2
      go_ret
      exact ⟨rfl, Below.then (alloc_below _ _) (alloc_below _ _)⟩
  · rw [h1] at C1
    clear h1
    rw [if_pos rfl]
    go_enter Try.func9, Try.ntmps9
    go_wp2_with fail
    refine (C1.out _ _ (by simp)).mono ?_
    rintro e w1 ⟨rfl, rfl⟩
    go_wp2
    go_ret
    exact ⟨rfl, alloc_below _ _⟩
end Go.Proofs.Yteikjhaaogamfaa
