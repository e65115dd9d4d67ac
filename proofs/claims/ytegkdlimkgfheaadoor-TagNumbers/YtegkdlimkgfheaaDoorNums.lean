/-
  Walk of the law TagNumbers.
-/
import Derived.Test.YtegkdlimkgfheaaDoorFv
import Derived.Test.YtegkdlimkgfheaaDoorMn
namespace Go.Proofs.YtegkdlimkgfheaaDoor
open Go.RowKit Go.Sort

theorem any_eq (cs : List UInt8) : ∀ l : List UInt8, Lib.containsAny l cs = l.any (cs.contains ·)
  | [] => rfl
  | c :: t => by
    have ih := any_eq cs t
    unfold Lib.containsAny at *
    rw [List.any_cons, ← ih]
    have hge := Lib.indexAny_ge cs t
    have e : Lib.indexAny (c :: t) cs = (if cs.contains c then 0 else if Lib.indexAny t cs == -1 then -1 else Lib.indexAny t cs + 1) := rfl
    rw [Bool.eq_iff_iff, decide_eq_true_iff, Bool.or_eq_true, decide_eq_true_iff, e]
    by_cases h : cs.contains c = true
    · rw [if_pos h]; simp only [h, true_or, iff_true]; omega
    · rw [if_neg h]
      by_cases hm : Lib.indexAny t cs = -1
      · rw [if_pos (by rw [hm]; rfl), hm]; simp only [h]; simp
      · rw [if_neg (by simpa using hm)]; simp only [h]; simp; omega
theorem dec_dp (u : Nat) : DP (Lib.decDigits u) := by
  refine ⟨?_, ?_⟩
  · unfold DG
    rw [Lib.decDigits_eq, List.all_eq_true]
    intro x hx
    simp only [List.mem_map] at hx
    obtain ⟨t, _, rfl⟩ := hx
    exact dg_digit _ _
  · intro e
    have := congrArg List.length e
    rw [Lib.decDigits_length] at this
    have := Lib.nDigits_pos u
    simp at *
    omega
theorem itoa_form (n : Int) : ∃ sg A, Lib.itoa n = sg ++ A ∧ (sg = [] ∨ sg = [45]) ∧ DP A := by
  unfold Lib.itoa
  split
  · exact ⟨[45], _, rfl, Or.inr rfl, dec_dp _⟩
  · exact ⟨[], _, rfl, Or.inl rfl, dec_dp _⟩
theorem itoa_tags (n : Int) : Tg.resolve (Lib.itoa n) = .int ∧ Tg.resolve (Lib.itoa n ++ [122]) = .str ∧ Tg.resolve (Lib.itoa n ++ [46]) = .flt := by
  obtain ⟨sg, A, h, hsg, hA⟩ := itoa_form n
  rw [h]
  have h1 := num_tag (F := []) (X := []) hsg hA ⟨Or.inl rfl, Or.inl rfl⟩
  have h2 := num_tag (F := [46]) (X := []) hsg hA ⟨Or.inr ⟨[], rfl, rfl⟩, Or.inl rfl⟩
  refine ⟨?_, ?_, ?_⟩
  · have := h1.1; simpa using this
  · have := h1.2 122 (by decide) (by decide) (by decide) (by decide) (by decide) (by decide); simpa using this
  · have := h2.1; simpa using this
/-- what the law asks of a number that is written out -/
theorem num_law {o : List UInt8} (h : Num o) : ∃ b : Bool, Lib.containsAny o [46, 101, 69] = b ∧ Tg.resolve o = (if b = true then .flt else .int) ∧ Tg.resolve (o ++ [95]) = .str ∧ ∀ x ∈ o, x.toNat < 128 := by
  obtain ⟨sg, A, F, X, rfl, hsg, hA, hF, hX⟩ := h
  have ht := num_tag hsg hA ⟨hF, hX⟩
  have hdig : ∀ l : List UInt8, DG l → (l.any ([46, 101, 69].contains ·)) = false ∧ ∀ x ∈ l, x.toNat < 128 := by
    intro l hl
    have hm := Tg.mem_dg hl
    have key : ∀ x : UInt8, Tg.dg 10 x = true → ([46, 101, 69] : List UInt8).contains x = false ∧ x.toNat < 128 := fun x => by
      revert x; exact Tg.forall_u8 (by decide +kernel)
    refine ⟨?_, fun x hx => (key x (hm x hx)).2⟩
    rw [List.any_eq_false]
    intro x hx
    rw [(key x (hm x hx)).1]; simp
  have hsa : (sg.any ([46, 101, 69].contains ·)) = false ∧ ∀ x ∈ sg, x.toNat < 128 := by
    rcases hsg with rfl | rfl
    · exact ⟨rfl, by simp⟩
    · exact ⟨rfl, by decide⟩
  refine ⟨_, rfl, ?_, ?_, ?_⟩
  · rw [ht.1, any_eq, List.any_append, List.any_append, List.any_append, hsa.1, (hdig A hA.1).1, Bool.false_or, Bool.false_or]
    rcases hF with rfl | ⟨Y, rfl, hY⟩
    · rcases hX with rfl | ⟨c, s, Y, rfl, hc, hs, hY⟩
      · rfl
      · rcases hc with rfl | rfl <;> simp
    · simp
  · exact ht.2 95 (by decide) (by decide) (by decide) (by decide) (by decide) (by decide)
  · intro x hx
    rw [List.mem_append, List.mem_append, List.mem_append] at hx
    rcases hx with hx | hx | hx | hx
    · exact hsa.2 x hx
    · exact (hdig A hA.1).2 x hx
    · rcases hF with rfl | ⟨Y, rfl, hY⟩
      · cases hx
      · rw [List.mem_cons] at hx
        rcases hx with rfl | hx
        · decide
        · exact (hdig Y hY).2 x hx
    · rcases hX with rfl | ⟨c, s, Y, rfl, hc, hs, hY⟩
      · cases hx
      · rw [List.mem_cons, List.mem_cons] at hx
        rcases hx with rfl | rfl | hx
        · rcases hc with rfl | rfl <;> decide
        · rcases hs with rfl | rfl <;> decide
        · exact (hdig Y hY.1).2 x hx
theorem res_at (s : ByteArray) (k : Tg.K) (w : World) (hs : s.size ≤ 1000000) (h : Tg.resolve s.data.toList = k) :
    Calls Tryd.prog 6 #[.string s] w fun e w' => e = .returned (.string (kS k)) ∧ w = w' := by
  have c := resolve_any s w hs
  rw [h] at c
  exact c
theorem add_size (a s : ByteArray) : (a ++ s).size = a.size + s.size := by
  rw [Lib.size_eq, app_data, List.length_append, ← Lib.size_eq, ← Lib.size_eq]
theorem fint_any (n : Int) (h0 : -9223372036854775808 ≤ n) (h1 : n ≤ 9223372036854775807) (w : World) (hE : Env w) :
    Calls Tryd.prog 5 #[.int .i64 n, .int .i64 10] w fun e w' => e = .returned (.string (str (Lib.itoa n))) ∧ Below w.heap.size w w' := by
  refine (Tryd.strconv_FormatInt_10 n h0 h1 w hE.t10.tab).mono ?_
  rintro e w' ⟨rfl, k, os, rfl⟩
  refine ⟨rfl, ⟨rfl, rfl, rfl, by simp [grow], fun j hj => ?_⟩⟩
  show (w.heap ++ os)[j]? = w.heap[j]?
  rw [Array.getElem?_append_left hj]
theorem flt_fits (o : List UInt8) (b : Bool) (h : Tg.resolve o = (if b = true then .flt else .int)) : Tg.fits Tg.K.flt.w o = true := by
  unfold Tg.fits
  rw [h]
  cases b <;> decide
theorem alloc_below' (w : World) (o : Obj) : Below w.heap.size w (w.alloc o) := (Below.refl _ w).alloc (Nat.le_refl _) o
theorem cont_any (o : List UInt8) (w : World) (hol : o.length ≤ 2000) (hasc : ∀ x ∈ o, x.toNat < 128) :
    Calls Tryd.prog 11 #[.string (str o), .string ⟨#[46, 101, 69]⟩] w fun e w' => e = .returned (.bool (Lib.containsAny o [46, 101, 69])) ∧ Below w.heap.size w w' :=
  Tryd.strings_ContainsAny_laid (str o) ⟨#[46, 101, 69]⟩ w (by rw [str_size]; omega) (by decide) (fun j b hb => hasc b (List.mem_of_getElem? hb)) (fun j b hb => by
    have := List.mem_of_getElem? hb
    have hm : b ∈ ([46, 101, 69] : List UInt8) := this
    simp at hm
    rcases hm with rfl | rfl | rfl <;> decide)
theorem fits_flt (s : ByteArray) (w : World) (hs : s.size ≤ 1000000) (h : Tg.fits Tg.K.flt.w s.data.toList = true) :
    Calls Tryd.prog 12 #[.string ⟨#[102, 108, 111, 97, 116]⟩, .string s] w fun e w' => e = .returned (.bool true) ∧ Below w.heap.size w w' := by
  have c := fits_any ⟨#[102, 108, 111, 97, 116]⟩ s w (by decide) hs
  rw [show (⟨#[102, 108, 111, 97, 116]⟩ : ByteArray).data.toList = Tg.K.flt.w from rfl, h] at c
  exact c

set_option maxHeartbeats 4000000 in
set_option maxRecDepth 100000 in
theorem nums_walk (n : Int) (X : Nat) (F : Int) (w : World) (hn0 : -9223372036854775808 ≤ n) (hn1 : n ≤ 9223372036854775807) (hX : X < 18446744073709551616) (hF0 : 0 ≤ F) (hF1 : F ≤ 255) (hE : Env w) :
    Calls Tryd.prog 3 #[.int .i64 n, .float .f64 X, .int .u8 F] w fun e w' => e = .returned (.bool true) ∧ Below w.heap.size w w' := by
  have cA := alive_any w
  obtain ⟨t1, t2, t3⟩ := itoa_tags n
  have hlen : (Lib.itoa n).length ≤ 21 := Lib.itoa_length_le n hn0 hn1
  obtain ⟨u, hu⟩ : ∃ u : Nat, IntKind.u64.wrap n = (u : Int) := ⟨(IntKind.u64.wrap n).toNat, by have := (u64_wrap n).1; omega⟩
  have hu2 : u < 18446744073709551616 := by have := (u64_wrap n).2; rw [hu] at this; omega
  have CI := Lib.hid (fun w1 (h : Env w1) => fint_any n hn0 hn1 w1 h)
  generalize Lib.itoa n = s at *
  have CR1 := Lib.hid (fun w1 => res_at (str s) .int w1 (by rw [str_size]; omega) t1)
  have CR2 := Lib.hid (fun w1 => res_at (str s ++ ⟨#[122]⟩) .str w1 (by rw [add_size, str_size]; show s.length + 1 ≤ 1000000; omega) (by rw [app_data]; exact t2))
  have CR3 := Lib.hid (fun w1 => res_at (str s ++ ⟨#[46]⟩) .flt w1 (by rw [add_size, str_size]; show s.length + 1 ≤ 1000000; omega) (by rw [app_data]; exact t3))
  have CX := Lib.hid (fun w1 (h : Env w1) => fuint16 u w1 hu2 h.c16)
  have CO := Lib.hid (fun w1 (h : Env w1) => fuint8 u w1 hu2 h.c8)
  have CN := Lib.hid (fun w1 => nan_any X w1)
  have CF := Lib.hid (fun w1 => inf_any X w1)
  have HE := Lib.hid hE
  unfold kS at CR1 CR2 CR3
  have hss : (str s).size ≤ 21 := by rw [str_size]; exact hlen
  clear hE t1 t2 t3 hlen
  go_enter Tryd.func3, Tryd.ntmps3
  go_wp2_with fail
  refine cA.mono ?_
  rintro e w1 ⟨rfl, hb⟩
  have HE1 := Lib.hid (HE.out.below hb HE.out.size)
  go_wp2_with fail
  refine (CI.out w1 HE1.out).mono ?_
  rintro e w2 ⟨rfl, hb2⟩
  have HE2 := Lib.hid (HE1.out.below hb2 HE1.out.size)
  replace hb := Below.then hb hb2
  clear hb2
  go_wp2_with fail
  refine (CR1.out _).mono ?_
  rintro e w3 ⟨rfl, rfl⟩
  go_wp2_with fail
  refine (CX.out w2 HE2.out).mono ?_
  rintro e w3 ⟨⟨lx, rfl, hlx⟩, hb3⟩
  have HE3 := Lib.hid (HE2.out.below hb3 HE2.out.size)
  replace hb := Below.then hb hb3
  clear hb3
  have CR4 := Lib.hid (fun w1 => res_at (⟨#[48, 120]⟩ ++ str lx) .int w1 (by rw [add_size, str_size]; have := hlx.2.2; show 2 + lx.length ≤ 1000000; omega) (by rw [app_data]; exact hex_tag ⟨hlx.1, hlx.2.1⟩))
  unfold kS at CR4
  have hsx : (str lx).size ≤ 65 := by rw [str_size]; exact hlx.2.2
  clear hlx
  go_wp2_with fail
  refine (CR4.out _).mono ?_
  rintro e w4 ⟨rfl, rfl⟩
  go_wp2_with fail
  refine (CO.out w3 HE3.out).mono ?_
  rintro e w4 ⟨⟨lo, rfl, hlo⟩, hb4⟩
  have HE4 := Lib.hid (HE3.out.below hb4 HE3.out.size)
  replace hb := Below.then hb hb4
  clear hb4
  have CR5 := Lib.hid (fun w1 => res_at (⟨#[48, 111]⟩ ++ str lo) .int w1 (by rw [add_size, str_size]; have := hlo.2.2; show 2 + lo.length ≤ 1000000; omega) (by rw [app_data]; exact oct_tag ⟨hlo.1, hlo.2.1⟩))
  unfold kS at CR5
  have hso : (str lo).size ≤ 65 := by rw [str_size]; exact hlo.2.2
  clear hlo
  go_wp2_with fail
  refine (CR5.out _).mono ?_
  rintro e w5 ⟨rfl, rfl⟩
  go_wp2_with fail
  refine (CR2.out _).mono ?_
  rintro e w5 ⟨rfl, rfl⟩
  go_wp2_with fail
  refine (CR3.out _).mono ?_
  rintro e w5 ⟨rfl, rfl⟩
  clear CR1 CR2 CR3 CR4 CR5 CX CO CI
  go_wp2_with fail
  refine (CN.out _).mono ?_
  rintro e w5 ⟨rfl, rfl⟩
  clear CN
  cases hnan : nanB X
  · go_wp2_with fail
    refine (CF.out _).mono ?_
    rintro e w5 ⟨rfl, rfl⟩
    cases hinf : infB X
    · have hfin := finite X hX hnan hinf
      clear CF hnan hinf
      obtain ⟨r, hr⟩ : ∃ r, F % 4 = r := ⟨_, rfl⟩
      have hr4 : r = 0 ∨ r = 1 ∨ r = 2 ∨ r = 3 := by omega
      rcases hr4 with rfl | rfl | rfl | rfl
      all_goals
        go_wp2_with fail
        refine (ffloat_any X _ _ (by decide) hX hfin (HE4.out.alloc _)).mono ?_
        rintro e w6 ⟨⟨o, rfl, hnum, hol⟩, hb6⟩
        replace hb := Below.then (Below.then hb (alloc_below' _ _)) hb6
        clear hb6
        obtain ⟨b, hc, hr1, hr2, hasc⟩ := num_law hnum
        have hos : (str o).size ≤ 2000 := by rw [str_size]; exact hol
        have CA := Lib.hid (cont_any o w6 hol hasc)
        rw [hc] at CA
        have CR6 := Lib.hid (fun w1 => res_at (str o) _ w1 (by omega) hr1)
        have CR7 := Lib.hid (fun w1 => res_at (str o ++ ⟨#[95]⟩) .str w1 (by rw [add_size]; show (str o).size + 1 ≤ 1000000; omega) (by rw [app_data]; exact hr2))
        have CT := Lib.hid (fun w1 => fits_flt (str o) w1 (by omega) (flt_fits o b hr1))
        clear hc hr1 hr2 hasc hnum hol hfin
        cases b
        · simp only [Bool.false_eq_true, if_false] at CR6
          unfold kS at CR6 CR7
          go_wp2_with fail
          refine CA.out.mono ?_
          rintro e w7 ⟨rfl, hb7⟩
          replace hb := Below.then hb hb7
          clear hb7
          go_wp2_with fail
          refine (CR6.out _).mono ?_
          rintro e w8 ⟨rfl, rfl⟩
          go_wp2_with fail
          refine (CT.out _).mono ?_
          rintro e w8 ⟨rfl, hb8⟩
          replace hb := Below.then hb hb8
          clear hb8
          go_wp2_with fail
          refine (CR7.out _).mono ?_
          rintro e w9 ⟨rfl, rfl⟩
          go_wp2
          go_ret
          exact ⟨rfl, hb⟩
        · simp only [if_true] at CR6
          unfold kS at CR6 CR7
          go_wp2_with fail
          refine CA.out.mono ?_
          rintro e w7 ⟨rfl, hb7⟩
          replace hb := Below.then hb hb7
          clear hb7
          go_wp2_with fail
          refine (CR6.out _).mono ?_
          rintro e w8 ⟨rfl, rfl⟩
          go_wp2_with fail
          refine (CT.out _).mono ?_
          rintro e w8 ⟨rfl, hb8⟩
          replace hb := Below.then hb hb8
          clear hb8
          go_wp2_with fail
          refine (CR7.out _).mono ?_
          rintro e w9 ⟨rfl, rfl⟩
          go_wp2
          go_ret
          exact ⟨rfl, hb⟩
    · go_wp2
      go_ret
      exact ⟨rfl, hb⟩
  · go_wp2
    go_ret
    exact ⟨rfl, hb⟩
end Go.Proofs.YtegkdlimkgfheaaDoor
