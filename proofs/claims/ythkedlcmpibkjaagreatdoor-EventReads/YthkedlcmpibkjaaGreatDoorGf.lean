/-
  The walk of the document's line.
  The walk of the document's Print; the walk of EventTells.
-/
import Derived.Test.YthkedlcmpibkjaaGreatDoorGe
namespace Go.Proofs.YthkedlcmpibkjaaGreatDoor
open Go.RowKit
theorem wordL (l : List UInt8) (w : World) (hl : l.length ≤ 5000) : Calls Tryz.prog 47 #[.string (str l)] w fun e w' => e = .returned (.string (str (Tg.word l))) ∧ Below w.heap.size w w' := by
  rw [Tg.word_eq]; exact Tag.wordR_any (str l) w (by rw [str_len]; omega)
theorem quoteL (l : List UInt8) (w : World) (hl : l.length ≤ 5000) : Calls Tryz.prog 51 #[.string (str l)] w fun e w' => e = .returned (.string (str (quoteOf l))) ∧ Below w.heap.size w w' := quoteR_any (str l) w (by rw [str_len]; omega)
theorem str_size_le (l : List UInt8) (n : Nat) (h : l.length ≤ n) : (str l).size ≤ n := by rw [str_len]; exact h
/-- the signs lie in the second new block -/
theorem sign_laid (w : World) (o : Obj) (k : Nat) (hk : k < 8) : ((w.alloc o).alloc (.cells #[.string ⟨#[43, 100, 111, 99]⟩, .string ⟨#[45, 100, 111, 99]⟩, .string ⟨#[43, 115, 101, 113]⟩, .string ⟨#[45, 115, 101, 113]⟩, .string ⟨#[43, 109, 97, 112]⟩, .string ⟨#[45, 109, 97, 112]⟩, .string ⟨#[61, 118, 97, 108]⟩, .string ⟨#[61, 97, 108, 105]⟩] 9)).cell? ⟨w.heap.size + 1, k, none⟩ = some (.string (str (Ev.sign k))) :=
  cell_blk (two_blk' w o (.cells signCells 9)) k _ (sign_cell ⟨k, hk⟩)
theorem sign_sz (k : Nat) : (str (Ev.sign k)).size ≤ 4 := str_size_le _ _ (sign_len k)

set_option maxHeartbeats 4000000 in
set_option maxRecDepth 100000 in
theorem line7 (an tg tx : List UInt8) (pl : Bool) (w : World) (ha : an.length ≤ 5000) (_ht : tg.length ≤ 5000) (_hx : tx.length ≤ 5000) :
    Calls Tryz.prog 29 #[.agg #[.int .i64 7, .string (str an), .string (str tg), .string (str tx), .bool pl]] w fun e w' => e = .returned (.string (str (Ev.line ⟨7, an, tg, tx, pl⟩))) ∧ Below w.heap.size w w' := by
  have cS := sign_laid w (.cells #[.int .i64 7, .string (str an), .string (str tg), .string (str tx), .bool pl] 42) 7 (by decide)
  have HF : Hid (((str (Ev.sign 7) ++ ⟨#[32, 42]⟩) ++ str an) = str (Ev.line ⟨7, an, tg, tx, pl⟩)) := Tag.to_str (by simp [Ev.line, str_dat])
  have zS := sign_sz 7
  have zA := str_size_le an 5000 ha
  generalize str (Ev.line _) = RES at *
  generalize str (Ev.sign 7) = S at *
  go_enter Tryz.func29, Tryz.ntmps29
  go_wp2
  go_ret
  exact ⟨Tag.ret_str HF.out, bthen (bnew w _) (bnew _ _)⟩
set_option maxHeartbeats 4000000 in
set_option maxRecDepth 100000 in
theorem line6 (an tg tx : List UInt8) (pl : Bool) (w : World) (ha : an.length ≤ 5000) (ht : tg.length ≤ 5000) (hx : tx.length ≤ 5000) :
    Calls Tryz.prog 29 #[.agg #[.int .i64 6, .string (str an), .string (str tg), .string (str tx), .bool pl]] w fun e w' => e = .returned (.string (str (Ev.line ⟨6, an, tg, tx, pl⟩))) ∧ Below w.heap.size w w' := by
  have cS := sign_laid w (.cells #[.int .i64 6, .string (str an), .string (str tg), .string (str tx), .bool pl] 42) 6 (by decide)
  have cW := Lib.hid (fun w => wordL tg w ht)
  have cQ := Lib.hid (fun w => quoteL tx w hx)
  cases an with
  | nil =>
    rw [str_nil] at cS ⊢
    cases tg with
    | nil =>
      rw [str_nil] at cS ⊢
      cases pl
      · have HF : Hid (((str (Ev.sign 6) ++ ⟨#[32]⟩) ++ str (quoteOf tx)) = str (Ev.line ⟨6, [], [], tx, false⟩)) := Tag.to_str (by simp [Ev.line, Ev.anchorW, Ev.tagW, Ev.textW, str_dat])
        have zS := sign_sz 6
        have zQ := str_size_le (quoteOf tx) 60000 (by have := quote_len tx; omega)
        generalize str (Ev.line _) = RES at *
        generalize str (Ev.sign 6) = S at *
        generalize str (quoteOf tx) = SQ at *
        go_enter Tryz.func29, Tryz.ntmps29
        go_wp2_with (go_at_call 51; refine (cQ.out _).mono ?_; rintro e w3 ⟨rfl, hb3⟩)
        go_ret
        exact ⟨Tag.ret_str HF.out, bthen (bthen (bnew w _) (bnew _ _)) hb3⟩
      · have HF : Hid ((((str (Ev.sign 6) ++ ⟨#[32]⟩) ++ ⟨#[58]⟩) ++ str (quoteOf tx)) = str (Ev.line ⟨6, [], [], tx, true⟩)) := Tag.to_str (by simp [Ev.line, Ev.anchorW, Ev.tagW, Ev.textW, str_dat])
        have zS := sign_sz 6
        have zQ := str_size_le (quoteOf tx) 60000 (by have := quote_len tx; omega)
        generalize str (Ev.line _) = RES at *
        generalize str (Ev.sign 6) = S at *
        generalize str (quoteOf tx) = SQ at *
        go_enter Tryz.func29, Tryz.ntmps29
        go_wp2_with (go_at_call 51; refine (cQ.out _).mono ?_; rintro e w3 ⟨rfl, hb3⟩)
        go_ret
        exact ⟨Tag.ret_str HF.out, bthen (bthen (bnew w _) (bnew _ _)) hb3⟩
    | cons t tt =>
      have et := ba_isEmpty (str (t :: tt)) (by rw [str_len]; simp)
      have nt := ba_notnil (str (t :: tt)) (by rw [str_len]; simp)
      cases pl
      · have HF : Hid (((((str (Ev.sign 6) ++ ⟨#[32]⟩) ++ str (Tg.word (t :: tt))) ++ ⟨#[32]⟩) ++ str (quoteOf tx)) = str (Ev.line ⟨6, [], (t :: tt), tx, false⟩)) := Tag.to_str (by simp [Ev.line, Ev.anchorW, Ev.tagW, Ev.textW, str_dat])
        have zS := sign_sz 6
        have zW := str_size_le (Tg.word (t :: tt)) 6000 (by have := word_len (t :: tt); omega)
        have zQ := str_size_le (quoteOf tx) 60000 (by have := quote_len tx; omega)
        generalize str (Ev.line _) = RES at *
        generalize str (Ev.sign 6) = S at *
        generalize str (Tg.word (t :: tt)) = SW at *
        generalize str (quoteOf tx) = SQ at *
        go_enter Tryz.func29, Tryz.ntmps29
        go_wp2_with (first | (go_at_call 47; refine (cW.out _).mono ?_; rintro e w2 ⟨rfl, hb2⟩; have hd2 := blk_below (two_blk w _ _) hb2; obtain ⟨⟨d0, d1, d2, d3, d4⟩, _⟩ := five hd2) | (go_at_call 51; refine (cQ.out _).mono ?_; rintro e w3 ⟨rfl, hb3⟩))
        go_ret
        exact ⟨Tag.ret_str HF.out, bthen (bthen (bthen (bnew w _) (bnew _ _)) hb2) hb3⟩
      · have HF : Hid ((((((str (Ev.sign 6) ++ ⟨#[32]⟩) ++ str (Tg.word (t :: tt))) ++ ⟨#[32]⟩) ++ ⟨#[58]⟩) ++ str (quoteOf tx)) = str (Ev.line ⟨6, [], (t :: tt), tx, true⟩)) := Tag.to_str (by simp [Ev.line, Ev.anchorW, Ev.tagW, Ev.textW, str_dat])
        have zS := sign_sz 6
        have zW := str_size_le (Tg.word (t :: tt)) 6000 (by have := word_len (t :: tt); omega)
        have zQ := str_size_le (quoteOf tx) 60000 (by have := quote_len tx; omega)
        generalize str (Ev.line _) = RES at *
        generalize str (Ev.sign 6) = S at *
        generalize str (Tg.word (t :: tt)) = SW at *
        generalize str (quoteOf tx) = SQ at *
        go_enter Tryz.func29, Tryz.ntmps29
        go_wp2_with (first | (go_at_call 47; refine (cW.out _).mono ?_; rintro e w2 ⟨rfl, hb2⟩; have hd2 := blk_below (two_blk w _ _) hb2; obtain ⟨⟨d0, d1, d2, d3, d4⟩, _⟩ := five hd2) | (go_at_call 51; refine (cQ.out _).mono ?_; rintro e w3 ⟨rfl, hb3⟩))
        go_ret
        exact ⟨Tag.ret_str HF.out, bthen (bthen (bthen (bnew w _) (bnew _ _)) hb2) hb3⟩
  | cons a at_ =>
    have ea := ba_isEmpty (str (a :: at_)) (by rw [str_len]; simp)
    have na := ba_notnil (str (a :: at_)) (by rw [str_len]; simp)
    cases tg with
    | nil =>
      rw [str_nil] at cS ⊢
      cases pl
      · have HF : Hid (((((str (Ev.sign 6) ++ ⟨#[32, 38]⟩) ++ str (a :: at_)) ++ ⟨#[32]⟩) ++ str (quoteOf tx)) = str (Ev.line ⟨6, (a :: at_), [], tx, false⟩)) := Tag.to_str (by simp [Ev.line, Ev.anchorW, Ev.tagW, Ev.textW, str_dat])
        have zS := sign_sz 6
        have zA := str_size_le (a :: at_) 5000 ha
        have zQ := str_size_le (quoteOf tx) 60000 (by have := quote_len tx; omega)
        generalize str (Ev.line _) = RES at *
        generalize str (Ev.sign 6) = S at *
        generalize str (quoteOf tx) = SQ at *
        go_enter Tryz.func29, Tryz.ntmps29
        go_wp2_with (go_at_call 51; refine (cQ.out _).mono ?_; rintro e w3 ⟨rfl, hb3⟩)
        go_ret
        exact ⟨Tag.ret_str HF.out, bthen (bthen (bnew w _) (bnew _ _)) hb3⟩
      · have HF : Hid ((((((str (Ev.sign 6) ++ ⟨#[32, 38]⟩) ++ str (a :: at_)) ++ ⟨#[32]⟩) ++ ⟨#[58]⟩) ++ str (quoteOf tx)) = str (Ev.line ⟨6, (a :: at_), [], tx, true⟩)) := Tag.to_str (by simp [Ev.line, Ev.anchorW, Ev.tagW, Ev.textW, str_dat])
        have zS := sign_sz 6
        have zA := str_size_le (a :: at_) 5000 ha
        have zQ := str_size_le (quoteOf tx) 60000 (by have := quote_len tx; omega)
        generalize str (Ev.line _) = RES at *
        generalize str (Ev.sign 6) = S at *
        generalize str (quoteOf tx) = SQ at *
        go_enter Tryz.func29, Tryz.ntmps29
        go_wp2_with (go_at_call 51; refine (cQ.out _).mono ?_; rintro e w3 ⟨rfl, hb3⟩)
        go_ret
        exact ⟨Tag.ret_str HF.out, bthen (bthen (bnew w _) (bnew _ _)) hb3⟩
    | cons t tt =>
      have et := ba_isEmpty (str (t :: tt)) (by rw [str_len]; simp)
      have nt := ba_notnil (str (t :: tt)) (by rw [str_len]; simp)
      cases pl
      · have HF : Hid (((((((str (Ev.sign 6) ++ ⟨#[32, 38]⟩) ++ str (a :: at_)) ++ ⟨#[32]⟩) ++ str (Tg.word (t :: tt))) ++ ⟨#[32]⟩) ++ str (quoteOf tx)) = str (Ev.line ⟨6, (a :: at_), (t :: tt), tx, false⟩)) := Tag.to_str (by simp [Ev.line, Ev.anchorW, Ev.tagW, Ev.textW, str_dat])
        have zS := sign_sz 6
        have zA := str_size_le (a :: at_) 5000 ha
        have zW := str_size_le (Tg.word (t :: tt)) 6000 (by have := word_len (t :: tt); omega)
        have zQ := str_size_le (quoteOf tx) 60000 (by have := quote_len tx; omega)
        generalize str (Ev.line _) = RES at *
        generalize str (Ev.sign 6) = S at *
        generalize str (Tg.word (t :: tt)) = SW at *
        generalize str (quoteOf tx) = SQ at *
        go_enter Tryz.func29, Tryz.ntmps29
        go_wp2_with (first | (go_at_call 47; refine (cW.out _).mono ?_; rintro e w2 ⟨rfl, hb2⟩; have hd2 := blk_below (two_blk w _ _) hb2; obtain ⟨⟨d0, d1, d2, d3, d4⟩, _⟩ := five hd2) | (go_at_call 51; refine (cQ.out _).mono ?_; rintro e w3 ⟨rfl, hb3⟩))
        go_ret
        exact ⟨Tag.ret_str HF.out, bthen (bthen (bthen (bnew w _) (bnew _ _)) hb2) hb3⟩
      · have HF : Hid ((((((((str (Ev.sign 6) ++ ⟨#[32, 38]⟩) ++ str (a :: at_)) ++ ⟨#[32]⟩) ++ str (Tg.word (t :: tt))) ++ ⟨#[32]⟩) ++ ⟨#[58]⟩) ++ str (quoteOf tx)) = str (Ev.line ⟨6, (a :: at_), (t :: tt), tx, true⟩)) := Tag.to_str (by simp [Ev.line, Ev.anchorW, Ev.tagW, Ev.textW, str_dat])
        have zS := sign_sz 6
        have zA := str_size_le (a :: at_) 5000 ha
        have zW := str_size_le (Tg.word (t :: tt)) 6000 (by have := word_len (t :: tt); omega)
        have zQ := str_size_le (quoteOf tx) 60000 (by have := quote_len tx; omega)
        generalize str (Ev.line _) = RES at *
        generalize str (Ev.sign 6) = S at *
        generalize str (Tg.word (t :: tt)) = SW at *
        generalize str (quoteOf tx) = SQ at *
        go_enter Tryz.func29, Tryz.ntmps29
        go_wp2_with (first | (go_at_call 47; refine (cW.out _).mono ?_; rintro e w2 ⟨rfl, hb2⟩; have hd2 := blk_below (two_blk w _ _) hb2; obtain ⟨⟨d0, d1, d2, d3, d4⟩, _⟩ := five hd2) | (go_at_call 51; refine (cQ.out _).mono ?_; rintro e w3 ⟨rfl, hb3⟩))
        go_ret
        exact ⟨Tag.ret_str HF.out, bthen (bthen (bthen (bnew w _) (bnew _ _)) hb2) hb3⟩
set_option maxHeartbeats 4000000 in
set_option maxRecDepth 100000 in
theorem lineN (n : Nat) (an tg tx : List UInt8) (pl : Bool) (w : World) (ha : an.length ≤ 5000) (ht : tg.length ≤ 5000) (_hx : tx.length ≤ 5000) (hn : n < 6) :
    Calls Tryz.prog 29 #[.agg #[.int .i64 (n : Int), .string (str an), .string (str tg), .string (str tx), .bool pl]] w fun e w' => e = .returned (.string (str (Ev.line ⟨(n : Int), an, tg, tx, pl⟩))) ∧ Below w.heap.size w w' := by
  have cS := sign_laid w (.cells #[.int .i64 (n : Int), .string (str an), .string (str tg), .string (str tx), .bool pl] 42) n (by omega)
  have n6 : ¬ (n : Int) = 6 := by omega
  have n7 : ¬ (n : Int) = 7 := by omega
  have b6 : ((n : Int) == 6) = false := beq_eq_false_iff_ne.2 n6
  have b7 : ((n : Int) == 7) = false := beq_eq_false_iff_ne.2 n7
  have i0 : (0 : Int) ≤ (n : Int) := by omega
  have i8 : (n : Int) < 8 := by omega
  have cW := Lib.hid (fun w => wordL tg w ht)
  cases an with
  | nil =>
    rw [str_nil] at cS ⊢
    cases tg with
    | nil =>
      rw [str_nil] at cS ⊢
      have HF : Hid (str (Ev.sign n) = str (Ev.line ⟨(n : Int), [], [], tx, pl⟩)) := Tag.to_str (by simp [Ev.line, Ev.anchorW, Ev.tagW, Ev.textW, str_dat, n6, n7])
      have zS := sign_sz n
      generalize str (Ev.line _) = RES at *
      generalize str (Ev.sign n) = S at *
      go_enter Tryz.func29, Tryz.ntmps29
      go_wp2
      go_ret
      exact ⟨Tag.ret_str HF.out, bthen (bnew w _) (bnew _ _)⟩
    | cons t tt =>
      have et := ba_isEmpty (str (t :: tt)) (by rw [str_len]; simp)
      have nt := ba_notnil (str (t :: tt)) (by rw [str_len]; simp)
      have HF : Hid (((str (Ev.sign n) ++ ⟨#[32]⟩) ++ str (Tg.word (t :: tt))) = str (Ev.line ⟨(n : Int), [], (t :: tt), tx, pl⟩)) := Tag.to_str (by simp [Ev.line, Ev.anchorW, Ev.tagW, Ev.textW, str_dat, n6, n7])
      have zS := sign_sz n
      have zW := str_size_le (Tg.word (t :: tt)) 6000 (by have := word_len (t :: tt); omega)
      generalize str (Ev.line _) = RES at *
      generalize str (Ev.sign n) = S at *
      generalize str (Tg.word (t :: tt)) = SW at *
      go_enter Tryz.func29, Tryz.ntmps29
      go_wp2_with (go_at_call 47; refine (cW.out _).mono ?_; rintro e w2 ⟨rfl, hb2⟩; have hd2 := blk_below (two_blk w _ _) hb2; obtain ⟨⟨d0, d1, d2, d3, d4⟩, _⟩ := five hd2)
      go_ret
      exact ⟨Tag.ret_str HF.out, bthen (bthen (bnew w _) (bnew _ _)) hb2⟩
  | cons a at_ =>
    have ea := ba_isEmpty (str (a :: at_)) (by rw [str_len]; simp)
    have na := ba_notnil (str (a :: at_)) (by rw [str_len]; simp)
    cases tg with
    | nil =>
      rw [str_nil] at cS ⊢
      have HF : Hid (((str (Ev.sign n) ++ ⟨#[32, 38]⟩) ++ str (a :: at_)) = str (Ev.line ⟨(n : Int), (a :: at_), [], tx, pl⟩)) := Tag.to_str (by simp [Ev.line, Ev.anchorW, Ev.tagW, Ev.textW, str_dat, n6, n7])
      have zS := sign_sz n
      have zA := str_size_le (a :: at_) 5000 ha
      generalize str (Ev.line _) = RES at *
      generalize str (Ev.sign n) = S at *
      go_enter Tryz.func29, Tryz.ntmps29
      go_wp2
      go_ret
      exact ⟨Tag.ret_str HF.out, bthen (bnew w _) (bnew _ _)⟩
    | cons t tt =>
      have et := ba_isEmpty (str (t :: tt)) (by rw [str_len]; simp)
      have nt := ba_notnil (str (t :: tt)) (by rw [str_len]; simp)
      have HF : Hid (((((str (Ev.sign n) ++ ⟨#[32, 38]⟩) ++ str (a :: at_)) ++ ⟨#[32]⟩) ++ str (Tg.word (t :: tt))) = str (Ev.line ⟨(n : Int), (a :: at_), (t :: tt), tx, pl⟩)) := Tag.to_str (by simp [Ev.line, Ev.anchorW, Ev.tagW, Ev.textW, str_dat, n6, n7])
      have zS := sign_sz n
      have zA := str_size_le (a :: at_) 5000 ha
      have zW := str_size_le (Tg.word (t :: tt)) 6000 (by have := word_len (t :: tt); omega)
      generalize str (Ev.line _) = RES at *
      generalize str (Ev.sign n) = S at *
      generalize str (Tg.word (t :: tt)) = SW at *
      go_enter Tryz.func29, Tryz.ntmps29
      go_wp2_with (go_at_call 47; refine (cW.out _).mono ?_; rintro e w2 ⟨rfl, hb2⟩; have hd2 := blk_below (two_blk w _ _) hb2; obtain ⟨⟨d0, d1, d2, d3, d4⟩, _⟩ := five hd2)
      go_ret
      exact ⟨Tag.ret_str HF.out, bthen (bthen (bnew w _) (bnew _ _)) hb2⟩
theorem lineR_any (x : Ev.E) (w : World) (hs : x.anchor.length ≤ 5000 ∧ x.tag.length ≤ 5000 ∧ x.text.length ≤ 5000) (h0 : 0 ≤ x.kind) (h8 : x.kind < 8) :
    Calls Tryz.prog 29 #[.agg #[.int .i64 x.kind, .string (str x.anchor), .string (str x.tag), .string (str x.text), .bool x.plain]] w fun e w' => e = .returned (.string (str (Ev.line x))) ∧ Below w.heap.size w w' := by
  obtain ⟨k, an, tg, tx, pl⟩ := x
  obtain ⟨ha, ht, hx⟩ := hs
  simp only at ha ht hx h0 h8 ⊢
  by_cases h7 : k = 7
  · subst h7; exact line7 an tg tx pl w ha ht hx
  · by_cases h6 : k = 6
    · subst h6; exact line6 an tg tx pl w ha ht hx
    · obtain ⟨n, rfl⟩ : ∃ n : Nat, k = (n : Int) := ⟨k.toNat, by omega⟩
      exact lineN n an tg tx pl w ha ht hx (by omega)
end Go.Proofs.YthkedlcmpibkjaaGreatDoor
namespace Go.Proofs.YthkedlcmpibkjaaGreatDoor
open Go.RowKit

set_option maxHeartbeats 4000000 in
set_option maxRecDepth 100000 in
theorem printR_any (v : Value) (es : List Ev.E) (w : World) (h : RdE w w.heap.size v es) (hl : es.length ≤ 4000) (hs : ∀ x ∈ es, x.anchor.length ≤ 5000 ∧ x.tag.length ≤ 5000 ∧ x.text.length ≤ 5000) :
    Calls Tryz.prog 16 #[v] w fun e w' => e = .returned (.string (str (Ev.print es))) ∧ Below w.heap.size w w' := by
  have HR := Lib.hid h
  obtain ⟨a, c, rfl, hc, hcl⟩ := h
  have HC := Lib.hid hcl
  have HS := Lib.hid hs
  have hsm : ∀ x ∈ es, Ev.Small x := fun x hx => by have := hs x hx; exact ⟨by omega, by omega, by omega⟩
  have cR := Lib.hid (rightD_any _ es w HR.out hl hsm)
  clear hs hcl
  unfold Ev.print
  cases hr : Ev.right es
  · rw [hr] at cR
    rw [if_neg (by decide)]
    clear hr hsm
    go_enter Tryz.func16, Tryz.ntmps16
    go_wp2_with (go_at_call 28; refine cR.out.mono ?_; rintro e w1 ⟨rfl, hb1⟩)
    go_ret
    exact ⟨rfl, hb1⟩
  · rw [hr] at cR
    rw [if_pos rfl]
    have HKD := Lib.hid (Ev.right_kinds es hr)
    have HLL := Lib.hid (fun x hx => Ev.line_len x (hsm x hx))
    clear hr hsm
    obtain ⟨ANS, hANS⟩ : ∃ ANS, es.flatMap Ev.lineN = ANS := ⟨_, rfl⟩
    rw [hANS]
    have HA : Hid ([] ++ (es.drop 0).flatMap Ev.lineN = ANS) := by show _ = _; rw [List.drop_zero, List.nil_append]; exact hANS
    clear hANS
    go_enter Tryz.func16, Tryz.ntmps16
    go_wp2_with (go_at_call 28; refine cR.out.mono ?_; rintro e w1 ⟨rfl, hb1⟩)
    go_loopw [3, 4] (fun ov i wr => ∃ (j : Nat) (p : List UInt8), j ≤ es.length ∧ i = .int .i64 j ∧ ov = .string (str p) ∧ p.length ≤ 800000 * j ∧ Hid (p ++ (es.drop j).flatMap Ev.lineN = ANS) ∧ Below w.heap.size w wr) (fun _ i _ => es.length - (intOf i).toNat)
    case atStart => exact ⟨0, [], by omega, rfl, rfl, by simp, HA, hb1⟩
    case round =>
      obtain ⟨j, p, hj, rfl, rfl, hpl, HK, hbw⟩ := hrel
      clear HA
      have hBr := hbw.size
      by_cases hlt : j < es.length
      · obtain ⟨g, o, rfl, hg, hcl⟩ := HC.out (by omega)
        obtain ⟨c0, c1, c2, c3, c4⟩ := (hcl j hlt).below hbw hg
        have hm := List.getElem_mem hlt
        have hK := HK.out
        rw [Ev.flat_drop es j hlt] at hK
        have cL := Lib.hid (fun w => lineR_any es[j] w (HS.out _ hm) (HKD.out _ hm).1 (HKD.out _ hm).2)
        have hll := HLL.out _ hm
        have hz1 : (str p).size ≤ 4000000000 := by rw [str_len]; omega
        have hz2 : (str (Ev.line es[j])).size ≤ 1000000 := by rw [str_len]; omega
        have HT : Hid ((str p ++ str (Ev.line es[j])) ++ ⟨#[10]⟩ = str (p ++ Ev.lineN es[j])) := Tag.to_str (by unfold Ev.lineN; rw [Tag.app_data, Tag.app_data, str_dat, str_dat, List.append_assoc])
        have HN : Hid ((p ++ Ev.lineN es[j]) ++ (es.drop (j + 1)).flatMap Ev.lineN = ANS) := by show _ = _; rw [List.append_assoc]; exact hK
        have hpn : (p ++ Ev.lineN es[j]).length ≤ 800000 * (j + 1) := by unfold Ev.lineN; simp only [List.length_append, List.length_cons, List.length_nil]; omega
        clear hcl HK hK hm hll
        generalize p ++ Ev.lineN es[j] = p2 at *
        generalize str (Ev.line es[j]) = SL at *
        generalize es[j] = x at *
        generalize str p = SP at *
        go_wp2_with (go_at_call 29; refine (cL.out _).mono ?_; rintro e w2 ⟨rfl, hb2⟩)
        go_roundw
        case rel => exact ⟨j + 1, p2, by omega, by go_num, by rw [← HT.out], hpn, HN, bthen hbw hb2⟩
        case measure => simp [intOf]; omega
      · obtain rfl : j = es.length := by omega
        have HD : Hid (str p = str ANS) := by
          have h := HK.out
          rw [List.drop_of_length_le (Nat.le_refl _)] at h
          show _ = _
          rw [← h]; simp
        clear HK
        go_wp2
        go_ret
        exact ⟨Tag.ret_str HD.out, hbw⟩

end Go.Proofs.YthkedlcmpibkjaaGreatDoor
