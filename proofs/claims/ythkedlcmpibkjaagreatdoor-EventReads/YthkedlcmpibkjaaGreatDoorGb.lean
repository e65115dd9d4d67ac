/-
  The walk of the document's field.
-/
import Derived.Test.YthkedlcmpibkjaaGreatDoorGa
namespace Go.Proofs.YthkedlcmpibkjaaGreatDoor
namespace Ev
/-- are the fields of an event as they have to be? -/
def fieldR (x : E) : Bool := decide (0 ≤ x.kind) && (decide (x.kind ≤ 7) && filled x)
end Ev
open Go.RowKit
theorem nameL (l : List UInt8) (w : World) (hl : l.length ≤ 50000) : Calls Tryz.prog 78 #[.string (str l)] w fun e w' => e = .returned (.bool (Lx.name l)) ∧ w = w' := nameR_any (str l) w (by rw [str_len]; omega)
theorem rightL (l : List UInt8) (w : World) (hl : l.length ≤ 50000) : Calls Tryz.prog 79 #[.string (str l)] w fun e w' => e = .returned (.bool (Tg.right l)) ∧ Below w.heap.size w w' := by
  rw [Tg.right_eq]; exact Tag.rightR_any (str l) w (by rw [str_len]; omega)
theorem valid_nil : Lib.validD [] = true := rfl
set_option maxHeartbeats 4000000 in
set_option maxRecDepth 100000 in
theorem field2 (an tg tx : List UInt8) (pl : Bool) (w : World) (ha : an.length ≤ 50000) (ht : tg.length ≤ 50000) (hx : tx.length ≤ 50000) :
    Calls Tryz.prog 48 #[.agg #[.int .i64 2, .string (str an), .string (str tg), .string (str tx), .bool pl]] w fun e w' => e = .returned (.bool (Ev.fieldR ⟨2, an, tg, tx, pl⟩)) ∧ Below w.heap.size w w' := by
  have cN := Lib.hid (fun w => nameL an w ha)
  have cR := Lib.hid (fun w => rightL tg w ht)
  have cX := Lib.hid (fun w => textR_any tx w hx)
  cases an with
  | nil =>
    rw [str_nil] at *
    cases tg with
    | nil =>
      rw [str_nil] at *
      cases tx with
      | cons x xt =>
        have ex := ba_isEmpty (str (x :: xt)) (by rw [str_len]; simp)
        have nx := ba_notnil (str (x :: xt)) (by rw [str_len]; simp)
        rw [show Ev.fieldR _ = false from by simp [Ev.fieldR, Ev.filled, Ev.mayName, Ev.mayTag, *]]
        go_enter Tryz.func48, Tryz.ntmps48
        go_wp2
        go_ret
        exact ⟨rfl, (bnew w _)⟩
      | nil =>
        rw [valid_nil] at cX
        rw [str_nil] at *
        cases pl
        · rw [show Ev.fieldR _ = true from by simp [Ev.fieldR, Ev.filled, Ev.mayName, Ev.mayTag, *]]
          go_enter Tryz.func48, Tryz.ntmps48
          go_wp2_with (go_at_call 80; refine (cX.out _).mono ?_; rintro e w3 ⟨rfl, hb3⟩)
          go_ret
          exact ⟨rfl, (bthen (bnew w _) hb3)⟩
        · rw [show Ev.fieldR _ = false from by simp [Ev.fieldR, Ev.filled, Ev.mayName, Ev.mayTag, *]]
          go_enter Tryz.func48, Tryz.ntmps48
          go_wp2
          go_ret
          exact ⟨rfl, (bnew w _)⟩
    | cons t tt =>
      have et := ba_isEmpty (str (t :: tt)) (by rw [str_len]; simp)
      have nt := ba_notnil (str (t :: tt)) (by rw [str_len]; simp)
      cases hr : Tg.right (t :: tt)
      · rw [hr] at cR
        rw [show Ev.fieldR _ = false from by simp [Ev.fieldR, Ev.filled, Ev.mayName, Ev.mayTag, *]]
        go_enter Tryz.func48, Tryz.ntmps48
        go_wp2_with (go_at_call 79; refine (cR.out _).mono ?_; rintro e w2 ⟨rfl, hb2⟩; have hd2 := blk_below (alloc_blk w _) hb2; obtain ⟨⟨d0, d1, d2, d3, d4⟩, _⟩ := five hd2)
        go_ret
        exact ⟨rfl, (bthen (bnew w _) hb2)⟩
      · rw [hr] at cR
        cases tx with
        | cons x xt =>
          have ex := ba_isEmpty (str (x :: xt)) (by rw [str_len]; simp)
          have nx := ba_notnil (str (x :: xt)) (by rw [str_len]; simp)
          rw [show Ev.fieldR _ = false from by simp [Ev.fieldR, Ev.filled, Ev.mayName, Ev.mayTag, *]]
          go_enter Tryz.func48, Tryz.ntmps48
          go_wp2_with (go_at_call 79; refine (cR.out _).mono ?_; rintro e w2 ⟨rfl, hb2⟩; have hd2 := blk_below (alloc_blk w _) hb2; obtain ⟨⟨d0, d1, d2, d3, d4⟩, _⟩ := five hd2)
          go_ret
          exact ⟨rfl, (bthen (bnew w _) hb2)⟩
        | nil =>
          rw [valid_nil] at cX
          rw [str_nil] at *
          cases pl
          · rw [show Ev.fieldR _ = true from by simp [Ev.fieldR, Ev.filled, Ev.mayName, Ev.mayTag, *]]
            go_enter Tryz.func48, Tryz.ntmps48
            go_wp2_with (first | (go_at_call 79; refine (cR.out _).mono ?_; rintro e w2 ⟨rfl, hb2⟩; have hd2 := blk_below (alloc_blk w _) hb2; obtain ⟨⟨d0, d1, d2, d3, d4⟩, _⟩ := five hd2) | (go_at_call 80; refine (cX.out _).mono ?_; rintro e w3 ⟨rfl, hb3⟩))
            go_ret
            exact ⟨rfl, (bthen (bthen (bnew w _) hb2) hb3)⟩
          · rw [show Ev.fieldR _ = false from by simp [Ev.fieldR, Ev.filled, Ev.mayName, Ev.mayTag, *]]
            go_enter Tryz.func48, Tryz.ntmps48
            go_wp2_with (go_at_call 79; refine (cR.out _).mono ?_; rintro e w2 ⟨rfl, hb2⟩; have hd2 := blk_below (alloc_blk w _) hb2; obtain ⟨⟨d0, d1, d2, d3, d4⟩, _⟩ := five hd2)
            go_ret
            exact ⟨rfl, (bthen (bnew w _) hb2)⟩
  | cons a at_ =>
    have ea := ba_isEmpty (str (a :: at_)) (by rw [str_len]; simp)
    have na := ba_notnil (str (a :: at_)) (by rw [str_len]; simp)
    cases hn : Lx.name (a :: at_)
    · rw [hn] at cN
      rw [show Ev.fieldR _ = false from by simp [Ev.fieldR, Ev.filled, Ev.mayName, Ev.mayTag, *]]
      go_enter Tryz.func48, Tryz.ntmps48
      go_wp2_with (go_at_call 78; refine (cN.out _).mono ?_; rintro e w' ⟨rfl, rfl⟩)
      go_ret
      exact ⟨rfl, (bnew w _)⟩
    · rw [hn] at cN
      cases tg with
      | nil =>
        rw [str_nil] at *
        cases tx with
        | cons x xt =>
          have ex := ba_isEmpty (str (x :: xt)) (by rw [str_len]; simp)
          have nx := ba_notnil (str (x :: xt)) (by rw [str_len]; simp)
          rw [show Ev.fieldR _ = false from by simp [Ev.fieldR, Ev.filled, Ev.mayName, Ev.mayTag, *]]
          go_enter Tryz.func48, Tryz.ntmps48
          go_wp2_with (go_at_call 78; refine (cN.out _).mono ?_; rintro e w' ⟨rfl, rfl⟩)
          go_ret
          exact ⟨rfl, (bnew w _)⟩
        | nil =>
          rw [valid_nil] at cX
          rw [str_nil] at *
          cases pl
          · rw [show Ev.fieldR _ = true from by simp [Ev.fieldR, Ev.filled, Ev.mayName, Ev.mayTag, *]]
            go_enter Tryz.func48, Tryz.ntmps48
            go_wp2_with (first | (go_at_call 78; refine (cN.out _).mono ?_; rintro e w' ⟨rfl, rfl⟩) | (go_at_call 80; refine (cX.out _).mono ?_; rintro e w3 ⟨rfl, hb3⟩))
            go_ret
            exact ⟨rfl, (bthen (bnew w _) hb3)⟩
          · rw [show Ev.fieldR _ = false from by simp [Ev.fieldR, Ev.filled, Ev.mayName, Ev.mayTag, *]]
            go_enter Tryz.func48, Tryz.ntmps48
            go_wp2_with (go_at_call 78; refine (cN.out _).mono ?_; rintro e w' ⟨rfl, rfl⟩)
            go_ret
            exact ⟨rfl, (bnew w _)⟩
      | cons t tt =>
        have et := ba_isEmpty (str (t :: tt)) (by rw [str_len]; simp)
        have nt := ba_notnil (str (t :: tt)) (by rw [str_len]; simp)
        cases hr : Tg.right (t :: tt)
        · rw [hr] at cR
          rw [show Ev.fieldR _ = false from by simp [Ev.fieldR, Ev.filled, Ev.mayName, Ev.mayTag, *]]
          go_enter Tryz.func48, Tryz.ntmps48
          go_wp2_with (first | (go_at_call 78; refine (cN.out _).mono ?_; rintro e w' ⟨rfl, rfl⟩) | (go_at_call 79; refine (cR.out _).mono ?_; rintro e w2 ⟨rfl, hb2⟩; have hd2 := blk_below (alloc_blk w _) hb2; obtain ⟨⟨d0, d1, d2, d3, d4⟩, _⟩ := five hd2))
          go_ret
          exact ⟨rfl, (bthen (bnew w _) hb2)⟩
        · rw [hr] at cR
          cases tx with
          | cons x xt =>
            have ex := ba_isEmpty (str (x :: xt)) (by rw [str_len]; simp)
            have nx := ba_notnil (str (x :: xt)) (by rw [str_len]; simp)
            rw [show Ev.fieldR _ = false from by simp [Ev.fieldR, Ev.filled, Ev.mayName, Ev.mayTag, *]]
            go_enter Tryz.func48, Tryz.ntmps48
            go_wp2_with (first | (go_at_call 78; refine (cN.out _).mono ?_; rintro e w' ⟨rfl, rfl⟩) | (go_at_call 79; refine (cR.out _).mono ?_; rintro e w2 ⟨rfl, hb2⟩; have hd2 := blk_below (alloc_blk w _) hb2; obtain ⟨⟨d0, d1, d2, d3, d4⟩, _⟩ := five hd2))
            go_ret
            exact ⟨rfl, (bthen (bnew w _) hb2)⟩
          | nil =>
            rw [valid_nil] at cX
            rw [str_nil] at *
            cases pl
            · rw [show Ev.fieldR _ = true from by simp [Ev.fieldR, Ev.filled, Ev.mayName, Ev.mayTag, *]]
              go_enter Tryz.func48, Tryz.ntmps48
              go_wp2_with (first | (go_at_call 78; refine (cN.out _).mono ?_; rintro e w' ⟨rfl, rfl⟩) | (go_at_call 79; refine (cR.out _).mono ?_; rintro e w2 ⟨rfl, hb2⟩; have hd2 := blk_below (alloc_blk w _) hb2; obtain ⟨⟨d0, d1, d2, d3, d4⟩, _⟩ := five hd2) | (go_at_call 80; refine (cX.out _).mono ?_; rintro e w3 ⟨rfl, hb3⟩))
              go_ret
              exact ⟨rfl, (bthen (bthen (bnew w _) hb2) hb3)⟩
            · rw [show Ev.fieldR _ = false from by simp [Ev.fieldR, Ev.filled, Ev.mayName, Ev.mayTag, *]]
              go_enter Tryz.func48, Tryz.ntmps48
              go_wp2_with (first | (go_at_call 78; refine (cN.out _).mono ?_; rintro e w' ⟨rfl, rfl⟩) | (go_at_call 79; refine (cR.out _).mono ?_; rintro e w2 ⟨rfl, hb2⟩; have hd2 := blk_below (alloc_blk w _) hb2; obtain ⟨⟨d0, d1, d2, d3, d4⟩, _⟩ := five hd2))
              go_ret
              exact ⟨rfl, (bthen (bnew w _) hb2)⟩
set_option maxHeartbeats 4000000 in
set_option maxRecDepth 100000 in
theorem field4 (an tg tx : List UInt8) (pl : Bool) (w : World) (ha : an.length ≤ 50000) (ht : tg.length ≤ 50000) (hx : tx.length ≤ 50000) :
    Calls Tryz.prog 48 #[.agg #[.int .i64 4, .string (str an), .string (str tg), .string (str tx), .bool pl]] w fun e w' => e = .returned (.bool (Ev.fieldR ⟨4, an, tg, tx, pl⟩)) ∧ Below w.heap.size w w' := by
  have cN := Lib.hid (fun w => nameL an w ha)
  have cR := Lib.hid (fun w => rightL tg w ht)
  have cX := Lib.hid (fun w => textR_any tx w hx)
  cases an with
  | nil =>
    rw [str_nil] at *
    cases tg with
    | nil =>
      rw [str_nil] at *
      cases tx with
      | cons x xt =>
        have ex := ba_isEmpty (str (x :: xt)) (by rw [str_len]; simp)
        have nx := ba_notnil (str (x :: xt)) (by rw [str_len]; simp)
        rw [show Ev.fieldR _ = false from by simp [Ev.fieldR, Ev.filled, Ev.mayName, Ev.mayTag, *]]
        go_enter Tryz.func48, Tryz.ntmps48
        go_wp2
        go_ret
        exact ⟨rfl, (bnew w _)⟩
      | nil =>
        rw [valid_nil] at cX
        rw [str_nil] at *
        cases pl
        · rw [show Ev.fieldR _ = true from by simp [Ev.fieldR, Ev.filled, Ev.mayName, Ev.mayTag, *]]
          go_enter Tryz.func48, Tryz.ntmps48
          go_wp2_with (go_at_call 80; refine (cX.out _).mono ?_; rintro e w3 ⟨rfl, hb3⟩)
          go_ret
          exact ⟨rfl, (bthen (bnew w _) hb3)⟩
        · rw [show Ev.fieldR _ = false from by simp [Ev.fieldR, Ev.filled, Ev.mayName, Ev.mayTag, *]]
          go_enter Tryz.func48, Tryz.ntmps48
          go_wp2
          go_ret
          exact ⟨rfl, (bnew w _)⟩
    | cons t tt =>
      have et := ba_isEmpty (str (t :: tt)) (by rw [str_len]; simp)
      have nt := ba_notnil (str (t :: tt)) (by rw [str_len]; simp)
      cases hr : Tg.right (t :: tt)
      · rw [hr] at cR
        rw [show Ev.fieldR _ = false from by simp [Ev.fieldR, Ev.filled, Ev.mayName, Ev.mayTag, *]]
        go_enter Tryz.func48, Tryz.ntmps48
        go_wp2_with (go_at_call 79; refine (cR.out _).mono ?_; rintro e w2 ⟨rfl, hb2⟩; have hd2 := blk_below (alloc_blk w _) hb2; obtain ⟨⟨d0, d1, d2, d3, d4⟩, _⟩ := five hd2)
        go_ret
        exact ⟨rfl, (bthen (bnew w _) hb2)⟩
      · rw [hr] at cR
        cases tx with
        | cons x xt =>
          have ex := ba_isEmpty (str (x :: xt)) (by rw [str_len]; simp)
          have nx := ba_notnil (str (x :: xt)) (by rw [str_len]; simp)
          rw [show Ev.fieldR _ = false from by simp [Ev.fieldR, Ev.filled, Ev.mayName, Ev.mayTag, *]]
          go_enter Tryz.func48, Tryz.ntmps48
          go_wp2_with (go_at_call 79; refine (cR.out _).mono ?_; rintro e w2 ⟨rfl, hb2⟩; have hd2 := blk_below (alloc_blk w _) hb2; obtain ⟨⟨d0, d1, d2, d3, d4⟩, _⟩ := five hd2)
          go_ret
          exact ⟨rfl, (bthen (bnew w _) hb2)⟩
        | nil =>
          rw [valid_nil] at cX
          rw [str_nil] at *
          cases pl
          · rw [show Ev.fieldR _ = true from by simp [Ev.fieldR, Ev.filled, Ev.mayName, Ev.mayTag, *]]
            go_enter Tryz.func48, Tryz.ntmps48
            go_wp2_with (first | (go_at_call 79; refine (cR.out _).mono ?_; rintro e w2 ⟨rfl, hb2⟩; have hd2 := blk_below (alloc_blk w _) hb2; obtain ⟨⟨d0, d1, d2, d3, d4⟩, _⟩ := five hd2) | (go_at_call 80; refine (cX.out _).mono ?_; rintro e w3 ⟨rfl, hb3⟩))
            go_ret
            exact ⟨rfl, (bthen (bthen (bnew w _) hb2) hb3)⟩
          · rw [show Ev.fieldR _ = false from by simp [Ev.fieldR, Ev.filled, Ev.mayName, Ev.mayTag, *]]
            go_enter Tryz.func48, Tryz.ntmps48
            go_wp2_with (go_at_call 79; refine (cR.out _).mono ?_; rintro e w2 ⟨rfl, hb2⟩; have hd2 := blk_below (alloc_blk w _) hb2; obtain ⟨⟨d0, d1, d2, d3, d4⟩, _⟩ := five hd2)
            go_ret
            exact ⟨rfl, (bthen (bnew w _) hb2)⟩
  | cons a at_ =>
    have ea := ba_isEmpty (str (a :: at_)) (by rw [str_len]; simp)
    have na := ba_notnil (str (a :: at_)) (by rw [str_len]; simp)
    cases hn : Lx.name (a :: at_)
    · rw [hn] at cN
      rw [show Ev.fieldR _ = false from by simp [Ev.fieldR, Ev.filled, Ev.mayName, Ev.mayTag, *]]
      go_enter Tryz.func48, Tryz.ntmps48
      go_wp2_with (go_at_call 78; refine (cN.out _).mono ?_; rintro e w' ⟨rfl, rfl⟩)
      go_ret
      exact ⟨rfl, (bnew w _)⟩
    · rw [hn] at cN
      cases tg with
      | nil =>
        rw [str_nil] at *
        cases tx with
        | cons x xt =>
          have ex := ba_isEmpty (str (x :: xt)) (by rw [str_len]; simp)
          have nx := ba_notnil (str (x :: xt)) (by rw [str_len]; simp)
          rw [show Ev.fieldR _ = false from by simp [Ev.fieldR, Ev.filled, Ev.mayName, Ev.mayTag, *]]
          go_enter Tryz.func48, Tryz.ntmps48
          go_wp2_with (go_at_call 78; refine (cN.out _).mono ?_; rintro e w' ⟨rfl, rfl⟩)
          go_ret
          exact ⟨rfl, (bnew w _)⟩
        | nil =>
          rw [valid_nil] at cX
          rw [str_nil] at *
          cases pl
          · rw [show Ev.fieldR _ = true from by simp [Ev.fieldR, Ev.filled, Ev.mayName, Ev.mayTag, *]]
            go_enter Tryz.func48, Tryz.ntmps48
            go_wp2_with (first | (go_at_call 78; refine (cN.out _).mono ?_; rintro e w' ⟨rfl, rfl⟩) | (go_at_call 80; refine (cX.out _).mono ?_; rintro e w3 ⟨rfl, hb3⟩))
            go_ret
            exact ⟨rfl, (bthen (bnew w _) hb3)⟩
          · rw [show Ev.fieldR _ = false from by simp [Ev.fieldR, Ev.filled, Ev.mayName, Ev.mayTag, *]]
            go_enter Tryz.func48, Tryz.ntmps48
            go_wp2_with (go_at_call 78; refine (cN.out _).mono ?_; rintro e w' ⟨rfl, rfl⟩)
            go_ret
            exact ⟨rfl, (bnew w _)⟩
      | cons t tt =>
        have et := ba_isEmpty (str (t :: tt)) (by rw [str_len]; simp)
        have nt := ba_notnil (str (t :: tt)) (by rw [str_len]; simp)
        cases hr : Tg.right (t :: tt)
        · rw [hr] at cR
          rw [show Ev.fieldR _ = false from by simp [Ev.fieldR, Ev.filled, Ev.mayName, Ev.mayTag, *]]
          go_enter Tryz.func48, Tryz.ntmps48
          go_wp2_with (first | (go_at_call 78; refine (cN.out _).mono ?_; rintro e w' ⟨rfl, rfl⟩) | (go_at_call 79; refine (cR.out _).mono ?_; rintro e w2 ⟨rfl, hb2⟩; have hd2 := blk_below (alloc_blk w _) hb2; obtain ⟨⟨d0, d1, d2, d3, d4⟩, _⟩ := five hd2))
          go_ret
          exact ⟨rfl, (bthen (bnew w _) hb2)⟩
        · rw [hr] at cR
          cases tx with
          | cons x xt =>
            have ex := ba_isEmpty (str (x :: xt)) (by rw [str_len]; simp)
            have nx := ba_notnil (str (x :: xt)) (by rw [str_len]; simp)
            rw [show Ev.fieldR _ = false from by simp [Ev.fieldR, Ev.filled, Ev.mayName, Ev.mayTag, *]]
            go_enter Tryz.func48, Tryz.ntmps48
            go_wp2_with (first | (go_at_call 78; refine (cN.out _).mono ?_; rintro e w' ⟨rfl, rfl⟩) | (go_at_call 79; refine (cR.out _).mono ?_; rintro e w2 ⟨rfl, hb2⟩; have hd2 := blk_below (alloc_blk w _) hb2; obtain ⟨⟨d0, d1, d2, d3, d4⟩, _⟩ := five hd2))
            go_ret
            exact ⟨rfl, (bthen (bnew w _) hb2)⟩
          | nil =>
            rw [valid_nil] at cX
            rw [str_nil] at *
            cases pl
            · rw [show Ev.fieldR _ = true from by simp [Ev.fieldR, Ev.filled, Ev.mayName, Ev.mayTag, *]]
              go_enter Tryz.func48, Tryz.ntmps48
              go_wp2_with (first | (go_at_call 78; refine (cN.out _).mono ?_; rintro e w' ⟨rfl, rfl⟩) | (go_at_call 79; refine (cR.out _).mono ?_; rintro e w2 ⟨rfl, hb2⟩; have hd2 := blk_below (alloc_blk w _) hb2; obtain ⟨⟨d0, d1, d2, d3, d4⟩, _⟩ := five hd2) | (go_at_call 80; refine (cX.out _).mono ?_; rintro e w3 ⟨rfl, hb3⟩))
              go_ret
              exact ⟨rfl, (bthen (bthen (bnew w _) hb2) hb3)⟩
            · rw [show Ev.fieldR _ = false from by simp [Ev.fieldR, Ev.filled, Ev.mayName, Ev.mayTag, *]]
              go_enter Tryz.func48, Tryz.ntmps48
              go_wp2_with (first | (go_at_call 78; refine (cN.out _).mono ?_; rintro e w' ⟨rfl, rfl⟩) | (go_at_call 79; refine (cR.out _).mono ?_; rintro e w2 ⟨rfl, hb2⟩; have hd2 := blk_below (alloc_blk w _) hb2; obtain ⟨⟨d0, d1, d2, d3, d4⟩, _⟩ := five hd2))
              go_ret
              exact ⟨rfl, (bthen (bnew w _) hb2)⟩
set_option maxHeartbeats 4000000 in
set_option maxRecDepth 100000 in
theorem field6 (an tg tx : List UInt8) (pl : Bool) (w : World) (ha : an.length ≤ 50000) (ht : tg.length ≤ 50000) (hx : tx.length ≤ 50000) :
    Calls Tryz.prog 48 #[.agg #[.int .i64 6, .string (str an), .string (str tg), .string (str tx), .bool pl]] w fun e w' => e = .returned (.bool (Ev.fieldR ⟨6, an, tg, tx, pl⟩)) ∧ Below w.heap.size w w' := by
  have cN := Lib.hid (fun w => nameL an w ha)
  have cR := Lib.hid (fun w => rightL tg w ht)
  have cX := Lib.hid (fun w => textR_any tx w hx)
  cases an with
  | nil =>
    rw [str_nil] at *
    cases tg with
    | nil =>
      rw [str_nil] at *
      rw [show Ev.fieldR _ = Lib.validD tx from by simp [Ev.fieldR, Ev.filled, Ev.mayName, Ev.mayTag, *]]
      go_enter Tryz.func48, Tryz.ntmps48
      go_wp2_with (go_at_call 80; refine (cX.out _).mono ?_; rintro e w3 ⟨rfl, hb3⟩)
      go_ret
      exact ⟨rfl, (bthen (bnew w _) hb3)⟩
    | cons t tt =>
      have et := ba_isEmpty (str (t :: tt)) (by rw [str_len]; simp)
      have nt := ba_notnil (str (t :: tt)) (by rw [str_len]; simp)
      cases hr : Tg.right (t :: tt)
      · rw [hr] at cR
        rw [show Ev.fieldR _ = false from by simp [Ev.fieldR, Ev.filled, Ev.mayName, Ev.mayTag, *]]
        go_enter Tryz.func48, Tryz.ntmps48
        go_wp2_with (go_at_call 79; refine (cR.out _).mono ?_; rintro e w2 ⟨rfl, hb2⟩; have hd2 := blk_below (alloc_blk w _) hb2; obtain ⟨⟨d0, d1, d2, d3, d4⟩, _⟩ := five hd2)
        go_ret
        exact ⟨rfl, (bthen (bnew w _) hb2)⟩
      · rw [hr] at cR
        rw [show Ev.fieldR _ = Lib.validD tx from by simp [Ev.fieldR, Ev.filled, Ev.mayName, Ev.mayTag, *]]
        go_enter Tryz.func48, Tryz.ntmps48
        go_wp2_with (first | (go_at_call 79; refine (cR.out _).mono ?_; rintro e w2 ⟨rfl, hb2⟩; have hd2 := blk_below (alloc_blk w _) hb2; obtain ⟨⟨d0, d1, d2, d3, d4⟩, _⟩ := five hd2) | (go_at_call 80; refine (cX.out _).mono ?_; rintro e w3 ⟨rfl, hb3⟩))
        go_ret
        exact ⟨rfl, (bthen (bthen (bnew w _) hb2) hb3)⟩
  | cons a at_ =>
    have ea := ba_isEmpty (str (a :: at_)) (by rw [str_len]; simp)
    have na := ba_notnil (str (a :: at_)) (by rw [str_len]; simp)
    cases hn : Lx.name (a :: at_)
    · rw [hn] at cN
      rw [show Ev.fieldR _ = false from by simp [Ev.fieldR, Ev.filled, Ev.mayName, Ev.mayTag, *]]
      go_enter Tryz.func48, Tryz.ntmps48
      go_wp2_with (go_at_call 78; refine (cN.out _).mono ?_; rintro e w' ⟨rfl, rfl⟩)
      go_ret
      exact ⟨rfl, (bnew w _)⟩
    · rw [hn] at cN
      cases tg with
      | nil =>
        rw [str_nil] at *
        rw [show Ev.fieldR _ = Lib.validD tx from by simp [Ev.fieldR, Ev.filled, Ev.mayName, Ev.mayTag, *]]
        go_enter Tryz.func48, Tryz.ntmps48
        go_wp2_with (first | (go_at_call 78; refine (cN.out _).mono ?_; rintro e w' ⟨rfl, rfl⟩) | (go_at_call 80; refine (cX.out _).mono ?_; rintro e w3 ⟨rfl, hb3⟩))
        go_ret
        exact ⟨rfl, (bthen (bnew w _) hb3)⟩
      | cons t tt =>
        have et := ba_isEmpty (str (t :: tt)) (by rw [str_len]; simp)
        have nt := ba_notnil (str (t :: tt)) (by rw [str_len]; simp)
        cases hr : Tg.right (t :: tt)
        · rw [hr] at cR
          rw [show Ev.fieldR _ = false from by simp [Ev.fieldR, Ev.filled, Ev.mayName, Ev.mayTag, *]]
          go_enter Tryz.func48, Tryz.ntmps48
          go_wp2_with (first | (go_at_call 78; refine (cN.out _).mono ?_; rintro e w' ⟨rfl, rfl⟩) | (go_at_call 79; refine (cR.out _).mono ?_; rintro e w2 ⟨rfl, hb2⟩; have hd2 := blk_below (alloc_blk w _) hb2; obtain ⟨⟨d0, d1, d2, d3, d4⟩, _⟩ := five hd2))
          go_ret
          exact ⟨rfl, (bthen (bnew w _) hb2)⟩
        · rw [hr] at cR
          rw [show Ev.fieldR _ = Lib.validD tx from by simp [Ev.fieldR, Ev.filled, Ev.mayName, Ev.mayTag, *]]
          go_enter Tryz.func48, Tryz.ntmps48
          go_wp2_with (first | (go_at_call 78; refine (cN.out _).mono ?_; rintro e w' ⟨rfl, rfl⟩) | (go_at_call 79; refine (cR.out _).mono ?_; rintro e w2 ⟨rfl, hb2⟩; have hd2 := blk_below (alloc_blk w _) hb2; obtain ⟨⟨d0, d1, d2, d3, d4⟩, _⟩ := five hd2) | (go_at_call 80; refine (cX.out _).mono ?_; rintro e w3 ⟨rfl, hb3⟩))
          go_ret
          exact ⟨rfl, (bthen (bthen (bnew w _) hb2) hb3)⟩
set_option maxHeartbeats 4000000 in
set_option maxRecDepth 100000 in
theorem field7 (an tg tx : List UInt8) (pl : Bool) (w : World) (ha : an.length ≤ 50000) (ht : tg.length ≤ 50000) (hx : tx.length ≤ 50000) :
    Calls Tryz.prog 48 #[.agg #[.int .i64 7, .string (str an), .string (str tg), .string (str tx), .bool pl]] w fun e w' => e = .returned (.bool (Ev.fieldR ⟨7, an, tg, tx, pl⟩)) ∧ Below w.heap.size w w' := by
  have cN := Lib.hid (fun w => nameL an w ha)
  have cX := Lib.hid (fun w => textR_any tx w hx)
  cases hn : Lx.name an
  · rw [hn] at cN
    rw [show Ev.fieldR _ = false from by simp [Ev.fieldR, Ev.filled, *]]
    go_enter Tryz.func48, Tryz.ntmps48
    go_wp2_with (go_at_call 78; refine (cN.out _).mono ?_; rintro e w' ⟨rfl, rfl⟩)
    go_ret
    exact ⟨rfl, (bnew w _)⟩
  · rw [hn] at cN
    cases tg with
    | cons t tt =>
      have et := ba_isEmpty (str (t :: tt)) (by rw [str_len]; simp)
      have nt := ba_notnil (str (t :: tt)) (by rw [str_len]; simp)
      rw [show Ev.fieldR _ = false from by simp [Ev.fieldR, Ev.filled, *]]
      go_enter Tryz.func48, Tryz.ntmps48
      go_wp2_with (go_at_call 78; refine (cN.out _).mono ?_; rintro e w' ⟨rfl, rfl⟩)
      go_ret
      exact ⟨rfl, (bnew w _)⟩
    | nil =>
      rw [str_nil] at *
      cases tx with
      | cons x xt =>
        have ex := ba_isEmpty (str (x :: xt)) (by rw [str_len]; simp)
        have nx := ba_notnil (str (x :: xt)) (by rw [str_len]; simp)
        rw [show Ev.fieldR _ = false from by simp [Ev.fieldR, Ev.filled, *]]
        go_enter Tryz.func48, Tryz.ntmps48
        go_wp2_with (go_at_call 78; refine (cN.out _).mono ?_; rintro e w' ⟨rfl, rfl⟩)
        go_ret
        exact ⟨rfl, (bnew w _)⟩
      | nil =>
        rw [valid_nil] at cX
        rw [str_nil] at *
        cases pl
        · rw [show Ev.fieldR _ = true from by simp [Ev.fieldR, Ev.filled, *]]
          go_enter Tryz.func48, Tryz.ntmps48
          go_wp2_with (first | (go_at_call 78; refine (cN.out _).mono ?_; rintro e w' ⟨rfl, rfl⟩) | (go_at_call 80; refine (cX.out _).mono ?_; rintro e w3 ⟨rfl, hb3⟩))
          go_ret
          exact ⟨rfl, (bthen (bnew w _) hb3)⟩
        · rw [show Ev.fieldR _ = false from by simp [Ev.fieldR, Ev.filled, *]]
          go_enter Tryz.func48, Tryz.ntmps48
          go_wp2_with (go_at_call 78; refine (cN.out _).mono ?_; rintro e w' ⟨rfl, rfl⟩)
          go_ret
          exact ⟨rfl, (bnew w _)⟩
set_option maxHeartbeats 4000000 in
set_option maxRecDepth 100000 in
theorem fieldO (k : Int) (an tg tx : List UInt8) (pl : Bool) (w : World) (ha : an.length ≤ 50000) (ht : tg.length ≤ 50000) (hx : tx.length ≤ 50000) (hk : k = 0 ∨ k = 1 ∨ k = 3 ∨ k = 5) :
    Calls Tryz.prog 48 #[.agg #[.int .i64 k, .string (str an), .string (str tg), .string (str tx), .bool pl]] w fun e w' => e = .returned (.bool (Ev.fieldR ⟨k, an, tg, tx, pl⟩)) ∧ Below w.heap.size w w' := by
  have cX := Lib.hid (fun w => textR_any tx w hx)
  have b2 : (k == 2) = false := beq_eq_false_iff_ne.2 (by omega)
  have b4 : (k == 4) = false := beq_eq_false_iff_ne.2 (by omega)
  have b6 : (k == 6) = false := beq_eq_false_iff_ne.2 (by omega)
  have b7 : (k == 7) = false := beq_eq_false_iff_ne.2 (by omega)
  have c2 : ¬ k = 2 := by omega
  have c4 : ¬ k = 4 := by omega
  have c6 : ¬ k = 6 := by omega
  have c7 : ¬ k = 7 := by omega
  have l0 : ¬ k < 0 := by omega
  have l7 : ¬ 7 < k := by omega
  have p0 : 0 ≤ k := by omega
  have p7 : k ≤ 7 := by omega
  cases an with
  | cons a at_ =>
    have ea := ba_isEmpty (str (a :: at_)) (by rw [str_len]; simp)
    have na := ba_notnil (str (a :: at_)) (by rw [str_len]; simp)
    rw [show Ev.fieldR _ = false from by simp [Ev.fieldR, Ev.filled, *]]
    go_enter Tryz.func48, Tryz.ntmps48
    go_wp2
    go_ret
    exact ⟨rfl, (bnew w _)⟩
  | nil =>
    rw [str_nil] at *
    cases tg with
    | cons t tt =>
      have et := ba_isEmpty (str (t :: tt)) (by rw [str_len]; simp)
      have nt := ba_notnil (str (t :: tt)) (by rw [str_len]; simp)
      rw [show Ev.fieldR _ = false from by simp [Ev.fieldR, Ev.filled, *]]
      go_enter Tryz.func48, Tryz.ntmps48
      go_wp2
      go_ret
      exact ⟨rfl, (bnew w _)⟩
    | nil =>
      rw [str_nil] at *
      cases tx with
      | cons x xt =>
        have ex := ba_isEmpty (str (x :: xt)) (by rw [str_len]; simp)
        have nx := ba_notnil (str (x :: xt)) (by rw [str_len]; simp)
        rw [show Ev.fieldR _ = false from by simp [Ev.fieldR, Ev.filled, *]]
        go_enter Tryz.func48, Tryz.ntmps48
        go_wp2
        go_ret
        exact ⟨rfl, (bnew w _)⟩
      | nil =>
        rw [valid_nil] at cX
        rw [str_nil] at *
        cases pl
        · rw [show Ev.fieldR _ = true from by simp [Ev.fieldR, Ev.filled, *]]
          go_enter Tryz.func48, Tryz.ntmps48
          go_wp2_with (go_at_call 80; refine (cX.out _).mono ?_; rintro e w3 ⟨rfl, hb3⟩)
          go_ret
          exact ⟨rfl, (bthen (bnew w _) hb3)⟩
        · rw [show Ev.fieldR _ = false from by simp [Ev.fieldR, Ev.filled, *]]
          go_enter Tryz.func48, Tryz.ntmps48
          go_wp2
          go_ret
          exact ⟨rfl, (bnew w _)⟩
set_option maxHeartbeats 4000000 in
set_option maxRecDepth 100000 in
theorem fieldN (k : Int) (an tg tx : List UInt8) (pl : Bool) (w : World) (_ha : an.length ≤ 50000) (_ht : tg.length ≤ 50000) (_hx : tx.length ≤ 50000) (hk : k < 0 ∨ 7 < k) :
    Calls Tryz.prog 48 #[.agg #[.int .i64 k, .string (str an), .string (str tg), .string (str tx), .bool pl]] w fun e w' => e = .returned (.bool (Ev.fieldR ⟨k, an, tg, tx, pl⟩)) ∧ Below w.heap.size w w' := by
  by_cases h0 : k < 0
  · have p0 : ¬ 0 ≤ k := by omega
    rw [show Ev.fieldR _ = false from by simp [Ev.fieldR, Ev.filled, Ev.mayName, Ev.mayTag, *]]
    go_enter Tryz.func48, Tryz.ntmps48
    go_wp2
    go_ret
    exact ⟨rfl, (bnew w _)⟩
  · have h7 : 7 < k := by omega
    have p7 : ¬ k ≤ 7 := by omega
    rw [show Ev.fieldR _ = false from by simp [Ev.fieldR, Ev.filled, Ev.mayName, Ev.mayTag, *]]
    go_enter Tryz.func48, Tryz.ntmps48
    go_wp2
    go_ret
    exact ⟨rfl, (bnew w _)⟩
theorem field_any (x : Ev.E) (w : World) (hs : Ev.Small x) : Calls Tryz.prog 48 #[.agg #[.int .i64 x.kind, .string (str x.anchor), .string (str x.tag), .string (str x.text), .bool x.plain]] w fun e w' => e = .returned (.bool (Ev.fieldR x)) ∧ Below w.heap.size w w' := by
  obtain ⟨k, an, tg, tx, pl⟩ := x
  obtain ⟨ha, ht, hx⟩ := hs
  simp only at ha ht hx ⊢
  by_cases h : k < 0 ∨ 7 < k
  · exact fieldN k an tg tx pl w ha ht hx h
  · have : k = 2 ∨ k = 4 ∨ k = 6 ∨ k = 7 ∨ (k = 0 ∨ k = 1 ∨ k = 3 ∨ k = 5) := by omega
    rcases this with rfl | rfl | rfl | rfl | h
    · exact field2 an tg tx pl w ha ht hx
    · exact field4 an tg tx pl w ha ht hx
    · exact field6 an tg tx pl w ha ht hx
    · exact field7 an tg tx pl w ha ht hx
    · exact fieldO k an tg tx pl w ha ht hx h
end Go.Proofs.YthkedlcmpibkjaaGreatDoor
