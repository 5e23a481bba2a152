/- The bytes of a page, as the reference writes them. -/
import Derived.Test.YtkcgcddpgfcgiaaDoorDc
import Derived.Test.YtkcgcddpgfcgiaaDoorRb
namespace Go.Proofs.YtkcgcddpgfcgiaaDoor.dd
open Go.ChangeShapes Go.WideShapes Go.ChangeAt Go.RowKit Go.Proofs.YtkcgcddpgfcgiaaDoor.cm Go.Proofs.YtkcgcddpgfcgiaaDoor.cw Go.Proofs.YtkcgcddpgfcgiaaDoor.cp Go.Proofs.YtkcgcddpgfcgiaaDoor.cg Go.Proofs.YtkcgcddpgfcgiaaDoor.ch Go.Proofs.YtkcgcddpgfcgiaaDoor.ra Go.Proofs.YtkcgcddpgfcgiaaDoor.rb Go.Proofs.YtkcgcddpgfcgiaaDoor.da Go.Proofs.YtkcgcddpgfcgiaaDoor.db Go.Proofs.YtkcgcddpgfcgiaaDoor.dc

theorem refNew_any (n : Int) (w : World) :
    Calls Tryd.prog 16 #[.int .i64 n] w fun e w' => e = .returned (.agg (newPg n).arr) ∧ Below w.heap.size w w' := by
  have hb := build_page1 n
  have H1 := Lib.hid (RowAt.newA (newPg 0).arr w 27)
  go_enter Tryd.func16, Tryd.ntmps16
  go_wp2_with (first
    | (refine wp_newPage rfl rfl ?_)
    | (refine wp_storePage (newPg n) H1.out (arr_size _) rfl rfl rfl rfl ?_))
  refine bodyPost_ret (res_page rfl rfl (stored_page (newPg n) H1.out (arr_size _))) rfl ⟨rfl, ?_⟩
  exact below_setCells _ (Nat.le_refl _) _ _ _ ((Below.refl _ _).alloc (Nat.le_refl _) _)
theorem refNumbers_b (p : Pg) (b : Bool) (h : numsB p = b) (w : World) :
    Calls Tryd.prog 36 #[.agg p.arr] w fun e w' => e = .returned (.bool b) ∧ Below w.heap.size w w' := h ▸ refNumbers_any p w
theorem refCells_b (p : Pg) (b : Bool) (h : cellsB p = b) (w : World) (hc : Fits p) :
    Calls Tryd.prog 37 #[.agg p.arr] w fun e w' => e = .returned (.bool b) ∧ Below w.heap.size w w' := h ▸ refCells_any p w hc
theorem refValid_any (p : Pg) (w : World) (hc : Fits p) :
    Calls Tryd.prog 14 #[.agg p.arr] w fun e w' => e = .returned (.bool (validB p)) ∧ Below w.heap.size w w' := by
  have HP := Lib.hid (PgAt.new p w 27)
  have HB : Hid (Below w.heap.size w (w.alloc (.cells p.arr 27))) := Lib.hid ((Below.refl _ _).alloc (Nat.le_refl _) _)
  unfold validB
  cases hn : numsB p
  · have HN := Lib.hid hn
    clear hn
    go_enter Tryd.func14, Tryd.ntmps14
    go_wp2_with (first
      | (refine wp_loadPage p HP.out rfl rfl rfl ?_)
      | (go_at_call 36; refine (refNumbers_b p false HN.out _).mono ?_; rintro e w1 ⟨rfl, hb1⟩))
    go_ret
    exact ⟨rfl, HB.out.trans (hb1.mono (by simp))⟩
  · have HN := Lib.hid hn
    clear hn
    go_enter Tryd.func14, Tryd.ntmps14
    go_wp2_with (first
      | (refine wp_loadPage p HP.out rfl rfl rfl ?_)
      | (refine wp_loadPage p HP1.out rfl rfl rfl ?_)
      | (go_at_call 36; refine (refNumbers_b p true HN.out _).mono ?_; rintro e w1 ⟨rfl, hb1⟩; have HP1 := Lib.hid (HP.out.keep hb1))
      | (go_at_call 37; refine (refCells_any p _ hc).mono ?_; rintro e w2 ⟨rfl, hb2⟩))
    go_ret
    exact ⟨rfl, (HB.out.trans (hb1.mono (by simp))).trans (hb2.mono (by have := hb1.size; simp at this; omega))⟩
/-- The error of a page. -/
def encE (p : Pg) : Int := if numsB p = true then (if cellsB p = true then 0 else 22) else 1
theorem refCheck_any (p : Pg) (w : World) (hc : Fits p) :
    Calls Tryd.prog 32 #[.agg p.arr] w fun e w' => e = .returned (.int .i64 (encE p)) ∧ Below w.heap.size w w' := by
  have HP := Lib.hid (PgAt.new p w 27)
  have HB : Hid (Below w.heap.size w (w.alloc (.cells p.arr 27))) := Lib.hid ((Below.refl _ _).alloc (Nat.le_refl _) _)
  unfold encE
  cases hn : numsB p
  · have HN := Lib.hid hn
    clear hn
    go_enter Tryd.func32, Tryd.ntmps32
    go_wp2_with (first
      | (refine wp_loadPage p HP.out rfl rfl rfl ?_)
      | (go_at_call 36; refine (refNumbers_b p false HN.out _).mono ?_; rintro e w1 ⟨rfl, hb1⟩))
    go_ret
    exact ⟨rfl, HB.out.trans (hb1.mono (by simp))⟩
  · cases hm : cellsB p
    all_goals
      have HN := Lib.hid hn
      have HM := Lib.hid hm
      clear hn hm
      go_enter Tryd.func32, Tryd.ntmps32
      go_wp2_with (first
        | (refine wp_loadPage p HP.out rfl rfl rfl ?_)
        | (refine wp_loadPage p HP1.out rfl rfl rfl ?_)
        | (go_at_call 36; refine (refNumbers_b p true HN.out _).mono ?_; rintro e w1 ⟨rfl, hb1⟩; have HP1 := Lib.hid (HP.out.keep hb1))
        | (go_at_call 37; refine (refCells_b p _ HM.out _ hc).mono ?_; rintro e w2 ⟨rfl, hb2⟩))
      go_ret
      exact ⟨rfl, (HB.out.trans (hb1.mono (by simp))).trans (hb2.mono (by have := hb1.size; simp at this; omega))⟩

theorem zeros_any (n : Nat) (hn : n ≤ 100000) (w : World) :
    Calls Tryd.prog 34 #[.int .i64 (n : Int)] w fun e w' => e = .returned (.string (zeroS n)) ∧ Below w.heap.size w w' := by
  have hm := make_zero (n : Int) n rfl hn
  have hc := conv_zero w n
  go_enter Tryd.func34, Tryd.ntmps34
  go_wp2
  go_ret
  exact ⟨rfl, (Below.refl _ _).alloc (Nat.le_refl _) _⟩
theorem zeros_is (x : Int) (n : Nat) (hx : x = n) (hn : n ≤ 100000) (w : World) :
    Calls Tryd.prog 34 #[.int .i64 x] w fun e w' => e = .returned (.string (zeroS n)) ∧ Below w.heap.size w w' := hx ▸ zeros_any n hn w
theorem refBlank_any (w : World) :
    Calls Tryd.prog 18 #[] w fun e w' => e = .returned (.string (zeroS 256)) ∧ Below w.heap.size w w' := by
  go_enter Tryd.func18, Tryd.ntmps18
  go_wp2_with (go_at_call 34; refine (zeros_is 256 256 rfl (by decide) _).mono ?_; rintro e w1 ⟨rfl, hb1⟩)
  go_ret
  exact ⟨rfl, hb1⟩
end Go.Proofs.YtkcgcddpgfcgiaaDoor.dd
