/- Which pages are valid, by the reference; new pages; bytes 0. -/
import Derived.Test.YtkcgcddpgfcgiaaDoorDb
import Derived.Laws.MakeOwn
namespace Go.Proofs.YtkcgcddpgfcgiaaDoor.dc
open Go.ChangeShapes Go.WideShapes Go.ChangeAt Go.RowKit Go.Proofs.YtkcgcddpgfcgiaaDoor.cm Go.Proofs.YtkcgcddpgfcgiaaDoor.cw Go.Proofs.YtkcgcddpgfcgiaaDoor.cp Go.Proofs.YtkcgcddpgfcgiaaDoor.cg Go.Proofs.YtkcgcddpgfcgiaaDoor.ch Go.Proofs.YtkcgcddpgfcgiaaDoor.ra Go.Proofs.YtkcgcddpgfcgiaaDoor.da Go.Proofs.YtkcgcddpgfcgiaaDoor.db

theorem refCells_any (p : Pg) (w : World) (hc : Fits p) :
    Calls Tryd.prog 37 #[.agg p.arr] w fun e w' => e = .returned (.bool (cellsB p)) ∧ Below w.heap.size w w' := by
  have HP := Lib.hid (PgAt.new p w 27)
  have HB : Hid (Below w.heap.size w (w.alloc (.cells p.arr 27))) := Lib.hid ((Below.refl _ _).alloc (Nat.le_refl _) _)
  go_enter Tryd.func37, Tryd.ntmps37
  go_wp2
  go_loopw [3] (fun i wr => ∃ j : Nat, j ≤ 16 ∧ i = .int .i64 j ∧ (∀ k, k < j → cellOkB p k = true) ∧ PgAt w.heap.size p wr ∧ Below w.heap.size w wr) (fun i _ => 16 - (intOf i).toNat)
  case atStart => exact ⟨0, by omega, rfl, fun k hk => by omega, HP.out, HB.out⟩
  case round =>
    obtain ⟨j, hj, rfl, hk, hp, hb⟩ := hrel
    clear HP HB
    have HK := Lib.hid hk
    have HB := Lib.hid hb
    have HP := Lib.hid hp
    by_cases hlt : j < 16
    · have hz := hb.size
      have hcs := hc j hlt
      have hs0 := hp.setAt hlt
      have hs1 := hp.dataAt hlt
      clear hk hb hp
      go_wp2_with (go_at_call 50; refine (refValidCell_any (p.cell j) _ hcs).mono ?_; rintro e w1 ⟨rfl, hb1⟩; have hl1 := PgAt.lsnAt (HP.out.keep hb1); have hs1 := PgAt.setAt (HP.out.keep hb1) hlt)
      · go_ret
        exact ⟨ret_bool (cellsB_no hlt (ok_zero (by assumption) (by simp; assumption))).symm, HB.out.trans (hb1.mono hz)⟩
      · go_roundw
        case rel => exact ⟨j + 1, by omega, by go_num, ok_next HK.out (ok_unset (by assumption) (by simp; assumption)), HP.out.keep hb1, HB.out.trans (hb1.mono hz)⟩
        case measure => simp [intOf]; omega
      · go_roundw
        case rel => exact ⟨j + 1, by omega, by go_num, ok_next HK.out (ok_set (by assumption) (by simp; assumption)), HP.out.keep hb1, HB.out.trans (hb1.mono hz)⟩
        case measure => simp [intOf]; omega
      · go_ret
        exact ⟨ret_bool (cellsB_no hlt (ok_no (by assumption))).symm, HB.out.trans (hb1.mono hz)⟩
    · obtain rfl : j = 16 := by omega
      clear hk hb hp
      go_wp2
      go_ret
      exact ⟨ret_bool (cellsB_yes HK.out).symm, HB.out⟩
theorem new_any (n : Int) (w : World) :
    Calls Tryd.prog 15 #[.int .i64 n] w fun e w' => e = .returned (.agg (newPg n).arr) ∧ Below w.heap.size w w' := by
  have hb := build_page1 n
  have H1 := Lib.hid (RowAt.newA (newPg 0).arr w 27)
  go_enter Tryd.func15, Tryd.ntmps15
  go_wp2_with (first
    | (refine wp_newPage rfl rfl ?_)
    | (refine wp_storePage (newPg n) H1.out (arr_size _) rfl rfl rfl rfl ?_))
  refine bodyPost_ret (res_page rfl rfl (stored_page (newPg n) H1.out (arr_size _))) rfl ⟨rfl, ?_⟩
  exact below_setCells _ (Nat.le_refl _) _ _ _ ((Below.refl _ _).alloc (Nat.le_refl _) _)
end Go.Proofs.YtkcgcddpgfcgiaaDoor.dc
