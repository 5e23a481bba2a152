/- Which pages are valid, by the reference; new pages; bytes 0. -/
import Derived.Test.YtlfcnjnfnfimmaaDoorDb
import Derived.Laws.MakeOwn
namespace Go.Proofs.YtlfcnjnfnfimmaaDoor.dc
open Go.ChangeShapes Go.WideShapes Go.ChangeAt Go.RowKit Go.Proofs.YtlfcnjnfnfimmaaDoor.cm Go.Proofs.YtlfcnjnfnfimmaaDoor.cw Go.Proofs.YtlfcnjnfnfimmaaDoor.cp Go.Proofs.YtlfcnjnfnfimmaaDoor.cg Go.Proofs.YtlfcnjnfnfimmaaDoor.ch Go.Proofs.YtlfcnjnfnfimmaaDoor.ra Go.Proofs.YtlfcnjnfnfimmaaDoor.da Go.Proofs.YtlfcnjnfnfimmaaDoor.db

theorem refCells_any (p : Pg) (w : World) (hc : Fits p) :
    Calls Tryd.prog 41 #[.agg p.arr] w fun e w' => e = .returned (.bool (cellsB p)) ∧ Below w.heap.size w w' := by
  have HP := Lib.hid (PgAt.new p w 27)
  have HB : Hid (Below w.heap.size w (w.alloc (.cells p.arr 27))) := Lib.hid ((Below.refl _ _).alloc (Nat.le_refl _) _)
  go_enter Tryd.func41, Tryd.ntmps41
  go_wp2
  go_loopw [3] (fun i wr => ∃ j : Nat, j ≤ 16 ∧ i = .int .i64 j ∧ (∀ k, k < j → cellOkB p k = true) ∧ PgAt w.heap.size p wr ∧ Below w.heap.size w wr) (fun i _ => 16 - (intOf i).toNat)
  case atStart => exact ⟨0, by omega, rfl, fun k hk => by omega, HP.out, HB.out⟩
  case round =>
    obtain ⟨j, hj, rfl, hk, hp, hb⟩ := hrel
    clear HP HB
    have HK := Lib.hid hk
    have HB := Lib.hid hb
    have HP := Lib.hid hp
    by_cases hlt : j < 16
    · have hz := hb.size
      have hcs := hc j hlt
      have hs0 := hp.setAt hlt
      have hs1 := hp.dataAt hlt
      clear hk hb hp
      go_wp2_with (go_at_call 54; refine (refValidCell_any (p.cell j) _ hcs).mono ?_; rintro e w1 ⟨rfl, hb1⟩; have hl1 := PgAt.lsnAt (HP.out.keep hb1); have hs1 := PgAt.setAt (HP.out.keep hb1) hlt)
      · go_ret
        exact ⟨ret_bool (cellsB_no hlt (ok_zero (by assumption) (by simp; assumption))).symm, HB.out.trans (hb1.mono hz)⟩
      · go_roundw
        case rel => exact ⟨j + 1, by omega, by go_num, ok_next HK.out (ok_unset (by assumption) (by simp; assumption)), HP.out.keep hb1, HB.out.trans (hb1.mono hz)⟩
        case measure => simp [intOf]; omega
      · go_roundw
        case rel => exact ⟨j + 1, by omega, by go_num, ok_next HK.out (ok_set (by assumption) (by simp; assumption)), HP.out.keep hb1, HB.out.trans (hb1.mono hz)⟩
        case measure => simp [intOf]; omega
      · go_ret
        exact ⟨ret_bool (cellsB_no hlt (ok_no (by assumption))).symm, HB.out.trans (hb1.mono hz)⟩
    · obtain rfl : j = 16 := by omega
      clear hk hb hp
      go_wp2
      go_ret
      exact ⟨ret_bool (cellsB_yes HK.out).symm, HB.out⟩
theorem new_any (n : Int) (w : World) :
    Calls Tryd.prog 19 #[.int .i64 n] w fun e w' => e = .returned (.agg (newPg n).arr) ∧ Below w.heap.size w w' := by
  have hb := build_page1 n
  have H1 := Lib.hid (RowAt.newA (newPg 0).arr w 27)
  go_enter Tryd.func19, Tryd.ntmps19
  go_wp2_with (first
    | (refine wp_newPage rfl rfl ?_)
    | (refine wp_storePage (newPg n) H1.out (arr_size _) rfl rfl rfl rfl ?_))
  refine bodyPost_ret (res_page rfl rfl (stored_page (newPg n) H1.out (arr_size _))) rfl ⟨rfl, ?_⟩
  exact below_setCells _ (Nat.le_refl _) _ _ _ ((Below.refl _ _).alloc (Nat.le_refl _) _)
end Go.Proofs.YtlfcnjnfnfimmaaDoor.dc
