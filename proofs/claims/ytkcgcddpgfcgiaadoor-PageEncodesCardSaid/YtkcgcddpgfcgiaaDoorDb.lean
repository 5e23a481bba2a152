/- Which pages are valid, by the program. -/
import Derived.Test.YtkcgcddpgfcgiaaDoorDa
namespace Go.Proofs.YtkcgcddpgfcgiaaDoor.db
open Go.ChangeShapes Go.WideShapes Go.ChangeAt Go.RowKit Go.Proofs.YtkcgcddpgfcgiaaDoor.cm Go.Proofs.YtkcgcddpgfcgiaaDoor.cw Go.Proofs.YtkcgcddpgfcgiaaDoor.cp Go.Proofs.YtkcgcddpgfcgiaaDoor.cg Go.Proofs.YtkcgcddpgfcgiaaDoor.ch Go.Proofs.YtkcgcddpgfcgiaaDoor.ra Go.Proofs.YtkcgcddpgfcgiaaDoor.da

def idB (n : Int) : Bool := decide (0 ≤ n ∧ n < 64)
theorem validID_any (n : Int) (w : World) :
    Calls Tryd.prog 42 #[.int .i64 n] w fun e w' => e = .returned (.bool (idB n)) ∧ w = w' := by
  by_cases h0 : 0 ≤ n
  · by_cases h1 : n < 64
    · have hv : idB n = true := decide_eq_true ⟨h0, h1⟩
      rw [hv]; clear hv
      go_enter Tryd.func42, Tryd.ntmps42
      go_wp2
      go_ret
      exact ⟨rfl, rfl⟩
    · have hv : idB n = false := decide_eq_false (fun h => h1 h.2)
      rw [hv]; clear hv
      have hd : decide (n < 64) = false := by simpa using h1
      go_enter Tryd.func42, Tryd.ntmps42
      go_wp2
      go_ret
      exact ⟨rfl, rfl⟩
  · have hv : idB n = false := decide_eq_false (fun h => h0 h.1)
    rw [hv]; clear hv
    have hd : decide (0 ≤ n) = false := by simpa using h0
    go_enter Tryd.func42, Tryd.ntmps42
    go_wp2
    go_ret
    exact ⟨rfl, rfl⟩

theorem ret_bool {a b : Bool} (h : a = b) : Ending.returned (.bool a) = .returned (.bool b) := by rw [h]
theorem validNumbers_any (p : Pg) (w : World) :
    Calls Tryd.prog 29 #[.agg p.arr] w fun e w' => e = .returned (.bool (numsB p)) ∧ Below w.heap.size w w' := by
  have hp := PgAt.new p w 27
  have h0 := hp.idAt
  have h1 := hp.lsnAt
  clear hp
  go_enter Tryd.func29, Tryd.ntmps29
  go_wp2_with (go_at_call 42; refine (validID_any _ _).mono ?_; rintro e w' ⟨rfl, rfl⟩)
  all_goals
    go_ret
    clear h0 h1
    exact ⟨ret_bool (by rw [Bool.eq_iff_iff]; simp only [numsB, idB, decide_eq_true_eq, reduceCtorEq, false_iff] at *; omega), (Below.refl _ _).alloc (Nat.le_refl _) _⟩

theorem validCell_any (c : CellM) (w : World) (hc : c.data.size ≤ 9223372036854775807) :
    Calls Tryd.prog 44 #[.agg #[.bool c.set, .string c.data]] w fun e w' => e = .returned (.bool (cellB c)) ∧ Below w.heap.size w w' := by
  obtain ⟨b, s⟩ := c
  simp only at hc
  cases b
  · go_enter Tryd.func44, Tryd.ntmps44
    go_wp2
    go_ret
    refine ⟨ret_bool ?_, (Below.refl _ _).alloc (Nat.le_refl _) _⟩
    rw [Bool.eq_iff_iff]
    simp only [cellB, decide_eq_true_eq, List.isEmpty_iff, nil_iff, true_implies]
    exact ⟨fun h => ⟨by rw [h]; exact Nat.zero_le _, h⟩, fun h => h.2⟩
  · go_enter Tryd.func44, Tryd.ntmps44
    go_wp2
    go_ret
    exact ⟨ret_bool (by rw [Bool.eq_iff_iff]; simp [cellB]; omega), (Below.refl _ _).alloc (Nat.le_refl _) _⟩

theorem validCells_any (p : Pg) (w : World) (hc : Fits p) :
    Calls Tryd.prog 30 #[.agg p.arr] w fun e w' => e = .returned (.bool (cellsB p)) ∧ Below w.heap.size w w' := by
  have hp := PgAt.new p w 27
  have B0 : Below w.heap.size w (w.alloc (.cells p.arr 27)) := (Below.refl _ _).alloc (Nat.le_refl _) _
  have HP := Lib.hid hp
  have HB := Lib.hid B0
  clear hp B0
  go_enter Tryd.func30, Tryd.ntmps30
  go_wp2_with (refine wp_loadCells p HP.out rfl rfl rfl ?_)

  go_loopw [7] (fun i wr => ∃ j : Nat, j ≤ 16 ∧ i = .int .i64 j ∧ (∀ k, k < j → cellOkB p k = true) ∧ PgAt w.heap.size p wr ∧ Below w.heap.size w wr) (fun i _ => 16 - (intOf i).toNat)
  case atStart => exact ⟨0, by omega, rfl, fun k hk => by omega, HP.out, HB.out⟩
  case round =>
    obtain ⟨j, hj, rfl, hk, hp, hb⟩ := hrel
    clear HP HB
    have HK := Lib.hid hk
    have HB := Lib.hid hb
    have HP := Lib.hid hp
    by_cases hlt : j < 16
    · have hix := run_index_cells p j hlt
      have hz := hb.size
      have hcs := hc j hlt
      have hlsn := hp.lsnAt
      clear hk hb hp
      go_wp2_with (go_at_call 44; refine (validCell_any (p.cell j) _ hcs).mono ?_; rintro e w1 ⟨rfl, hb1⟩; obtain ⟨hc1, hf1⟩ := bcell hb1; have hl1 := PgAt.lsnAt ((HP.out.alloc _).keep hb1))
      · go_ret
        exact ⟨ret_bool (cellsB_no hlt (ok_zero (by assumption) (by assumption))).symm, (HB.out.alloc hz _).trans (hb1.mono (by simp; omega))⟩
      · go_roundw
        case rel => exact ⟨j + 1, by omega, by go_num, ok_next HK.out (ok_set (by assumption) (by assumption)), (HP.out.alloc _).keep hb1, (HB.out.alloc hz _).trans (hb1.mono (by simp; omega))⟩
        case measure => simp [intOf]; omega
      · go_roundw
        case rel => exact ⟨j + 1, by omega, by go_num, ok_next HK.out (ok_unset (by assumption) (by assumption)), (HP.out.alloc _).keep hb1, (HB.out.alloc hz _).trans (hb1.mono (by simp; omega))⟩
        case measure => simp [intOf]; omega
      · go_ret
        exact ⟨ret_bool (cellsB_no hlt (ok_no (by assumption))).symm, (HB.out.alloc hz _).trans (hb1.mono (by simp; omega))⟩
    · obtain rfl : j = 16 := by omega
      clear hk hb hp
      go_wp2
      go_ret
      exact ⟨ret_bool (cellsB_yes HK.out).symm, HB.out⟩

theorem validNumbers_b (p : Pg) (b : Bool) (h : numsB p = b) (w : World) :
    Calls Tryd.prog 29 #[.agg p.arr] w fun e w' => e = .returned (.bool b) ∧ Below w.heap.size w w' := h ▸ validNumbers_any p w
theorem valid_any (p : Pg) (w : World) (hc : Fits p) :
    Calls Tryd.prog 13 #[.agg p.arr] w fun e w' => e = .returned (.bool (validB p)) ∧ Below w.heap.size w w' := by
  have HP := Lib.hid (PgAt.new p w 27)
  have HB : Hid (Below w.heap.size w (w.alloc (.cells p.arr 27))) := Lib.hid ((Below.refl _ _).alloc (Nat.le_refl _) _)
  unfold validB
  cases hn : numsB p
  · have HN := Lib.hid hn
    clear hn
    go_enter Tryd.func13, Tryd.ntmps13
    go_wp2_with (first
      | (refine wp_loadPage p HP.out rfl rfl rfl ?_)
      | (go_at_call 29; refine (validNumbers_b p false HN.out _).mono ?_; rintro e w1 ⟨rfl, hb1⟩))
    go_ret
    exact ⟨rfl, HB.out.trans (hb1.mono (by simp))⟩
  · have HN := Lib.hid hn
    clear hn
    go_enter Tryd.func13, Tryd.ntmps13
    go_wp2_with (first
      | (refine wp_loadPage p HP.out rfl rfl rfl ?_)
      | (refine wp_loadPage p HP1.out rfl rfl rfl ?_)
      | (go_at_call 29; refine (validNumbers_b p true HN.out _).mono ?_; rintro e w1 ⟨rfl, hb1⟩; have HP1 := Lib.hid (HP.out.keep hb1))
      | (go_at_call 30; refine (validCells_any p _ hc).mono ?_; rintro e w2 ⟨rfl, hb2⟩))
    go_ret
    exact ⟨rfl, (HB.out.trans (hb1.mono (by simp))).trans (hb2.mono (by have := hb1.size; simp at this; omega))⟩
theorem refNumbers_any (p : Pg) (w : World) :
    Calls Tryd.prog 36 #[.agg p.arr] w fun e w' => e = .returned (.bool (numsB p)) ∧ Below w.heap.size w w' := by
  have hp := PgAt.new p w 27
  have h0 := hp.idAt
  have h1 := hp.lsnAt
  clear hp
  go_enter Tryd.func36, Tryd.ntmps36
  go_wp2
  all_goals
    go_ret
    clear h0 h1
    exact ⟨ret_bool (by rw [Bool.eq_iff_iff]; simp only [numsB, decide_eq_true_eq, reduceCtorEq, false_iff] at *; omega), (Below.refl _ _).alloc (Nat.le_refl _) _⟩
theorem refValidCell_any (c : CellM) (w : World) (hc : c.data.size ≤ 9223372036854775807) :
    Calls Tryd.prog 50 #[.agg #[.bool c.set, .string c.data]] w fun e w' => e = .returned (.bool (cellB c)) ∧ Below w.heap.size w w' := by
  obtain ⟨b, s⟩ := c
  simp only at hc
  by_cases h12 : s.size ≤ 12
  · cases b
    · go_enter Tryd.func50, Tryd.ntmps50
      go_wp2
      go_ret
      refine ⟨ret_bool ?_, (Below.refl _ _).alloc (Nat.le_refl _) _⟩
      rw [Bool.eq_iff_iff]
      simp only [cellB, decide_eq_true_eq, List.isEmpty_iff, nil_iff, true_implies]
      exact ⟨fun h => ⟨h12, h⟩, fun h => h.2⟩
    · go_enter Tryd.func50, Tryd.ntmps50
      go_wp2
      go_ret
      exact ⟨ret_bool (by rw [Bool.eq_iff_iff]; simp [cellB]; omega), (Below.refl _ _).alloc (Nat.le_refl _) _⟩
  · have hd : decide ((s.size : Int) ≤ 12) = false := by simp; omega
    go_enter Tryd.func50, Tryd.ntmps50
    go_wp2
    go_ret
    exact ⟨ret_bool (by rw [Bool.eq_iff_iff]; simp [cellB]; omega), (Below.refl _ _).alloc (Nat.le_refl _) _⟩
end Go.Proofs.YtkcgcddpgfcgiaaDoor.db
