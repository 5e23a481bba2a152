/- Apply: the program and the reference. -/
import Derived.Test.YtkcgcddpgfcgiaaKb
namespace Go.Proofs.Ytkcgcddpgfcgiaa.kc
open Go.ChangeShapes Go.WideShapes Go.ChangeAt Go.RowKit Go.Proofs.Ytkcgcddpgfcgiaa.cx Go.Proofs.Ytkcgcddpgfcgiaa.ra Go.Proofs.Ytkcgcddpgfcgiaa.rc Go.Proofs.Ytkcgcddpgfcgiaa.da Go.Proofs.Ytkcgcddpgfcgiaa.di Go.Proofs.Ytkcgcddpgfcgiaa.ed Go.Proofs.Ytkcgcddpgfcgiaa.fb Go.Proofs.Ytkcgcddpgfcgiaa.ka Go.Proofs.Ytkcgcddpgfcgiaa.kb

def slotN (c : Chg) : Nat := c.slot.toNat
def applyE (p : Pg) (c : Chg) : Int := if validH c = true then (if c.page = p.id then (if sameC (p.cell (slotN c)) c.before = true then 0 else 20) else 6) else 22
def applyP (p : Pg) (c : Chg) : Pg := if applyE p c = 0 then putCell p (slotN c) c.after else newPg 0
theorem valid_b (c : Chg) (b : Bool) (h : validH c = b) (w : World) (hc : FitsH c) :
    Calls Try.prog 15 #[.agg c.arr] w fun e w' => e = .returned (.bool b) ∧ Below w.heap.size w w' := h ▸ valid_any c w hc
theorem refValid_b (c : Chg) (b : Bool) (h : validH c = b) (w : World) (hc : FitsH c) :
    Calls Try.prog 16 #[.agg c.arr] w fun e w' => e = .returned (.bool b) ∧ Below w.heap.size w w' := h ▸ refValid_any c w hc
theorem valid_slot {c : Chg} (h : validH c = true) : slotN c < 16 ∧ c.slot = (slotN c : Int) := by
  unfold validH slotB at h
  simp only [Bool.and_eq_true, decide_eq_true_eq] at h
  unfold slotN
  omega
theorem below_undrewN {w w' : World} {n : Nat} (h : Below (w.drewN n).heap.size (w.drewN n) w') : Below w.heap.size w w' := ⟨h.os, h.tape, h.output, h.size, h.block⟩

set_option maxRecDepth 4000 in
theorem applyError_any (p : Pg) (c : Chg) (w : World) (hc : FitsH c) :
    Calls Try.prog 34 #[.agg p.arr, .agg c.arr] w fun e w' => e = .returned (.int .i64 (applyE p c)) ∧ Below w.heap.size w w' := by
  unfold applyE
  cases hv : validH c
  · have HV := Lib.hid hv
    clear hv
    go_enter Try.func34, Try.ntmps34
    go_wp2_with (first
      | (refine wp_boxPageW p rfl rfl rfl ?_; intro w0 hP hb0 hz0; have HP := Lib.hid hP; have HB := Lib.hid hb0; clear hP hb0 hz0)
      | (refine wp_boxChgW c rfl rfl rfl ?_; intro w1 hC hb1 hz1; have HC := Lib.hid hC; have HP1 := Lib.hid (HP.out.keep hb1); have HB1 := Lib.hid (HB.out.trans (hb1.mono HB.out.size)); clear hC hb1 hz1 HP HB)
      | (refine wp_loadChg c HC.out rfl rfl rfl ?_)
      | (go_at_call 15; (with_reducible refine (valid_b c false HV.out _ hc).mono ?_); rintro e w2 ⟨rfl, hb2⟩; have HB2 := Lib.hid (HB1.out.trans (hb2.mono HB1.out.size)); clear hb2 HB1))
    go_ret
    exact ⟨rfl, HB2.out⟩
  · obtain ⟨hk, hs⟩ := valid_slot hv
    have HV := Lib.hid hv
    clear hv
    generalize slotN c = k at hk hs
    have q0 : (0 : Int) ≤ (k : Int) := by omega
    have q1 : (k : Int) < 16 := by omega
    by_cases hi : c.page = p.id
    rotate_left
    · have ne : (c.page != p.id) = true := by simpa using hi
      rw [if_neg hi]
      clear hi
      go_enter Try.func34, Try.ntmps34
      go_wp2_with (first
        | (refine wp_boxPageW p rfl rfl rfl ?_; intro w0 hP hb0 hz0; have HP := Lib.hid hP; have HB := Lib.hid hb0; clear hP hb0 hz0)
        | (refine wp_boxChgW c rfl rfl rfl ?_; intro w1 hC hb1 hz1; have HC := Lib.hid hC; have HP1 := Lib.hid (HP.out.keep hb1); have HB1 := Lib.hid (HB.out.trans (hb1.mono HB.out.size)); clear hC hb1 hz1 HP HB)
        | (refine wp_loadChg c HC.out rfl rfl rfl ?_)
        | (go_at_call 15; (with_reducible refine (valid_b c true HV.out _ hc).mono ?_); rintro e w2 ⟨rfl, hb2⟩; obtain ⟨a0, _, _, _, _, _⟩ := ChAt.all (HC.out.keep hb2); have i0 := PgAt.idAt (HP1.out.keep hb2); have HB2 := Lib.hid (HB1.out.trans (hb2.mono HB1.out.size)); clear hb2 HB1))
      go_ret
      exact ⟨rfl, HB2.out⟩
    · have ne : (c.page != p.id) = false := by simpa using hi
      rw [if_pos rfl, if_pos hi]
      clear hi
      obtain ⟨pg, sl, bf, af⟩ := c
      simp only at hs ne ⊢
      subst hs
      have hne := cell_neq (p.cell k) bf
      cases hsm : sameC (p.cell k) bf
      all_goals
        rw [hsm] at hne
        clear hsm
        go_enter Try.func34, Try.ntmps34
        go_wp2_with (first
          | (refine wp_boxPageW p rfl rfl rfl ?_; intro w0 hP hb0 hz0; have HP := Lib.hid hP; have HB := Lib.hid hb0; clear hP hb0 hz0)
          | (refine wp_boxChgW ⟨pg, (k : Int), bf, af⟩ rfl rfl rfl ?_; intro w1 hC hb1 hz1; have HC := Lib.hid hC; have HP1 := Lib.hid (HP.out.keep hb1); have HB1 := Lib.hid (HB.out.trans (hb1.mono HB.out.size)); clear hC hb1 hz1 HP HB)
          | (refine wp_loadChg ⟨pg, (k : Int), bf, af⟩ HC.out rfl rfl rfl ?_)
          | (go_at_call 15; (with_reducible refine (valid_b ⟨pg, (k : Int), bf, af⟩ true HV.out _ hc).mono ?_); rintro e w2 ⟨rfl, hb2⟩; obtain ⟨a0, a1, a2, a3, _, _⟩ := ChAt.all (HC.out.keep hb2); have HP2 := HP1.out.keep hb2; have i0 := PgAt.idAt HP2; have i1 := PgAt.setAt HP2 hk; have i2 := PgAt.dataAt HP2 hk; simp only at a0 a1 a2 a3; have HB2 := Lib.hid (HB1.out.trans (hb2.mono HB1.out.size)); clear hb2 HB1 HP2))
        go_quiet (fail)
        go_wp2
        go_ret
        exact ⟨rfl, HB2.out.drewN _⟩
end Go.Proofs.Ytkcgcddpgfcgiaa.kc
