/- Apply, as a whole. -/
import Derived.Test.YtkcgcddpgfcgiaaKc
namespace Go.Proofs.Ytkcgcddpgfcgiaa.kd
open Go.ChangeShapes Go.WideShapes Go.ChangeAt Go.RowKit Go.Proofs.Ytkcgcddpgfcgiaa.cx Go.Proofs.Ytkcgcddpgfcgiaa.ra Go.Proofs.Ytkcgcddpgfcgiaa.rc Go.Proofs.Ytkcgcddpgfcgiaa.da Go.Proofs.Ytkcgcddpgfcgiaa.di Go.Proofs.Ytkcgcddpgfcgiaa.ed Go.Proofs.Ytkcgcddpgfcgiaa.fb Go.Proofs.Ytkcgcddpgfcgiaa.ka Go.Proofs.Ytkcgcddpgfcgiaa.kb Go.Proofs.Ytkcgcddpgfcgiaa.kc

def applyT (p : Pg) (c : Chg) : Value := .tuple #[.agg (applyP p c).arr, .int .i64 (applyE p c)]
theorem applyError_b (p : Pg) (c : Chg) (n : Int) (h : applyE p c = n) (w : World) (hc : FitsH c) :
    Calls Try.prog 34 #[.agg p.arr, .agg c.arr] w fun e w' => e = .returned (.int .i64 n) ∧ Below w.heap.size w w' := h ▸ applyError_any p c w hc
theorem applyE_valid {p : Pg} {c : Chg} (h : applyE p c = 0) : validH c = true := by
  unfold applyE at h
  cases hv : validH c
  · rw [hv] at h; simp at h
  · rfl
set_option maxRecDepth 4000 in
theorem apply_no (p : Pg) (c : Chg) (n : Int) (hn : applyE p c = n) (h0 : (n != 0) = true) (w : World) (hc : FitsH c) :
    Calls Try.prog 22 #[.agg p.arr, .agg c.arr] w fun e w' => e = .returned (.tuple #[.agg (newPg 0).arr, .int .i64 n]) ∧ Below w.heap.size w w' := by
  have hb := build_page0
  have HN := Lib.hid hn
  clear hn
  go_enter Try.func22, Try.ntmps22
  go_wp2_with (first
    | (refine wp_boxPageW p rfl rfl rfl ?_; intro w0 hP hb0 hz0; have HP := Lib.hid hP; have HB := Lib.hid hb0; clear hP hb0 hz0)
    | (refine wp_boxChgW c rfl rfl rfl ?_; intro w1 hC hb1 hz1; have HC := Lib.hid hC; have HP1 := Lib.hid (HP.out.keep hb1); have HB1 := Lib.hid (HB.out.trans (hb1.mono HB.out.size)); clear hC hb1 hz1 HP HB)
    | (refine wp_newPageW rfl rfl ?_; intro w2 hR hb2 hz2; have HR := Lib.hid hR; have HC2 := Lib.hid (HC.out.keep hb2); have HP2 := Lib.hid (HP1.out.keep hb2); have le1 := HB1.out.size; have HB2 := Lib.hid (HB1.out.trans (hb2.mono HB1.out.size)); clear hR hb2 hz2 HP1 HB1 HC)
    | (refine wp_loadPage p HP2.out rfl rfl rfl ?_)
    | (refine wp_loadChg c HC2.out rfl rfl rfl ?_)
    | (go_at_call 34; (with_reducible refine (applyError_b p c n HN.out _ hc).mono ?_); rintro e w3 ⟨rfl, hb3⟩; have HR3 := Lib.hid (HR.out.keep hb3); have HB3 := Lib.hid (HB2.out.trans (hb3.mono HB2.out.size)); clear hb3 HB2 HR HP2 HC2)
    | (refine wp_storePageW (newPg 0) HR3.out (vals_length _) rfl rfl rfl rfl ?_; intro w4 hR hS; have HR4 := Lib.hid hR; have HB4 := Lib.hid (hS.below HB3.out le1); clear hR hS HR3 HB3))
  exact bodyPost_ret (res_pageE rfl rfl HR4.out) rfl ⟨rfl, HB4.out⟩
set_option maxRecDepth 4000 in
theorem apply_yes (p : Pg) (c : Chg) (hn : applyE p c = 0) (w : World) (hc : FitsH c) :
    Calls Try.prog 22 #[.agg p.arr, .agg c.arr] w fun e w' => e = .returned (.tuple #[.agg (putCell p (slotN c) c.after).arr, .int .i64 0]) ∧ Below w.heap.size w w' := by
  obtain ⟨hk, hs⟩ := valid_slot (applyE_valid hn)
  have HN := Lib.hid hn
  clear hn
  generalize slotN c = k at hk hs
  obtain ⟨pg, sl, bf, af⟩ := c
  simp only at hs ⊢
  subst hs
  have q0 : (0 : Int) ≤ (k : Int) := by omega
  have q1 : (k : Int) < 16 := by omega
  go_enter Try.func22, Try.ntmps22
  go_wp2_with (first
    | (refine wp_boxPageW p rfl rfl rfl ?_; intro w0 hP hb0 hz0; have HP := Lib.hid hP; have HB := Lib.hid hb0; clear hP hb0 hz0)
    | (refine wp_boxChgW ⟨pg, (k : Int), bf, af⟩ rfl rfl rfl ?_; intro w1 hC hb1 hz1; have HC := Lib.hid hC; have HP1 := Lib.hid (HP.out.keep hb1); have HB1 := Lib.hid (HB.out.trans (hb1.mono HB.out.size)); have lp := HP.out.lt; clear hC hb1 hz1 HP HB)
    | (refine wp_newPageW rfl rfl ?_; intro w2 hR hb2 hz2; have HR := Lib.hid hR; have HC2 := Lib.hid (HC.out.keep hb2); have HP2 := Lib.hid (HP1.out.keep hb2); have le1 := HB1.out.size; have lp2 := HP1.out.lt; have HB2 := Lib.hid (HB1.out.trans (hb2.mono HB1.out.size)); clear hR hb2 hz2 HP1 HB1 HC)
    | (refine wp_loadPage p HP2.out rfl rfl rfl ?_)
    | (refine wp_loadChg ⟨pg, (k : Int), bf, af⟩ HC2.out rfl rfl rfl ?_)
    | (go_at_call 34; (with_reducible refine (applyError_b p ⟨pg, (k : Int), bf, af⟩ 0 HN.out _ hc).mono ?_); rintro e w3 ⟨rfl, hb3⟩; have HR3 := Lib.hid (HR.out.keep hb3); have HP3 := Lib.hid (HP2.out.keep hb3); obtain ⟨a0, a1, a2, a3, a4, a5⟩ := ChAt.all (HC2.out.keep hb3); have HB3 := Lib.hid (HB2.out.trans (hb3.mono HB2.out.size)); simp only at a1 a4 a5; clear hb3 HB2 HR HP2 HC2 a0 a2 a3; have k0 := HP3.out.cells (2 + k * 2) _ (vals_set _ k (by omega)); have k1 := HP3.out.cells (2 + k * 2 + 1) _ (vals_data _ k (by omega)); have k2 := HP3.out.free (2 + k * 2); have k3 := HP3.out.free (2 + k * 2 + 1); have HPP := Lib.hid (PgAt.put HP3.out k (by omega) af); have HRR := Lib.hid ((HR3.out.setOther (a := ⟨w.heap.size, 2 + k * 2, none⟩) (by show w.heap.size ≠ w1.heap.size; omega) (.bool af.set)).setOther (a := ⟨w.heap.size, 2 + k * 2 + 1, none⟩) (by show w.heap.size ≠ w1.heap.size; omega) (.string af.data)); have hbb : Below w.heap.size w ((w3.setCell ⟨w.heap.size, 2 + k * 2, none⟩ (.bool af.set)).setCell ⟨w.heap.size, 2 + k * 2 + 1, none⟩ (.string af.data)) := (HB3.out.setCell (by exact Nat.le_refl _) _).setCell (by exact Nat.le_refl _) _; have HBB := Lib.hid hbb; clear hbb; clear HR3 HP3 HB3)
    | (refine wp_loadPage (putCell p k af) HPP.out rfl rfl rfl ?_)
    | (refine wp_storePageW (putCell p k af) HRR.out (vals_length _) rfl rfl rfl rfl ?_; intro w4 hR hS; have HR4 := Lib.hid hR; have HB4 := Lib.hid (hS.below HBB.out le1); clear hR hS HRR HBB))
  exact bodyPost_ret (res_pageE rfl rfl HR4.out) rfl ⟨rfl, HB4.out⟩
theorem apply_any (p : Pg) (c : Chg) (w : World) (hc : FitsH c) :
    Calls Try.prog 22 #[.agg p.arr, .agg c.arr] w fun e w' => e = .returned (applyT p c) ∧ Below w.heap.size w w' := by
  unfold applyT applyP
  by_cases h : applyE p c = 0
  · rw [if_pos h, h]; exact apply_yes p c h w hc
  · rw [if_neg h]; exact apply_no p c _ rfl (by simpa using h) w hc
theorem applyT_no (p : Pg) (c : Chg) (n : Int) (h : applyE p c = n) (h0 : n ≠ 0) : applyT p c = .tuple #[.agg (newPg 0).arr, .int .i64 n] := by
  unfold applyT applyP
  rw [h, if_neg h0]
theorem applyT_yes (p : Pg) (c : Chg) (h : applyE p c = 0) : applyT p c = .tuple #[.agg (putCell p (slotN c) c.after).arr, .int .i64 0] := by
  unfold applyT applyP
  rw [if_pos h, h]
set_option maxRecDepth 4000 in
theorem refApply_any (p : Pg) (c : Chg) (w : World) (hc : FitsH c) :
    Calls Try.prog 23 #[.agg p.arr, .agg c.arr] w fun e w' => e = .returned (applyT p c) ∧ Below w.heap.size w w' := by
  have hb := build_page0
  cases hv : validH c
  · rw [applyT_no p c 22 (by unfold applyE; rw [hv]; rfl) (by decide)]
    have HV := Lib.hid hv
    clear hv
    go_enter Try.func23, Try.ntmps23
    go_wp2_with (first
      | (refine wp_boxPageW p rfl rfl rfl ?_; intro w0 hP hb0 hz0; have HP := Lib.hid hP; have HB := Lib.hid hb0; clear hP hb0 hz0)
      | (refine wp_boxChgW c rfl rfl rfl ?_; intro w1 hC hb1 hz1; have HC := Lib.hid hC; have HP1 := Lib.hid (HP.out.keep hb1); have HB1 := Lib.hid (HB.out.trans (hb1.mono HB.out.size)); have lp := HP.out.lt; clear hC hb1 hz1 HP HB)
      | (refine wp_newPageW rfl rfl ?_; intro w2 hR hb2 hz2; have HR := Lib.hid hR; have HC2 := Lib.hid (HC.out.keep hb2); have HP2 := Lib.hid (HP1.out.keep hb2); have le1 := HB1.out.size; have lp2 := HP1.out.lt; have HB2 := Lib.hid (HB1.out.trans (hb2.mono HB1.out.size)); clear hR hb2 hz2 HP1 HB1 HC)
      | (refine wp_loadChg c HC2.out rfl rfl rfl ?_)
      | (go_at_call 16; (with_reducible refine (refValid_b c false HV.out _ hc).mono ?_); rintro e w3 ⟨rfl, hb3⟩; have HR3 := Lib.hid (HR.out.keep hb3); have HB3 := Lib.hid (HB2.out.trans (hb3.mono HB2.out.size)); clear hb3 HB2 HR HP2 HC2)
      | (refine wp_storePageW (newPg 0) HR3.out (vals_length _) rfl rfl rfl rfl ?_; intro w4 hR hS; have HR4 := Lib.hid hR; have HB4 := Lib.hid (hS.below HB3.out le1); clear hR hS HR3 HB3))
    exact bodyPost_ret (res_pageE rfl rfl HR4.out) rfl ⟨rfl, HB4.out⟩
  · obtain ⟨hk, hs⟩ := valid_slot hv
    by_cases hi : c.page = p.id
    rotate_left
    · rw [applyT_no p c 6 (by unfold applyE; rw [hv, if_pos rfl, if_neg hi]) (by decide)]
      have ne : (c.page != p.id) = true := by simpa using hi
      have HV := Lib.hid hv
      clear hv hi hs
      go_enter Try.func23, Try.ntmps23
      go_wp2_with (first
        | (refine wp_boxPageW p rfl rfl rfl ?_; intro w0 hP hb0 hz0; have HP := Lib.hid hP; have HB := Lib.hid hb0; clear hP hb0 hz0)
        | (refine wp_boxChgW c rfl rfl rfl ?_; intro w1 hC hb1 hz1; have HC := Lib.hid hC; have HP1 := Lib.hid (HP.out.keep hb1); have HB1 := Lib.hid (HB.out.trans (hb1.mono HB.out.size)); have lp := HP.out.lt; clear hC hb1 hz1 HP HB)
        | (refine wp_newPageW rfl rfl ?_; intro w2 hR hb2 hz2; have HR := Lib.hid hR; have HC2 := Lib.hid (HC.out.keep hb2); have HP2 := Lib.hid (HP1.out.keep hb2); have le1 := HB1.out.size; have lp2 := HP1.out.lt; have HB2 := Lib.hid (HB1.out.trans (hb2.mono HB1.out.size)); clear hR hb2 hz2 HP1 HB1 HC)
        | (refine wp_loadChg c HC2.out rfl rfl rfl ?_)
        | (go_at_call 16; (with_reducible refine (refValid_b c true HV.out _ hc).mono ?_); rintro e w3 ⟨rfl, hb3⟩; have HR3 := Lib.hid (HR.out.keep hb3); have HB3 := Lib.hid (HB2.out.trans (hb3.mono HB2.out.size)); obtain ⟨a0, _, _, _, _, _⟩ := ChAt.all (HC2.out.keep hb3); have i0 := PgAt.idAt (HP2.out.keep hb3); clear hb3 HB2 HR HP2 HC2)
        | (refine wp_storePageW (newPg 0) HR3.out (vals_length _) rfl rfl rfl rfl ?_; intro w4 hR hS; have HR4 := Lib.hid hR; have HB4 := Lib.hid (hS.below HB3.out le1); clear hR hS HR3 HB3))
      exact bodyPost_ret (res_pageE rfl rfl HR4.out) rfl ⟨rfl, HB4.out⟩
    · have ne : (c.page != p.id) = false := by simpa using hi
      cases hsm : sameC (p.cell (slotN c)) c.before
      · rw [applyT_no p c 20 (by unfold applyE; rw [hv, if_pos rfl, if_pos hi, hsm]; rfl) (by decide)]
        have HV := Lib.hid hv
        clear hv hi
        generalize slotN c = k at hk hs hsm
        obtain ⟨pg, sl, bf, af⟩ := c
        simp only at hs ne hsm ⊢
        subst hs
        have q0 : (0 : Int) ≤ (k : Int) := by omega
        have q1 : (k : Int) < 16 := by omega
        have hne := cell_neq (p.cell k) bf
        rw [hsm] at hne
        clear hsm
        go_enter Try.func23, Try.ntmps23
        go_wp2_with (first
          | (refine wp_boxPageW p rfl rfl rfl ?_; intro w0 hP hb0 hz0; have HP := Lib.hid hP; have HB := Lib.hid hb0; clear hP hb0 hz0)
          | (refine wp_boxChgW ⟨pg, (k : Int), bf, af⟩ rfl rfl rfl ?_; intro w1 hC hb1 hz1; have HC := Lib.hid hC; have HP1 := Lib.hid (HP.out.keep hb1); have HB1 := Lib.hid (HB.out.trans (hb1.mono HB.out.size)); have lp := HP.out.lt; clear hC hb1 hz1 HP HB)
          | (refine wp_newPageW rfl rfl ?_; intro w2 hR hb2 hz2; have HR := Lib.hid hR; have HC2 := Lib.hid (HC.out.keep hb2); have HP2 := Lib.hid (HP1.out.keep hb2); have le1 := HB1.out.size; have lp2 := HP1.out.lt; have HB2 := Lib.hid (HB1.out.trans (hb2.mono HB1.out.size)); clear hR hb2 hz2 HP1 HB1 HC)
          | (refine wp_loadChg ⟨pg, (k : Int), bf, af⟩ HC2.out rfl rfl rfl ?_)
          | (go_at_call 16; (with_reducible refine (refValid_b ⟨pg, (k : Int), bf, af⟩ true HV.out _ hc).mono ?_); rintro e w3 ⟨rfl, hb3⟩; have HR3 := Lib.hid (HR.out.keep hb3); have HB3 := Lib.hid (HB2.out.trans (hb3.mono HB2.out.size)); obtain ⟨a0, a1, a2, a3, a4, a5⟩ := ChAt.all (HC2.out.keep hb3); have hp3 := HP2.out.keep hb3; have HP3 := Lib.hid hp3; have i0 := PgAt.idAt hp3; have i1 := PgAt.setAt hp3 hk; have i2 := PgAt.dataAt hp3 hk; simp only at a0 a1 a2 a3 a4 a5; clear hp3; clear hb3 HB2 HR HP2 HC2))
        go_quiet (fail)
        have HR3 := Lib.hid (HR3.out.drewN nq)
        have HB3 := Lib.hid (HB3.out.drewN nq)
        go_wp2_with (refine wp_storePageW (newPg 0) HR3.out (vals_length _) rfl rfl rfl rfl ?_; intro w4 hR hS; have HR4 := Lib.hid hR; have HB4 := Lib.hid (hS.below HB3.out le1); clear hR hS HR3 HB3)
        exact bodyPost_ret (res_pageE rfl rfl HR4.out) rfl ⟨rfl, HB4.out⟩
      · rw [applyT_yes p c (by unfold applyE; rw [hv, if_pos rfl, if_pos hi, hsm]; rfl)]
        have HV := Lib.hid hv
        clear hv hi
        generalize slotN c = k at hk hs hsm
        obtain ⟨pg, sl, bf, af⟩ := c
        simp only at hs ne hsm ⊢
        subst hs
        have q0 : (0 : Int) ≤ (k : Int) := by omega
        have q1 : (k : Int) < 16 := by omega
        have hne := cell_neq (p.cell k) bf
        rw [hsm] at hne
        clear hsm
        go_enter Try.func23, Try.ntmps23
        go_wp2_with (first
          | (refine wp_boxPageW p rfl rfl rfl ?_; intro w0 hP hb0 hz0; have HP := Lib.hid hP; have HB := Lib.hid hb0; clear hP hb0 hz0)
          | (refine wp_boxChgW ⟨pg, (k : Int), bf, af⟩ rfl rfl rfl ?_; intro w1 hC hb1 hz1; have HC := Lib.hid hC; have HP1 := Lib.hid (HP.out.keep hb1); have HB1 := Lib.hid (HB.out.trans (hb1.mono HB.out.size)); have lp := HP.out.lt; clear hC hb1 hz1 HP HB)
          | (refine wp_newPageW rfl rfl ?_; intro w2 hR hb2 hz2; have HR := Lib.hid hR; have HC2 := Lib.hid (HC.out.keep hb2); have HP2 := Lib.hid (HP1.out.keep hb2); have le1 := HB1.out.size; have lp2 := HP1.out.lt; have HB2 := Lib.hid (HB1.out.trans (hb2.mono HB1.out.size)); clear hR hb2 hz2 HP1 HB1 HC)
          | (refine wp_loadChg ⟨pg, (k : Int), bf, af⟩ HC2.out rfl rfl rfl ?_)
          | (go_at_call 16; (with_reducible refine (refValid_b ⟨pg, (k : Int), bf, af⟩ true HV.out _ hc).mono ?_); rintro e w3 ⟨rfl, hb3⟩; have HR3 := Lib.hid (HR.out.keep hb3); have HB3 := Lib.hid (HB2.out.trans (hb3.mono HB2.out.size)); obtain ⟨a0, a1, a2, a3, a4, a5⟩ := ChAt.all (HC2.out.keep hb3); have hp3 := HP2.out.keep hb3; have HP3 := Lib.hid hp3; have i0 := PgAt.idAt hp3; have i1 := PgAt.setAt hp3 hk; have i2 := PgAt.dataAt hp3 hk; simp only at a0 a1 a2 a3 a4 a5; clear hp3; clear hb3 HB2 HR HP2 HC2))
        go_quiet (fail)
        have HR5 := Lib.hid (HR3.out.drewN nq)
        have HB5 := Lib.hid (HB3.out.drewN nq)
        have HP5 := Lib.hid (HP3.out.drewN nq)
        have a1' : (w3.drewN nq).cell? ⟨w0.heap.size, 1, none⟩ = some (.int .i64 (k : Int)) := a1
        have a4' : (w3.drewN nq).cell? ⟨w0.heap.size, 4, none⟩ = some (.bool af.set) := a4
        have a5' : (w3.drewN nq).cell? ⟨w0.heap.size, 5, none⟩ = some (.string af.data) := a5
        clear a0 a1 a2 a3 a4 a5 i0 i1 i2 HR3 HB3 HP3
        generalize w3.drewN nq = W at *
        have k0 := HP5.out.cells (2 + k * 2) _ (vals_set _ k (by omega))
        have k1 := HP5.out.cells (2 + k * 2 + 1) _ (vals_data _ k (by omega))
        have k2 := HP5.out.free (2 + k * 2)
        have k3 := HP5.out.free (2 + k * 2 + 1)
        have HPP := Lib.hid (PgAt.put HP5.out k (by omega) af)
        have HRR := Lib.hid ((HR5.out.setOther (a := ⟨w.heap.size, 2 + k * 2, none⟩) (by show w.heap.size ≠ w1.heap.size; omega) (.bool af.set)).setOther (a := ⟨w.heap.size, 2 + k * 2 + 1, none⟩) (by show w.heap.size ≠ w1.heap.size; omega) (.string af.data))
        have hbb : Below w.heap.size w ((W.setCell ⟨w.heap.size, 2 + k * 2, none⟩ (.bool af.set)).setCell ⟨w.heap.size, 2 + k * 2 + 1, none⟩ (.string af.data)) := (HB5.out.setCell (by exact Nat.le_refl _) _).setCell (by exact Nat.le_refl _) _
        have HBB := Lib.hid hbb
        clear hbb lp lp2
        go_wp2_with (first
          | (refine wp_loadPage (putCell p k af) HPP.out rfl rfl rfl ?_)
          | (refine wp_storePageW (putCell p k af) HRR.out (vals_length _) rfl rfl rfl rfl ?_; intro w4 hR hS; have HR4 := Lib.hid hR; have HB4 := Lib.hid (hS.below HBB.out le1); clear hR hS HRR HBB))
        exact bodyPost_ret (res_pageE rfl rfl HR4.out) rfl ⟨rfl, HB4.out⟩
end Go.Proofs.Ytkcgcddpgfcgiaa.kd
