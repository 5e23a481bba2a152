/- Join: the program and the reference. -/
import Derived.Test.YtkcgcddpgfcgiaaKe
namespace Go.Proofs.Ytkcgcddpgfcgiaa.kf
open Go.ChangeShapes Go.WideShapes Go.ChangeAt Go.RowKit Go.Proofs.Ytkcgcddpgfcgiaa.cx Go.Proofs.Ytkcgcddpgfcgiaa.ra Go.Proofs.Ytkcgcddpgfcgiaa.rc Go.Proofs.Ytkcgcddpgfcgiaa.da Go.Proofs.Ytkcgcddpgfcgiaa.di Go.Proofs.Ytkcgcddpgfcgiaa.ed Go.Proofs.Ytkcgcddpgfcgiaa.fb Go.Proofs.Ytkcgcddpgfcgiaa.ka Go.Proofs.Ytkcgcddpgfcgiaa.kb Go.Proofs.Ytkcgcddpgfcgiaa.kc Go.Proofs.Ytkcgcddpgfcgiaa.kd Go.Proofs.Ytkcgcddpgfcgiaa.ke

def joinE (a b : Chg) : Int := if validH a = true then (if validH b = true then (if a.page = b.page ∧ a.slot = b.slot then (if sameC b.before a.after = true then 0 else 20) else 6) else 22) else 22
def joinP (a b : Chg) : Chg := if joinE a b = 0 then ⟨a.page, a.slot, a.before, b.after⟩ else chg0
def joinT (a b : Chg) : Value := .tuple #[.agg (joinP a b).arr, .int .i64 (joinE a b)]
theorem joinT_no {a b : Chg} (n : Int) (h : joinE a b = n) (h0 : n ≠ 0) : joinT a b = .tuple #[.agg chg0.arr, .int .i64 n] := by
  unfold joinT joinP
  rw [h, if_neg h0]
theorem joinT_yes {a b : Chg} (h : joinE a b = 0) : joinT a b = .tuple #[.agg (Chg.arr ⟨a.page, a.slot, a.before, b.after⟩), .int .i64 0] := by
  unfold joinT joinP
  rw [if_pos h, h]
theorem joinE_a {a b : Chg} (h : validH a = false) : joinE a b = 22 := by unfold joinE; rw [h]; rfl
theorem joinE_b {a b : Chg} (h : validH a = true) (h2 : validH b = false) : joinE a b = 22 := by unfold joinE; rw [h, if_pos rfl, h2]; rfl
theorem joinE_page {a b : Chg} (h : validH a = true) (h2 : validH b = true) (h3 : ¬ a.page = b.page) : joinE a b = 6 := by unfold joinE; rw [h, if_pos rfl, h2, if_pos rfl, if_neg (fun e => h3 e.1)]
theorem joinE_slot {a b : Chg} (h : validH a = true) (h2 : validH b = true) (h3 : ¬ a.slot = b.slot) : joinE a b = 6 := by unfold joinE; rw [h, if_pos rfl, h2, if_pos rfl, if_neg (fun e => h3 e.2)]
theorem joinE_cell {a b : Chg} (h : validH a = true) (h2 : validH b = true) (h3 : a.page = b.page) (h4 : a.slot = b.slot) (h5 : sameC b.before a.after = false) : joinE a b = 20 := by unfold joinE; rw [h, if_pos rfl, h2, if_pos rfl, if_pos ⟨h3, h4⟩, h5]; rfl
theorem joinE_ok {a b : Chg} (h : validH a = true) (h2 : validH b = true) (h3 : a.page = b.page) (h4 : a.slot = b.slot) (h5 : sameC b.before a.after = true) : joinE a b = 0 := by unfold joinE; rw [h, if_pos rfl, h2, if_pos rfl, if_pos ⟨h3, h4⟩, h5]; rfl
theorem joinE_case (a b : Chg) : validH a = false ∨ (validH a = true ∧ validH b = false) ∨ (validH a = true ∧ validH b = true ∧ ¬ a.page = b.page) ∨ (validH a = true ∧ validH b = true ∧ a.page = b.page ∧ ¬ a.slot = b.slot) ∨
    (validH a = true ∧ validH b = true ∧ a.page = b.page ∧ a.slot = b.slot ∧ sameC b.before a.after = false) ∨ (validH a = true ∧ validH b = true ∧ a.page = b.page ∧ a.slot = b.slot ∧ sameC b.before a.after = true) := by
  cases validH a <;> cases validH b <;> cases sameC b.before a.after <;> by_cases h : a.page = b.page <;> by_cases h2 : a.slot = b.slot <;> simp [h, h2]
set_option maxRecDepth 4000 in
theorem joinError_any (a b : Chg) (w : World) (ha : FitsH a) (hb : FitsH b) :
    Calls Try.prog 31 #[.agg a.arr, .agg b.arr] w fun e w' => e = .returned (.int .i64 (joinE a b)) ∧ Below w.heap.size w w' := by
  have HU : Hid True := Lib.hid trivial
  rcases joinE_case a b with h | ⟨h, h2⟩ | ⟨h, h2, h3⟩ | ⟨h, h2, h3, h4⟩ | ⟨h, h2, h3, h4, h5⟩ | ⟨h, h2, h3, h4, h5⟩
  · rw [joinE_a h]
    have HVA := Lib.hid h
    clear h
    go_enter Try.func31, Try.ntmps31
    go_wp2_with (first
      | (clear HU; refine wp_boxChgW a rfl rfl rfl ?_; intro w0 hA hb0 hz0; have HA := Lib.hid hA; have HB := Lib.hid hb0; clear hA hb0 hz0)
      | (have le0 := HB.out.size; refine wp_boxChgW b rfl rfl rfl ?_; intro w1 hC hb1 hz1; have HC := Lib.hid hC; have HA1 := Lib.hid (RowAt.keep HA.out hb1); have la := HA.out.lt; have HB1 := Lib.hid (HB.out.trans (hb1.mono HB.out.size)); clear hC hb1 hz1 HA HB)
      | (refine wp_loadChg a HA1.out rfl rfl rfl ?_)
      | (refine wp_loadChg b HC.out rfl rfl rfl ?_)
      | (go_at_call 15; (with_reducible refine (valid_b a false HVA.out _ ha).mono ?_); rintro e w2 ⟨rfl, hbx⟩; have HA2 := Lib.hid (RowAt.keep HA1.out hbx); have HC2 := Lib.hid (RowAt.keep HC.out hbx); have HB2 := Lib.hid (HB1.out.trans (hbx.mono HB1.out.size)); clear hbx HA1 HC HB1))
    go_ret
    exact ⟨rfl, HB2.out⟩
  · rw [joinE_b h h2]
    have HVA := Lib.hid h
    have HVB := Lib.hid h2
    clear h h2
    go_enter Try.func31, Try.ntmps31
    go_wp2_with (first
      | (clear HU; refine wp_boxChgW a rfl rfl rfl ?_; intro w0 hA hb0 hz0; have HA := Lib.hid hA; have HB := Lib.hid hb0; clear hA hb0 hz0)
      | (have le0 := HB.out.size; refine wp_boxChgW b rfl rfl rfl ?_; intro w1 hC hb1 hz1; have HC := Lib.hid hC; have HA1 := Lib.hid (RowAt.keep HA.out hb1); have la := HA.out.lt; have HB1 := Lib.hid (HB.out.trans (hb1.mono HB.out.size)); clear hC hb1 hz1 HA HB)
      | (refine wp_loadChg a HA1.out rfl rfl rfl ?_)
      | (refine wp_loadChg b HC.out rfl rfl rfl ?_)
      | (go_at_call 15; (with_reducible refine (valid_b a true HVA.out _ ha).mono ?_); rintro e w2 ⟨rfl, hbx⟩; have HA2 := Lib.hid (RowAt.keep HA1.out hbx); have HC2 := Lib.hid (RowAt.keep HC.out hbx); have HB2 := Lib.hid (HB1.out.trans (hbx.mono HB1.out.size)); clear hbx HA1 HC HB1)
      | (refine wp_loadChg b HC2.out rfl rfl rfl ?_)
      | (go_at_call 15; (with_reducible refine (valid_b b false HVB.out _ hb).mono ?_); rintro e w3 ⟨rfl, hbx⟩; have hA := RowAt.keep HA2.out hbx; have hC := RowAt.keep HC2.out hbx; obtain ⟨a0, a1, a2, a3, a4, a5⟩ := ChAt.all hA; obtain ⟨b0, b1, b2, b3, b4, b5⟩ := ChAt.all hC; have HB3 := Lib.hid (HB2.out.trans (hbx.mono HB2.out.size)); clear hbx hA hC HA2 HC2 HB2))
    go_ret
    exact ⟨rfl, HB3.out⟩
  · rw [joinE_page h h2 h3]
    have HVA := Lib.hid h
    have HVB := Lib.hid h2
    have ne := (show (a.page != b.page) = true by simpa using h3)
    clear h h2 h3
    go_enter Try.func31, Try.ntmps31
    go_wp2_with (first
      | (clear HU; refine wp_boxChgW a rfl rfl rfl ?_; intro w0 hA hb0 hz0; have HA := Lib.hid hA; have HB := Lib.hid hb0; clear hA hb0 hz0)
      | (have le0 := HB.out.size; refine wp_boxChgW b rfl rfl rfl ?_; intro w1 hC hb1 hz1; have HC := Lib.hid hC; have HA1 := Lib.hid (RowAt.keep HA.out hb1); have la := HA.out.lt; have HB1 := Lib.hid (HB.out.trans (hb1.mono HB.out.size)); clear hC hb1 hz1 HA HB)
      | (refine wp_loadChg a HA1.out rfl rfl rfl ?_)
      | (refine wp_loadChg b HC.out rfl rfl rfl ?_)
      | (go_at_call 15; (with_reducible refine (valid_b a true HVA.out _ ha).mono ?_); rintro e w2 ⟨rfl, hbx⟩; have HA2 := Lib.hid (RowAt.keep HA1.out hbx); have HC2 := Lib.hid (RowAt.keep HC.out hbx); have HB2 := Lib.hid (HB1.out.trans (hbx.mono HB1.out.size)); clear hbx HA1 HC HB1)
      | (refine wp_loadChg b HC2.out rfl rfl rfl ?_)
      | (go_at_call 15; (with_reducible refine (valid_b b true HVB.out _ hb).mono ?_); rintro e w3 ⟨rfl, hbx⟩; have hA := RowAt.keep HA2.out hbx; have hC := RowAt.keep HC2.out hbx; obtain ⟨a0, a1, a2, a3, a4, a5⟩ := ChAt.all hA; obtain ⟨b0, b1, b2, b3, b4, b5⟩ := ChAt.all hC; have HB3 := Lib.hid (HB2.out.trans (hbx.mono HB2.out.size)); clear hbx hA hC HA2 HC2 HB2))
    go_ret
    exact ⟨rfl, HB3.out⟩
  · rw [joinE_slot h h2 h4]
    have HVA := Lib.hid h
    have HVB := Lib.hid h2
    have eq := (show (a.page != b.page) = false by simpa using h3)
    have ne := (show (a.slot != b.slot) = true by simpa using h4)
    clear h h2 h3 h4
    go_enter Try.func31, Try.ntmps31
    go_wp2_with (first
      | (clear HU; refine wp_boxChgW a rfl rfl rfl ?_; intro w0 hA hb0 hz0; have HA := Lib.hid hA; have HB := Lib.hid hb0; clear hA hb0 hz0)
      | (have le0 := HB.out.size; refine wp_boxChgW b rfl rfl rfl ?_; intro w1 hC hb1 hz1; have HC := Lib.hid hC; have HA1 := Lib.hid (RowAt.keep HA.out hb1); have la := HA.out.lt; have HB1 := Lib.hid (HB.out.trans (hb1.mono HB.out.size)); clear hC hb1 hz1 HA HB)
      | (refine wp_loadChg a HA1.out rfl rfl rfl ?_)
      | (refine wp_loadChg b HC.out rfl rfl rfl ?_)
      | (go_at_call 15; (with_reducible refine (valid_b a true HVA.out _ ha).mono ?_); rintro e w2 ⟨rfl, hbx⟩; have HA2 := Lib.hid (RowAt.keep HA1.out hbx); have HC2 := Lib.hid (RowAt.keep HC.out hbx); have HB2 := Lib.hid (HB1.out.trans (hbx.mono HB1.out.size)); clear hbx HA1 HC HB1)
      | (refine wp_loadChg b HC2.out rfl rfl rfl ?_)
      | (go_at_call 15; (with_reducible refine (valid_b b true HVB.out _ hb).mono ?_); rintro e w3 ⟨rfl, hbx⟩; have hA := RowAt.keep HA2.out hbx; have hC := RowAt.keep HC2.out hbx; obtain ⟨a0, a1, a2, a3, a4, a5⟩ := ChAt.all hA; obtain ⟨b0, b1, b2, b3, b4, b5⟩ := ChAt.all hC; have HB3 := Lib.hid (HB2.out.trans (hbx.mono HB2.out.size)); clear hbx hA hC HA2 HC2 HB2))
    go_ret
    exact ⟨rfl, HB3.out⟩
  · rw [joinE_cell h h2 h3 h4 h5]
    have HVA := Lib.hid h
    have HVB := Lib.hid h2
    have eq := (show (a.page != b.page) = false by simpa using h3)
    have eq2 := (show (a.slot != b.slot) = false by simpa using h4)
    have hne := cell_neq b.before a.after
    rw [h5] at hne
    clear h h2 h3 h4 h5
    go_enter Try.func31, Try.ntmps31
    go_wp2_with (first
      | (clear HU; refine wp_boxChgW a rfl rfl rfl ?_; intro w0 hA hb0 hz0; have HA := Lib.hid hA; have HB := Lib.hid hb0; clear hA hb0 hz0)
      | (have le0 := HB.out.size; refine wp_boxChgW b rfl rfl rfl ?_; intro w1 hC hb1 hz1; have HC := Lib.hid hC; have HA1 := Lib.hid (RowAt.keep HA.out hb1); have la := HA.out.lt; have HB1 := Lib.hid (HB.out.trans (hb1.mono HB.out.size)); clear hC hb1 hz1 HA HB)
      | (refine wp_loadChg a HA1.out rfl rfl rfl ?_)
      | (refine wp_loadChg b HC.out rfl rfl rfl ?_)
      | (go_at_call 15; (with_reducible refine (valid_b a true HVA.out _ ha).mono ?_); rintro e w2 ⟨rfl, hbx⟩; have HA2 := Lib.hid (RowAt.keep HA1.out hbx); have HC2 := Lib.hid (RowAt.keep HC.out hbx); have HB2 := Lib.hid (HB1.out.trans (hbx.mono HB1.out.size)); clear hbx HA1 HC HB1)
      | (refine wp_loadChg b HC2.out rfl rfl rfl ?_)
      | (go_at_call 15; (with_reducible refine (valid_b b true HVB.out _ hb).mono ?_); rintro e w3 ⟨rfl, hbx⟩; have hA := RowAt.keep HA2.out hbx; have hC := RowAt.keep HC2.out hbx; obtain ⟨a0, a1, a2, a3, a4, a5⟩ := ChAt.all hA; obtain ⟨b0, b1, b2, b3, b4, b5⟩ := ChAt.all hC; have HB3 := Lib.hid (HB2.out.trans (hbx.mono HB2.out.size)); clear hbx hA hC HA2 HC2 HB2))
    go_ret
    exact ⟨rfl, HB3.out⟩
  · rw [joinE_ok h h2 h3 h4 h5]
    have HVA := Lib.hid h
    have HVB := Lib.hid h2
    have eq := (show (a.page != b.page) = false by simpa using h3)
    have eq2 := (show (a.slot != b.slot) = false by simpa using h4)
    have hne := cell_neq b.before a.after
    rw [h5] at hne
    clear h h2 h3 h4 h5
    go_enter Try.func31, Try.ntmps31
    go_wp2_with (first
      | (clear HU; refine wp_boxChgW a rfl rfl rfl ?_; intro w0 hA hb0 hz0; have HA := Lib.hid hA; have HB := Lib.hid hb0; clear hA hb0 hz0)
      | (have le0 := HB.out.size; refine wp_boxChgW b rfl rfl rfl ?_; intro w1 hC hb1 hz1; have HC := Lib.hid hC; have HA1 := Lib.hid (RowAt.keep HA.out hb1); have la := HA.out.lt; have HB1 := Lib.hid (HB.out.trans (hb1.mono HB.out.size)); clear hC hb1 hz1 HA HB)
      | (refine wp_loadChg a HA1.out rfl rfl rfl ?_)
      | (refine wp_loadChg b HC.out rfl rfl rfl ?_)
      | (go_at_call 15; (with_reducible refine (valid_b a true HVA.out _ ha).mono ?_); rintro e w2 ⟨rfl, hbx⟩; have HA2 := Lib.hid (RowAt.keep HA1.out hbx); have HC2 := Lib.hid (RowAt.keep HC.out hbx); have HB2 := Lib.hid (HB1.out.trans (hbx.mono HB1.out.size)); clear hbx HA1 HC HB1)
      | (refine wp_loadChg b HC2.out rfl rfl rfl ?_)
      | (go_at_call 15; (with_reducible refine (valid_b b true HVB.out _ hb).mono ?_); rintro e w3 ⟨rfl, hbx⟩; have hA := RowAt.keep HA2.out hbx; have hC := RowAt.keep HC2.out hbx; obtain ⟨a0, a1, a2, a3, a4, a5⟩ := ChAt.all hA; obtain ⟨b0, b1, b2, b3, b4, b5⟩ := ChAt.all hC; have HB3 := Lib.hid (HB2.out.trans (hbx.mono HB2.out.size)); clear hbx hA hC HA2 HC2 HB2))
    go_ret
    exact ⟨rfl, HB3.out⟩
theorem joinError_b (a b : Chg) (n : Int) (h : joinE a b = n) (w : World) (ha : FitsH a) (hb : FitsH b) :
    Calls Try.prog 31 #[.agg a.arr, .agg b.arr] w fun e w' => e = .returned (.int .i64 n) ∧ Below w.heap.size w w' := h ▸ joinError_any a b w ha hb
theorem join_vals (a b : Chg) : splice a.vals 4 b.after.vals = (Chg.mk a.page a.slot a.before b.after).vals := rfl
set_option maxRecDepth 4000 in
theorem join_no (a b : Chg) (n : Int) (hn : joinE a b = n) (h0 : (n != 0) = true) (w : World) (ha : FitsH a) (hb : FitsH b) :
    Calls Try.prog 13 #[.agg a.arr, .agg b.arr] w fun e w' => e = .returned (.tuple #[.agg chg0.arr, .int .i64 n]) ∧ Below w.heap.size w w' := by
  have HU : Hid True := Lib.hid trivial
  have HN := Lib.hid hn
  have hbd := build_chg0
  clear hn
  go_enter Try.func13, Try.ntmps13
  go_wp2_with (first
    | (clear HU; refine wp_boxChgW a rfl rfl rfl ?_; intro w0 hA hb0 hz0; have HA := Lib.hid hA; have HB := Lib.hid hb0; clear hA hb0 hz0)
    | (have le0 := HB.out.size; refine wp_boxChgW b rfl rfl rfl ?_; intro w1 hC hb1 hz1; have HC := Lib.hid hC; have HA1 := Lib.hid (RowAt.keep HA.out hb1); have la := HA.out.lt; have HB1 := Lib.hid (HB.out.trans (hb1.mono HB.out.size)); clear hC hb1 hz1 HA HB)
    | (have le1 := HB1.out.size; refine wp_newChgW rfl rfl ?_; intro w2 hR hb2 hz2; have HR := Lib.hid hR; have la2 := HA1.out.lt; have HA2 := Lib.hid (RowAt.keep HA1.out hb2); have HC2 := Lib.hid (RowAt.keep HC.out hb2); have HB2 := Lib.hid (HB1.out.trans (hb2.mono HB1.out.size)); clear hR hb2 hz2 HA1 HC HB1)
    | (refine wp_loadChg a HA2.out rfl rfl rfl ?_)
    | (refine wp_loadChg b HC2.out rfl rfl rfl ?_)
    | (go_at_call 31; (with_reducible refine (joinError_b a b n HN.out _ ha hb).mono ?_); rintro e w3 ⟨rfl, hbx⟩; have hC := RowAt.keep HC2.out hbx; obtain ⟨_, _, _, _, b4, b5⟩ := ChAt.all hC; have HA3 := Lib.hid (RowAt.keep HA2.out hbx); have HR3 := Lib.hid (RowAt.keep HR.out hbx); have HB3 := Lib.hid (HB2.out.trans (hbx.mono HB2.out.size)); clear hbx hC HA2 HC2 HB2 HR)
    | (refine wp_storeChgW chg0 HR3.out (cvals_length _) rfl rfl rfl rfl ?_; intro w4 hR hS; have HR4 := Lib.hid hR; have HB4 := Lib.hid (hS.below HB3.out le1); clear hR hS HR3 HB3))
  exact bodyPost_ret (res_chgE rfl rfl HR4.out) rfl ⟨rfl, HB4.out⟩
set_option maxRecDepth 4000 in
theorem join_yes (a b : Chg) (n : Int) (hn : joinE a b = n) (h0 : (n != 0) = false) (w : World) (ha : FitsH a) (hb : FitsH b) :
    Calls Try.prog 13 #[.agg a.arr, .agg b.arr] w fun e w' => e = .returned (.tuple #[.agg (Chg.arr ⟨a.page, a.slot, a.before, b.after⟩), .int .i64 0]) ∧ Below w.heap.size w w' := by
  have HU : Hid True := Lib.hid trivial
  have HN := Lib.hid hn
  clear hn
  go_enter Try.func13, Try.ntmps13
  go_wp2_with (first
    | (clear HU; refine wp_boxChgW a rfl rfl rfl ?_; intro w0 hA hb0 hz0; have HA := Lib.hid hA; have HB := Lib.hid hb0; clear hA hb0 hz0)
    | (have le0 := HB.out.size; refine wp_boxChgW b rfl rfl rfl ?_; intro w1 hC hb1 hz1; have HC := Lib.hid hC; have HA1 := Lib.hid (RowAt.keep HA.out hb1); have la := HA.out.lt; have HB1 := Lib.hid (HB.out.trans (hb1.mono HB.out.size)); clear hC hb1 hz1 HA HB)
    | (have le1 := HB1.out.size; refine wp_newChgW rfl rfl ?_; intro w2 hR hb2 hz2; have HR := Lib.hid hR; have la2 := HA1.out.lt; have HA2 := Lib.hid (RowAt.keep HA1.out hb2); have HC2 := Lib.hid (RowAt.keep HC.out hb2); have HB2 := Lib.hid (HB1.out.trans (hb2.mono HB1.out.size)); clear hR hb2 hz2 HA1 HC HB1)
    | (refine wp_loadChg a HA2.out rfl rfl rfl ?_)
    | (refine wp_loadChg b HC2.out rfl rfl rfl ?_)
    | (go_at_call 31; (with_reducible refine (joinError_b a b n HN.out _ ha hb).mono ?_); rintro e w3 ⟨rfl, hbx⟩; have hC := RowAt.keep HC2.out hbx; obtain ⟨_, _, _, _, b4, b5⟩ := ChAt.all hC; have HA3 := Lib.hid (RowAt.keep HA2.out hbx); have HR3 := Lib.hid (RowAt.keep HR.out hbx); have HB3 := Lib.hid (HB2.out.trans (hbx.mono HB2.out.size)); clear hbx hC HA2 HC2 HB2 HR)
    | (refine wp_storeCellW b.after HA3.out (show 4 + 2 ≤ 6 by decide) rfl rfl rfl rfl ?_; intro w4 hA hS; have HJ : Hid (ChAt w.heap.size ⟨a.page, a.slot, a.before, b.after⟩ w4) := Lib.hid hA; have HR4 := Lib.hid (hS.row HR3.out (by omega)); have HB4 := Lib.hid (hS.below HB3.out (Nat.le_refl _)); clear hA hS HA3 HR3 HB3)
    | (refine wp_loadChg ⟨a.page, a.slot, a.before, b.after⟩ HJ.out rfl rfl rfl ?_)
    | (refine wp_storeChgW ⟨a.page, a.slot, a.before, b.after⟩ HR4.out (cvals_length _) rfl rfl rfl rfl ?_; intro w5 hR hS; have HR5 := Lib.hid hR; have HB5 := Lib.hid (hS.below HB4.out le1); clear hR hS HR4 HB4))
  exact bodyPost_ret (res_chgE rfl rfl HR5.out) rfl ⟨rfl, HB5.out⟩
theorem join_any (a b : Chg) (w : World) (ha : FitsH a) (hb : FitsH b) :
    Calls Try.prog 13 #[.agg a.arr, .agg b.arr] w fun e w' => e = .returned (joinT a b) ∧ Below w.heap.size w w' := by
  by_cases h : joinE a b = 0
  · rw [joinT_yes h]; exact join_yes a b _ h (by decide) w ha hb
  · rw [joinT_no _ rfl h]; exact join_no a b _ rfl (by simpa using h) w ha hb
set_option maxRecDepth 4000 in
theorem refJoin_any (a b : Chg) (w : World) (ha : FitsH a) (hb : FitsH b) :
    Calls Try.prog 14 #[.agg a.arr, .agg b.arr] w fun e w' => e = .returned (joinT a b) ∧ Below w.heap.size w w' := by
  have HU : Hid True := Lib.hid trivial
  have hbd := build_chg0
  rcases joinE_case a b with h | ⟨h, h2⟩ | ⟨h, h2, h3⟩ | ⟨h, h2, h3, h4⟩ | ⟨h, h2, h3, h4, h5⟩ | ⟨h, h2, h3, h4, h5⟩
  · rw [joinT_no 22 (joinE_a h) (by decide)]
    have HVA := Lib.hid h
    clear h
    go_enter Try.func14, Try.ntmps14
    go_wp2_with (first
      | (clear HU; refine wp_boxChgW a rfl rfl rfl ?_; intro w0 hA hb0 hz0; have HA := Lib.hid hA; have HB := Lib.hid hb0; clear hA hb0 hz0)
      | (have le0 := HB.out.size; refine wp_boxChgW b rfl rfl rfl ?_; intro w1 hC hb1 hz1; have HC := Lib.hid hC; have HA1 := Lib.hid (RowAt.keep HA.out hb1); have la := HA.out.lt; have HB1 := Lib.hid (HB.out.trans (hb1.mono HB.out.size)); clear hC hb1 hz1 HA HB)
      | (have le1 := HB1.out.size; refine wp_newChgW rfl rfl ?_; intro w2 hR hb2 hz2; have HR := Lib.hid hR; have la2 := HA1.out.lt; have HA2 := Lib.hid (RowAt.keep HA1.out hb2); have HC2 := Lib.hid (RowAt.keep HC.out hb2); have HB2 := Lib.hid (HB1.out.trans (hb2.mono HB1.out.size)); clear hR hb2 hz2 HA1 HC HB1)
      | (refine wp_loadChg a HA2.out rfl rfl rfl ?_)
      | (go_at_call 16; (with_reducible refine (refValid_b a false HVA.out _ ha).mono ?_); rintro e w3 ⟨rfl, hbx⟩; have HA3 := Lib.hid (RowAt.keep HA2.out hbx); have HC3 := Lib.hid (RowAt.keep HC2.out hbx); have HR3 := Lib.hid (RowAt.keep HR.out hbx); have HB3 := Lib.hid (HB2.out.trans (hbx.mono HB2.out.size)); clear hbx HA2 HC2 HR HB2)
      | (refine wp_storeChgW chg0 HR3.out (cvals_length _) rfl rfl rfl rfl ?_; intro w5 hR hS; have HR6 := Lib.hid hR; have HB6 := Lib.hid (hS.below HB3.out le1); clear hR hS HR3 HB3))
    exact bodyPost_ret (res_chgE rfl rfl HR6.out) rfl ⟨rfl, HB6.out⟩
  · rw [joinT_no 22 (joinE_b h h2) (by decide)]
    have HVA := Lib.hid h
    have HVB := Lib.hid h2
    clear h h2
    go_enter Try.func14, Try.ntmps14
    go_wp2_with (first
      | (clear HU; refine wp_boxChgW a rfl rfl rfl ?_; intro w0 hA hb0 hz0; have HA := Lib.hid hA; have HB := Lib.hid hb0; clear hA hb0 hz0)
      | (have le0 := HB.out.size; refine wp_boxChgW b rfl rfl rfl ?_; intro w1 hC hb1 hz1; have HC := Lib.hid hC; have HA1 := Lib.hid (RowAt.keep HA.out hb1); have la := HA.out.lt; have HB1 := Lib.hid (HB.out.trans (hb1.mono HB.out.size)); clear hC hb1 hz1 HA HB)
      | (have le1 := HB1.out.size; refine wp_newChgW rfl rfl ?_; intro w2 hR hb2 hz2; have HR := Lib.hid hR; have la2 := HA1.out.lt; have HA2 := Lib.hid (RowAt.keep HA1.out hb2); have HC2 := Lib.hid (RowAt.keep HC.out hb2); have HB2 := Lib.hid (HB1.out.trans (hb2.mono HB1.out.size)); clear hR hb2 hz2 HA1 HC HB1)
      | (refine wp_loadChg a HA2.out rfl rfl rfl ?_)
      | (go_at_call 16; (with_reducible refine (refValid_b a true HVA.out _ ha).mono ?_); rintro e w3 ⟨rfl, hbx⟩; have HA3 := Lib.hid (RowAt.keep HA2.out hbx); have HC3 := Lib.hid (RowAt.keep HC2.out hbx); have HR3 := Lib.hid (RowAt.keep HR.out hbx); have HB3 := Lib.hid (HB2.out.trans (hbx.mono HB2.out.size)); clear hbx HA2 HC2 HR HB2)
      | (refine wp_loadChg b HC3.out rfl rfl rfl ?_)
      | (go_at_call 16; (with_reducible refine (refValid_b b false HVB.out _ hb).mono ?_); rintro e w4 ⟨rfl, hbx⟩; have hA := RowAt.keep HA3.out hbx; have hC := RowAt.keep HC3.out hbx; obtain ⟨a0, a1, a2, a3, a4, a5⟩ := ChAt.all hA; obtain ⟨b0, b1, b2, b3, b4, b5⟩ := ChAt.all hC; have HA4 := Lib.hid hA; have HR4 := Lib.hid (RowAt.keep HR3.out hbx); have HB4 := Lib.hid (HB3.out.trans (hbx.mono HB3.out.size)); clear hbx hA hC HA3 HC3 HR3 HB3)
      | (refine wp_storeChgW chg0 HR4.out (cvals_length _) rfl rfl rfl rfl ?_; intro w5 hR hS; have HR6 := Lib.hid hR; have HB6 := Lib.hid (hS.below HB4.out le1); clear hR hS HR4 HB4))
    exact bodyPost_ret (res_chgE rfl rfl HR6.out) rfl ⟨rfl, HB6.out⟩
  · rw [joinT_no 6 (joinE_page h h2 h3) (by decide)]
    have HVA := Lib.hid h
    have HVB := Lib.hid h2
    have ne := (show (a.page != b.page) = true by simpa using h3)
    clear h h2 h3
    go_enter Try.func14, Try.ntmps14
    go_wp2_with (first
      | (clear HU; refine wp_boxChgW a rfl rfl rfl ?_; intro w0 hA hb0 hz0; have HA := Lib.hid hA; have HB := Lib.hid hb0; clear hA hb0 hz0)
      | (have le0 := HB.out.size; refine wp_boxChgW b rfl rfl rfl ?_; intro w1 hC hb1 hz1; have HC := Lib.hid hC; have HA1 := Lib.hid (RowAt.keep HA.out hb1); have la := HA.out.lt; have HB1 := Lib.hid (HB.out.trans (hb1.mono HB.out.size)); clear hC hb1 hz1 HA HB)
      | (have le1 := HB1.out.size; refine wp_newChgW rfl rfl ?_; intro w2 hR hb2 hz2; have HR := Lib.hid hR; have la2 := HA1.out.lt; have HA2 := Lib.hid (RowAt.keep HA1.out hb2); have HC2 := Lib.hid (RowAt.keep HC.out hb2); have HB2 := Lib.hid (HB1.out.trans (hb2.mono HB1.out.size)); clear hR hb2 hz2 HA1 HC HB1)
      | (refine wp_loadChg a HA2.out rfl rfl rfl ?_)
      | (go_at_call 16; (with_reducible refine (refValid_b a true HVA.out _ ha).mono ?_); rintro e w3 ⟨rfl, hbx⟩; have HA3 := Lib.hid (RowAt.keep HA2.out hbx); have HC3 := Lib.hid (RowAt.keep HC2.out hbx); have HR3 := Lib.hid (RowAt.keep HR.out hbx); have HB3 := Lib.hid (HB2.out.trans (hbx.mono HB2.out.size)); clear hbx HA2 HC2 HR HB2)
      | (refine wp_loadChg b HC3.out rfl rfl rfl ?_)
      | (go_at_call 16; (with_reducible refine (refValid_b b true HVB.out _ hb).mono ?_); rintro e w4 ⟨rfl, hbx⟩; have hA := RowAt.keep HA3.out hbx; have hC := RowAt.keep HC3.out hbx; obtain ⟨a0, a1, a2, a3, a4, a5⟩ := ChAt.all hA; obtain ⟨b0, b1, b2, b3, b4, b5⟩ := ChAt.all hC; have HA4 := Lib.hid hA; have HR4 := Lib.hid (RowAt.keep HR3.out hbx); have HB4 := Lib.hid (HB3.out.trans (hbx.mono HB3.out.size)); clear hbx hA hC HA3 HC3 HR3 HB3)
      | (refine wp_storeChgW chg0 HR4.out (cvals_length _) rfl rfl rfl rfl ?_; intro w5 hR hS; have HR6 := Lib.hid hR; have HB6 := Lib.hid (hS.below HB4.out le1); clear hR hS HR4 HB4))
    exact bodyPost_ret (res_chgE rfl rfl HR6.out) rfl ⟨rfl, HB6.out⟩
  · rw [joinT_no 6 (joinE_slot h h2 h4) (by decide)]
    have HVA := Lib.hid h
    have HVB := Lib.hid h2
    have eq := (show (a.page != b.page) = false by simpa using h3)
    have ne := (show (a.slot != b.slot) = true by simpa using h4)
    clear h h2 h3 h4
    go_enter Try.func14, Try.ntmps14
    go_wp2_with (first
      | (clear HU; refine wp_boxChgW a rfl rfl rfl ?_; intro w0 hA hb0 hz0; have HA := Lib.hid hA; have HB := Lib.hid hb0; clear hA hb0 hz0)
      | (have le0 := HB.out.size; refine wp_boxChgW b rfl rfl rfl ?_; intro w1 hC hb1 hz1; have HC := Lib.hid hC; have HA1 := Lib.hid (RowAt.keep HA.out hb1); have la := HA.out.lt; have HB1 := Lib.hid (HB.out.trans (hb1.mono HB.out.size)); clear hC hb1 hz1 HA HB)
      | (have le1 := HB1.out.size; refine wp_newChgW rfl rfl ?_; intro w2 hR hb2 hz2; have HR := Lib.hid hR; have la2 := HA1.out.lt; have HA2 := Lib.hid (RowAt.keep HA1.out hb2); have HC2 := Lib.hid (RowAt.keep HC.out hb2); have HB2 := Lib.hid (HB1.out.trans (hb2.mono HB1.out.size)); clear hR hb2 hz2 HA1 HC HB1)
      | (refine wp_loadChg a HA2.out rfl rfl rfl ?_)
      | (go_at_call 16; (with_reducible refine (refValid_b a true HVA.out _ ha).mono ?_); rintro e w3 ⟨rfl, hbx⟩; have HA3 := Lib.hid (RowAt.keep HA2.out hbx); have HC3 := Lib.hid (RowAt.keep HC2.out hbx); have HR3 := Lib.hid (RowAt.keep HR.out hbx); have HB3 := Lib.hid (HB2.out.trans (hbx.mono HB2.out.size)); clear hbx HA2 HC2 HR HB2)
      | (refine wp_loadChg b HC3.out rfl rfl rfl ?_)
      | (go_at_call 16; (with_reducible refine (refValid_b b true HVB.out _ hb).mono ?_); rintro e w4 ⟨rfl, hbx⟩; have hA := RowAt.keep HA3.out hbx; have hC := RowAt.keep HC3.out hbx; obtain ⟨a0, a1, a2, a3, a4, a5⟩ := ChAt.all hA; obtain ⟨b0, b1, b2, b3, b4, b5⟩ := ChAt.all hC; have HA4 := Lib.hid hA; have HR4 := Lib.hid (RowAt.keep HR3.out hbx); have HB4 := Lib.hid (HB3.out.trans (hbx.mono HB3.out.size)); clear hbx hA hC HA3 HC3 HR3 HB3)
      | (refine wp_storeChgW chg0 HR4.out (cvals_length _) rfl rfl rfl rfl ?_; intro w5 hR hS; have HR6 := Lib.hid hR; have HB6 := Lib.hid (hS.below HB4.out le1); clear hR hS HR4 HB4))
    exact bodyPost_ret (res_chgE rfl rfl HR6.out) rfl ⟨rfl, HB6.out⟩
  · rw [joinT_no 20 (joinE_cell h h2 h3 h4 h5) (by decide)]
    have HVA := Lib.hid h
    have HVB := Lib.hid h2
    have eq := (show (a.page != b.page) = false by simpa using h3)
    have eq2 := (show (a.slot != b.slot) = false by simpa using h4)
    have hne := cell_neq b.before a.after
    rw [h5] at hne
    clear h h2 h3 h4 h5
    go_enter Try.func14, Try.ntmps14
    go_wp2_with (first
      | (clear HU; refine wp_boxChgW a rfl rfl rfl ?_; intro w0 hA hb0 hz0; have HA := Lib.hid hA; have HB := Lib.hid hb0; clear hA hb0 hz0)
      | (have le0 := HB.out.size; refine wp_boxChgW b rfl rfl rfl ?_; intro w1 hC hb1 hz1; have HC := Lib.hid hC; have HA1 := Lib.hid (RowAt.keep HA.out hb1); have la := HA.out.lt; have HB1 := Lib.hid (HB.out.trans (hb1.mono HB.out.size)); clear hC hb1 hz1 HA HB)
      | (have le1 := HB1.out.size; refine wp_newChgW rfl rfl ?_; intro w2 hR hb2 hz2; have HR := Lib.hid hR; have la2 := HA1.out.lt; have HA2 := Lib.hid (RowAt.keep HA1.out hb2); have HC2 := Lib.hid (RowAt.keep HC.out hb2); have HB2 := Lib.hid (HB1.out.trans (hb2.mono HB1.out.size)); clear hR hb2 hz2 HA1 HC HB1)
      | (refine wp_loadChg a HA2.out rfl rfl rfl ?_)
      | (go_at_call 16; (with_reducible refine (refValid_b a true HVA.out _ ha).mono ?_); rintro e w3 ⟨rfl, hbx⟩; have HA3 := Lib.hid (RowAt.keep HA2.out hbx); have HC3 := Lib.hid (RowAt.keep HC2.out hbx); have HR3 := Lib.hid (RowAt.keep HR.out hbx); have HB3 := Lib.hid (HB2.out.trans (hbx.mono HB2.out.size)); clear hbx HA2 HC2 HR HB2)
      | (refine wp_loadChg b HC3.out rfl rfl rfl ?_)
      | (go_at_call 16; (with_reducible refine (refValid_b b true HVB.out _ hb).mono ?_); rintro e w4 ⟨rfl, hbx⟩; have hA := RowAt.keep HA3.out hbx; have hC := RowAt.keep HC3.out hbx; obtain ⟨a0, a1, a2, a3, a4, a5⟩ := ChAt.all hA; obtain ⟨b0, b1, b2, b3, b4, b5⟩ := ChAt.all hC; have HA4 := Lib.hid hA; have HR4 := Lib.hid (RowAt.keep HR3.out hbx); have HB4 := Lib.hid (HB3.out.trans (hbx.mono HB3.out.size)); clear hbx hA hC HA3 HC3 HR3 HB3)
      | (refine wp_storeChgW chg0 HR4.out (cvals_length _) rfl rfl rfl rfl ?_; intro w5 hR hS; have HR6 := Lib.hid hR; have HB6 := Lib.hid (hS.below HB4.out le1); clear hR hS HR4 HB4))
    exact bodyPost_ret (res_chgE rfl rfl HR6.out) rfl ⟨rfl, HB6.out⟩
  · rw [joinT_yes (joinE_ok h h2 h3 h4 h5)]
    have HVA := Lib.hid h
    have HVB := Lib.hid h2
    have eq := (show (a.page != b.page) = false by simpa using h3)
    have eq2 := (show (a.slot != b.slot) = false by simpa using h4)
    have hne := cell_neq b.before a.after
    rw [h5] at hne
    clear h h2 h3 h4 h5
    go_enter Try.func14, Try.ntmps14
    go_wp2_with (first
      | (clear HU; refine wp_boxChgW a rfl rfl rfl ?_; intro w0 hA hb0 hz0; have HA := Lib.hid hA; have HB := Lib.hid hb0; clear hA hb0 hz0)
      | (have le0 := HB.out.size; refine wp_boxChgW b rfl rfl rfl ?_; intro w1 hC hb1 hz1; have HC := Lib.hid hC; have HA1 := Lib.hid (RowAt.keep HA.out hb1); have la := HA.out.lt; have HB1 := Lib.hid (HB.out.trans (hb1.mono HB.out.size)); clear hC hb1 hz1 HA HB)
      | (have le1 := HB1.out.size; refine wp_newChgW rfl rfl ?_; intro w2 hR hb2 hz2; have HR := Lib.hid hR; have la2 := HA1.out.lt; have HA2 := Lib.hid (RowAt.keep HA1.out hb2); have HC2 := Lib.hid (RowAt.keep HC.out hb2); have HB2 := Lib.hid (HB1.out.trans (hb2.mono HB1.out.size)); clear hR hb2 hz2 HA1 HC HB1)
      | (refine wp_loadChg a HA2.out rfl rfl rfl ?_)
      | (go_at_call 16; (with_reducible refine (refValid_b a true HVA.out _ ha).mono ?_); rintro e w3 ⟨rfl, hbx⟩; have HA3 := Lib.hid (RowAt.keep HA2.out hbx); have HC3 := Lib.hid (RowAt.keep HC2.out hbx); have HR3 := Lib.hid (RowAt.keep HR.out hbx); have HB3 := Lib.hid (HB2.out.trans (hbx.mono HB2.out.size)); clear hbx HA2 HC2 HR HB2)
      | (refine wp_loadChg b HC3.out rfl rfl rfl ?_)
      | (go_at_call 16; (with_reducible refine (refValid_b b true HVB.out _ hb).mono ?_); rintro e w4 ⟨rfl, hbx⟩; have hA := RowAt.keep HA3.out hbx; have hC := RowAt.keep HC3.out hbx; obtain ⟨a0, a1, a2, a3, a4, a5⟩ := ChAt.all hA; obtain ⟨b0, b1, b2, b3, b4, b5⟩ := ChAt.all hC; have HA4 := Lib.hid hA; have HR4 := Lib.hid (RowAt.keep HR3.out hbx); have HB4 := Lib.hid (HB3.out.trans (hbx.mono HB3.out.size)); clear hbx hA hC HA3 HC3 HR3 HB3)
      | (refine wp_storeCellW b.after HA4.out (show 4 + 2 ≤ 6 by decide) rfl rfl rfl rfl ?_; intro w5 hA hS; have HJ : Hid (ChAt w.heap.size ⟨a.page, a.slot, a.before, b.after⟩ w5) := Lib.hid hA; have HR5 := Lib.hid (hS.row HR4.out (by omega)); have HB5 := Lib.hid (hS.below HB4.out (Nat.le_refl _)); clear hA hS HA4 HR4 HB4)
      | (refine wp_loadChg ⟨a.page, a.slot, a.before, b.after⟩ HJ.out rfl rfl rfl ?_)
      | (refine wp_storeChgW ⟨a.page, a.slot, a.before, b.after⟩ HR5.out (cvals_length _) rfl rfl rfl rfl ?_; intro w6 hR hS; have HR6 := Lib.hid hR; have HB6 := Lib.hid (hS.below HB5.out le1); clear hR hS HR5 HB5))
    exact bodyPost_ret (res_chgE rfl rfl HR6.out) rfl ⟨rfl, HB6.out⟩
end Go.Proofs.Ytkcgcddpgfcgiaa.kf
