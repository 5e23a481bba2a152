/- Inverse and Join: the program and the reference. -/
import Derived.Test.YtkcgcddpgfcgiaaKd
namespace Go.Proofs.Ytkcgcddpgfcgiaa.ke
open Go.ChangeShapes Go.WideShapes Go.ChangeAt Go.RowKit Go.Proofs.Ytkcgcddpgfcgiaa.cx Go.Proofs.Ytkcgcddpgfcgiaa.ra Go.Proofs.Ytkcgcddpgfcgiaa.rc Go.Proofs.Ytkcgcddpgfcgiaa.da Go.Proofs.Ytkcgcddpgfcgiaa.di Go.Proofs.Ytkcgcddpgfcgiaa.ed Go.Proofs.Ytkcgcddpgfcgiaa.fb Go.Proofs.Ytkcgcddpgfcgiaa.ka Go.Proofs.Ytkcgcddpgfcgiaa.kb Go.Proofs.Ytkcgcddpgfcgiaa.kc Go.Proofs.Ytkcgcddpgfcgiaa.kd

def inv (c : Chg) : Chg := ⟨c.page, c.slot, c.after, c.before⟩
theorem inv_vals (c : Chg) : splice (splice c.vals 2 c.after.vals) 4 c.before.vals = (inv c).vals := rfl
set_option maxRecDepth 4000 in
theorem inverse_any (c : Chg) (w : World) :
    Calls Try.prog 17 #[.agg c.arr] w fun e w' => e = .returned (.agg (inv c).arr) ∧ Below w.heap.size w w' := by
  have HU : Hid True := Lib.hid trivial
  go_enter Try.func17, Try.ntmps17
  go_wp2_with (first
    | (clear HU; refine wp_boxChgW c rfl rfl rfl ?_; intro w1 hC hb1 hz1; have HC := Lib.hid hC; have HB := Lib.hid hb1; clear hC hb1 hz1)
    | (have le1 := HB.out.size; have lt1 := HC.out.lt; refine wp_newChgW rfl rfl ?_; intro w2 hR hb2 hz2; have hC2 := RowAt.keep HC.out hb2; obtain ⟨_, _, a2, a3, a4, a5⟩ := ChAt.all hC2; have HC2 := Lib.hid hC2; have HR := Lib.hid hR; have HB2 := Lib.hid (HB.out.trans (hb2.mono HB.out.size)); clear hR hb2 hz2 hC2 HC HB)
    | (refine wp_storeCellW c.after HC2.out (show 2 + 2 ≤ 6 by decide) rfl rfl rfl rfl ?_; intro w3 hC hS; have HC3 := Lib.hid hC; have HR3 := Lib.hid (hS.row HR.out (by omega)); have HB3 := Lib.hid (hS.below HB2.out (Nat.le_refl _)); clear hC hS HC2 HR HB2)
    | (refine wp_storeCellW c.before HC3.out (show 4 + 2 ≤ 6 by decide) rfl rfl rfl rfl ?_; intro w4 hC hS; have HI : Hid (ChAt w.heap.size (inv c) w4) := Lib.hid hC; have HR4 := Lib.hid (hS.row HR3.out (by omega)); have HB4 := Lib.hid (hS.below HB3.out (Nat.le_refl _)); clear hC hS HC3 HR3 HB3)
    | (refine wp_loadChg (inv c) HI.out rfl rfl rfl ?_)
    | (refine wp_storeChgW (inv c) HR4.out (cvals_length _) rfl rfl rfl rfl ?_; intro w5 hR hS; have HR5 := Lib.hid hR; have HB5 := Lib.hid (hS.below HB4.out le1); clear hR hS HR4 HB4))
  exact bodyPost_ret (res_chg rfl rfl HR5.out) rfl ⟨rfl, HB5.out⟩
set_option maxRecDepth 4000 in
theorem refInverse_any (c : Chg) (w : World) :
    Calls Try.prog 18 #[.agg c.arr] w fun e w' => e = .returned (.agg (inv c).arr) ∧ Below w.heap.size w w' := by
  have hb := build_chg c.page c.slot c.after c.before
  have HU : Hid True := Lib.hid trivial
  go_enter Try.func18, Try.ntmps18
  go_wp2_with (first
    | (clear HU; refine wp_boxChgW c rfl rfl rfl ?_; intro w1 hC hb1 hz1; have HC := Lib.hid hC; have HB := Lib.hid hb1; clear hC hb1 hz1)
    | (have le1 := HB.out.size; refine wp_newChgW rfl rfl ?_; intro w2 hR hb2 hz2; obtain ⟨a0, a1, a2, a3, a4, a5⟩ := ChAt.all (HC.out.keep hb2); have HR := Lib.hid hR; have HBB := Lib.hid (HB.out.trans (hb2.mono HB.out.size)); clear hR hb2 hz2 HC HB)
    | (refine wp_storeChgW (inv c) HR.out (cvals_length _) rfl rfl rfl rfl ?_; intro w4 hR hS; have HR4 := Lib.hid hR; have HB4 := Lib.hid (hS.below HBB.out le1); clear hR hS HR HBB))
  exact bodyPost_ret (res_chg rfl rfl HR4.out) rfl ⟨rfl, HB4.out⟩
end Go.Proofs.Ytkcgcddpgfcgiaa.ke
