/- The draw of a change; the sanity check of layer 3. -/
import Derived.Test.YtiojpfljnbdonaaKb
namespace Go.Proofs.Ytiojpfljnbdonaa.kg
open Go.ChangeShapes Go.WideShapes Go.ChangeAt Go.RowKit Go.Proofs.Ytiojpfljnbdonaa.cx Go.Proofs.Ytiojpfljnbdonaa.da Go.Proofs.Ytiojpfljnbdonaa.ea Go.Proofs.Ytiojpfljnbdonaa.eb Go.Proofs.Ytiojpfljnbdonaa.ed Go.Proofs.Ytiojpfljnbdonaa.fb Go.Proofs.Ytiojpfljnbdonaa.ka Go.Proofs.Ytiojpfljnbdonaa.kb Go.Proofs.Ytiojpfljnbdonaa.ra Go.Proofs.Ytiojpfljnbdonaa.rb Go.Proofs.Ytiojpfljnbdonaa.rc Go.Proofs.Ytiojpfljnbdonaa.ya
theorem cell_le {c : CellM} (h : cellB c = true) : c.data.size ≤ 9223372036854775807 := by
  unfold cellB at h
  simp at h
  omega
def Drawn (c : Chg) : Prop := 0 ≤ c.page ∧ c.page < 4 ∧ 0 ≤ c.slot ∧ c.slot < 3 ∧ cellB c.before = true ∧ cellB c.after = true
def ChangeR (p : Nat) (w : World) (e : Ending) (w' : World) : Prop := ∃ c : Chg, e = .returned (.agg c.arr) ∧ Drawn c ∧ Cod p w' ∧ Since p w w'
theorem drawn_fits {c : Chg} (h : Drawn c) : FitsH c := ⟨cell_le h.2.2.2.2.1, cell_le h.2.2.2.2.2⟩
set_option maxRecDepth 4000 in
theorem change_any (p : Nat) (w : World) (h : Cod p w) : Calls Try.prog 22 #[.pointer (some ⟨p, 0, none⟩)] w (ChangeR p w) := by
  have hlt := cod_lt h
  have H := Lib.hid h
  have HU : Hid True := Lib.hid trivial
  clear h
  go_enter Try.func22, Try.ntmps22
  go_wp2_with (first
    | (clear HU; refine wp_newChgW rfl rfl ?_; intro w1 hR hb1 hz1; have HR := Lib.hid hR; have HC := Lib.hid (cod_keep H.out hb1); have HS := Lib.hid (since_below (grownBy_refl w (some p)) hb1); clear hR hb1 hz1 H)
    | (go_at_call 19; (with_reducible refine (next_any p 4 _ HC.out (by decide)).mono ?_); rintro e w2 ⟨r1, rfl, h1a, h1b, _, hC2, hg2⟩; have HR2 := Lib.hid (RowAt.grown HR.out hg2 (row_ne hlt)); have HC2 := Lib.hid hC2; have HS2 := Lib.hid (grownBy_trans HS.out hg2); have h1c := h1b (by decide); clear hC2 hg2 HR HC HS h1b)
    | (go_at_call 19; (with_reducible refine (next_any p 3 _ HC2.out (by decide)).mono ?_); rintro e w3 ⟨r2, rfl, h2a, h2b, _, hC3, hg3⟩; have HR3 := Lib.hid (RowAt.grown HR2.out hg3 (row_ne hlt)); have HC3 := Lib.hid hC3; have HS3 := Lib.hid (grownBy_trans HS2.out hg3); have h2c := h2b (by decide); clear hC3 hg3 HR2 HC2 HS2 h2b)
    | (go_at_call 39; (with_reducible refine (cell_any p _ HC3.out).mono ?_); rintro e w4 ⟨c1, rfl, hc1, hC4, hg4⟩; have HR4 := Lib.hid (RowAt.grown HR3.out hg4 (row_ne hlt)); have HC4 := Lib.hid hC4; have HS4 := Lib.hid (grownBy_trans HS3.out hg4); clear hC4 hg4 HR3 HC3 HS3)
    | (go_at_call 39; (with_reducible refine (cell_any p _ HC4.out).mono ?_); rintro e w5 ⟨c2, rfl, hc2, hC5, hg5⟩; have HR5 := Lib.hid (RowAt.grown HR4.out hg5 (row_ne hlt)); have HC5 := Lib.hid hC5; have HS5 := Lib.hid (grownBy_trans HS4.out hg5); have hbd := build_chg r1 r2 c1 c2; clear hC5 hg5 HR4 HC4 HS4)
    | (refine wp_storeChgW ⟨r1, r2, c1, c2⟩ HR5.out (cvals_length _) rfl rfl rfl rfl ?_; intro w6 hR hS; have HR6 := Lib.hid hR; have HC6 := Lib.hid (hS.cod HC5.out hlt); have HS6 := Lib.hid (hS.since HS5.out (Nat.le_refl _)); clear hR hS HR5 HC5 HS5))
  exact bodyPost_ret (res_chg rfl rfl HR6.out) rfl ⟨_, rfl, ⟨h1a, h1c, h2a, h2c, hc1, hc2⟩, HC6.out, HS6.out⟩

end Go.Proofs.Ytiojpfljnbdonaa.kg
