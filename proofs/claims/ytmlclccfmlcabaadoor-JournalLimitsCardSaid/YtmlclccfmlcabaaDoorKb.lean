/- Which cells and changes are valid: the program and the reference. -/
import Derived.Test.YtmlclccfmlcabaaDoorKa
namespace Go.Proofs.YtmlclccfmlcabaaDoor.kb
open Go.ChangeShapes Go.WideShapes Go.ChangeAt Go.RowKit Go.Proofs.YtmlclccfmlcabaaDoor.cx Go.Proofs.YtmlclccfmlcabaaDoor.da Go.Proofs.YtmlclccfmlcabaaDoor.ea Go.Proofs.YtmlclccfmlcabaaDoor.eb Go.Proofs.YtmlclccfmlcabaaDoor.ed Go.Proofs.YtmlclccfmlcabaaDoor.fb Go.Proofs.YtmlclccfmlcabaaDoor.ka Go.Proofs.YtmlclccfmlcabaaDoor.ra Go.Proofs.YtmlclccfmlcabaaDoor.rb Go.Proofs.YtmlclccfmlcabaaDoor.rc Go.Proofs.YtmlclccfmlcabaaDoor.ya
def idB (n : Int) : Bool := decide (0 ≤ n ∧ n < 64)
def slotB (n : Int) : Bool := decide (0 ≤ n ∧ n < 16)
theorem ret_bool {a b : Bool} (h : a = b) : Ending.returned (.bool a) = .returned (.bool b) := by rw [h]
theorem validPage_any (n : Int) (w : World) :
    Calls Tryd.prog 48 #[.int .i64 n] w fun e w' => e = .returned (.bool (idB n)) ∧ w = w' := by
  by_cases h0 : 0 ≤ n
  · by_cases h1 : n < 64
    · have hv : idB n = true := decide_eq_true ⟨h0, h1⟩
      rw [hv]; clear hv
      go_enter Tryd.func48, Tryd.ntmps48
      go_wp2
      go_ret
      exact ⟨rfl, rfl⟩
    · have hv : idB n = false := decide_eq_false (fun h => h1 h.2)
      rw [hv]; clear hv
      have hd : decide (n < 64) = false := by simpa using h1
      go_enter Tryd.func48, Tryd.ntmps48
      go_wp2
      go_ret
      exact ⟨rfl, rfl⟩
  · have hv : idB n = false := decide_eq_false (fun h => h0 h.1)
    rw [hv]; clear hv
    have hd : decide (0 ≤ n) = false := by simpa using h0
    go_enter Tryd.func48, Tryd.ntmps48
    go_wp2
    go_ret
    exact ⟨rfl, rfl⟩
theorem validSlot_any (n : Int) (w : World) :
    Calls Tryd.prog 49 #[.int .i64 n] w fun e w' => e = .returned (.bool (slotB n)) ∧ w = w' := by
  by_cases h0 : 0 ≤ n
  · by_cases h1 : n < 16
    · have hv : slotB n = true := decide_eq_true ⟨h0, h1⟩
      rw [hv]; clear hv
      go_enter Tryd.func49, Tryd.ntmps49
      go_wp2
      go_ret
      exact ⟨rfl, rfl⟩
    · have hv : slotB n = false := decide_eq_false (fun h => h1 h.2)
      rw [hv]; clear hv
      have hd : decide (n < 16) = false := by simpa using h1
      go_enter Tryd.func49, Tryd.ntmps49
      go_wp2
      go_ret
      exact ⟨rfl, rfl⟩
  · have hv : slotB n = false := decide_eq_false (fun h => h0 h.1)
    rw [hv]; clear hv
    have hd : decide (0 ≤ n) = false := by simpa using h0
    go_enter Tryd.func49, Tryd.ntmps49
    go_wp2
    go_ret
    exact ⟨rfl, rfl⟩
theorem validCell_any (c : CellM) (w : World) (hc : c.data.size ≤ 9223372036854775807) :
    Calls Tryd.prog 50 #[.agg #[.bool c.set, .string c.data]] w fun e w' => e = .returned (.bool (cellB c)) ∧ Below w.heap.size w w' := by
  obtain ⟨b, s⟩ := c
  simp only at hc
  cases b
  · go_enter Tryd.func50, Tryd.ntmps50
    go_wp2
    go_ret
    refine ⟨ret_bool ?_, (Below.refl _ _).alloc (Nat.le_refl _) _⟩
    rw [Bool.eq_iff_iff]
    simp only [cellB, decide_eq_true_eq, List.isEmpty_iff, nil_iff, true_implies]
    exact ⟨fun h => ⟨by rw [h]; exact Nat.zero_le _, h⟩, fun h => h.2⟩
  · go_enter Tryd.func50, Tryd.ntmps50
    go_wp2
    go_ret
    exact ⟨ret_bool (by rw [Bool.eq_iff_iff]; simp [cellB]; omega), (Below.refl _ _).alloc (Nat.le_refl _) _⟩
/-- No string of the change is longer than anything may be. -/
def FitsH (c : Chg) : Prop := c.before.data.size ≤ 9223372036854775807 ∧ c.after.data.size ≤ 9223372036854775807
def validH (c : Chg) : Bool := idB c.page && (slotB c.slot && (cellB c.before && cellB c.after))
theorem validPage_b (n : Int) (b : Bool) (h : idB n = b) (w : World) : Calls Tryd.prog 48 #[.int .i64 n] w fun e w' => e = .returned (.bool b) ∧ w = w' := h ▸ validPage_any n w
theorem validSlot_b (n : Int) (b : Bool) (h : slotB n = b) (w : World) : Calls Tryd.prog 49 #[.int .i64 n] w fun e w' => e = .returned (.bool b) ∧ w = w' := h ▸ validSlot_any n w
theorem validCell_b (c : CellM) (b : Bool) (h : cellB c = b) (w : World) (hc : c.data.size ≤ 9223372036854775807) :
    Calls Tryd.prog 50 #[.agg #[.bool c.set, .string c.data]] w fun e w' => e = .returned (.bool b) ∧ Below w.heap.size w w' := h ▸ validCell_any c w hc
set_option maxRecDepth 4000 in
theorem valid_any (c : Chg) (w : World) (hc : FitsH c) :
    Calls Tryd.prog 34 #[.agg c.arr] w fun e w' => e = .returned (.bool (validH c)) ∧ Below w.heap.size w w' := by
  obtain ⟨f1, f2⟩ := hc
  unfold validH
  cases h1 : idB c.page
  · have H1 := Lib.hid h1
    clear h1
    go_enter Tryd.func34, Tryd.ntmps34
    go_wp2_with (first
      | (refine wp_boxChgW c rfl rfl rfl ?_; intro w0 hP hb0 hz0; have HC := Lib.hid hP; have HB := Lib.hid hb0; obtain ⟨a0, a1, a2, a3, a4, a5⟩ := hP.all; clear hP hb0 hz0)
      | (go_at_call 48; (with_reducible refine (validPage_b c.page false H1.out _).mono ?_); rintro e w1 ⟨rfl, rfl⟩))
    go_ret
    exact ⟨rfl, HB.out⟩
  cases h2 : slotB c.slot
  · have H1 := Lib.hid h1
    have H2 := Lib.hid h2
    clear h1 h2
    go_enter Tryd.func34, Tryd.ntmps34
    go_wp2_with (first
      | (refine wp_boxChgW c rfl rfl rfl ?_; intro w0 hP hb0 hz0; have HC := Lib.hid hP; have HB := Lib.hid hb0; obtain ⟨a0, a1, a2, a3, a4, a5⟩ := hP.all; clear hP hb0 hz0)
      | (go_at_call 48; (with_reducible refine (validPage_b c.page true H1.out _).mono ?_); rintro e w1 ⟨rfl, rfl⟩)
      | (go_at_call 49; (with_reducible refine (validSlot_b c.slot false H2.out _).mono ?_); rintro e w1 ⟨rfl, rfl⟩))
    go_ret
    exact ⟨rfl, HB.out⟩
  cases h3 : cellB c.before
  · have H1 := Lib.hid h1
    have H2 := Lib.hid h2
    have H3 := Lib.hid h3
    clear h1 h2 h3
    go_enter Tryd.func34, Tryd.ntmps34
    go_wp2_with (first
      | (refine wp_boxChgW c rfl rfl rfl ?_; intro w0 hP hb0 hz0; have HC := Lib.hid hP; have HB := Lib.hid hb0; obtain ⟨a0, a1, a2, a3, a4, a5⟩ := hP.all; clear hP hb0 hz0)
      | (go_at_call 48; (with_reducible refine (validPage_b c.page true H1.out _).mono ?_); rintro e w1 ⟨rfl, rfl⟩)
      | (go_at_call 49; (with_reducible refine (validSlot_b c.slot true H2.out _).mono ?_); rintro e w1 ⟨rfl, rfl⟩)
      | (go_at_call 50; (with_reducible refine (validCell_b c.before false H3.out _ f1).mono ?_); rintro e w1 ⟨rfl, hb1⟩; have HB1 := Lib.hid (HB.out.trans (hb1.mono HB.out.size)); clear hb1))
    go_ret
    exact ⟨rfl, HB1.out⟩
  cases h4 : cellB c.after
  all_goals
    have H1 := Lib.hid h1
    have H2 := Lib.hid h2
    have H3 := Lib.hid h3
    have H4 := Lib.hid h4
    clear h1 h2 h3 h4
    go_enter Tryd.func34, Tryd.ntmps34
    go_wp2_with (first
      | (refine wp_boxChgW c rfl rfl rfl ?_; intro w0 hP hb0 hz0; have HC := Lib.hid hP; have HB := Lib.hid hb0; obtain ⟨a0, a1, a2, a3, a4, a5⟩ := hP.all; clear hP hb0 hz0)
      | (go_at_call 48; (with_reducible refine (validPage_b c.page true H1.out _).mono ?_); rintro e w1 ⟨rfl, rfl⟩)
      | (go_at_call 49; (with_reducible refine (validSlot_b c.slot true H2.out _).mono ?_); rintro e w1 ⟨rfl, rfl⟩)
      | (go_at_call 50; (with_reducible refine (validCell_b c.before true H3.out _ f1).mono ?_); rintro e w1 ⟨rfl, hb1⟩; have HB1 := Lib.hid (HB.out.trans (hb1.mono HB.out.size)); obtain ⟨_, _, _, _, b4, b5⟩ := ChAt.all (HC.out.keep hb1); clear hb1 HB HC a0 a1 a2 a3 a4 a5)
      | (go_at_call 50; (with_reducible refine (validCell_b c.after _ H4.out _ f2).mono ?_); rintro e w2 ⟨rfl, hb2⟩; have HB2 := Lib.hid (HB1.out.trans (hb2.mono HB1.out.size)); clear hb2 HB1))
    go_ret
    exact ⟨rfl, HB2.out⟩
end Go.Proofs.YtmlclccfmlcabaaDoor.kb
