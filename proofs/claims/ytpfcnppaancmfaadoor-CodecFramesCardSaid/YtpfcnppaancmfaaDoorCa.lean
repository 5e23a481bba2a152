/- The sanity check at the head of every statement of layer 1. -/
import Derived.Test.YtpfcnppaancmfaaDoorCg
namespace Go.Proofs.YtpfcnppaancmfaaDoor.ca
open Go.ChangeShapes Go.WideShapes Go.ChangeAt Go.RowKit Go.Proofs.YtpfcnppaancmfaaDoor.cm Go.Proofs.YtpfcnppaancmfaaDoor.cw Go.Proofs.YtpfcnppaancmfaaDoor.cp Go.Proofs.YtpfcnppaancmfaaDoor.cg

theorem tab_below {w w' : World} {B : Nat} (h : TabOk w) (hb : Below B w w') (hB : 0 < B) : TabOk w' :=
  fun k hk => (hb.cell (p := ⟨0, k, none⟩) hB).trans (h k hk)
theorem tab_size {w : World} (h : TabOk w) : 0 < w.heap.size := by
  have := h 0 (by decide)
  rcases Nat.eq_zero_or_pos w.heap.size with e | e
  · have hn : w.heap[0]? = none := by simp [e]
    simp [World.cell?, hn] at this
  · exact e
theorem get513 : getN (putS ⟨#[]⟩ 513 2) 0 2 = 513 := by decide +kernel

theorem get_513 (w : World) : Calls Tryd.prog 11 #[.string (putS ⟨#[]⟩ 513 2), .int .i64 0, .int .i64 2] w fun e w' => e = .returned (.tuple #[.int .i64 513, .int .i64 0]) ∧ w = w' := by
  have h := get_yes (putS ⟨#[]⟩ 513 2) 0 2 w (by decide) (by decide) (by decide) (by decide)
  rw [get513] at h
  exact h
theorem sum_check (w : World) (hw : TabOk w) : Calls Tryd.prog 19 #[.string ⟨#[49, 50, 51, 52, 53, 54, 55, 56, 57]⟩] w fun e w' => e = .returned (.int .u32 3808858755) ∧ w = w' := by
  have h := sum_any ⟨#[49, 50, 51, 52, 53, 54, 55, 56, 57]⟩ w (by decide) hw
  rw [show (⟨#[49, 50, 51, 52, 53, 54, 55, 56, 57]⟩ : ByteArray).data.toList = [49, 50, 51, 52, 53, 54, 55, 56, 57] from rfl, crc_check] at h
  exact h

theorem awake_any (w : World) (hw : TabOk w) : Calls Tryd.prog 8 #[] w fun e w' => e = .returned (.bool true) ∧ Below w.heap.size w w' := by
  have hz := tab_size hw
  go_enter Tryd.func8, Tryd.ntmps8
  go_wp2_with (first
    | (go_at_call 9; refine (put_yes ⟨#[]⟩ 513 2 _ (by decide) (by decide) (by decide)).mono ?_; rintro e w1 ⟨rfl, hb1⟩)
    | (go_at_call 11; refine (get_513 _).mono ?_; rintro e w2 ⟨rfl, rfl⟩)
    | (go_at_call 19; refine (sum_check _ (tab_below hw (by assumption) hz)).mono ?_; rintro e w2 ⟨rfl, rfl⟩))
  go_ret
  exact ⟨rfl, by assumption⟩
end Go.Proofs.YtpfcnppaancmfaaDoor.ca
