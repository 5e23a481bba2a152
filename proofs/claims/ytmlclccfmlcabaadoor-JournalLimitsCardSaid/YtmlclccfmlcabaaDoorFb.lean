/- PageTears: the walk. The sanity check of layer 2. -/
import Derived.Test.YtmlclccfmlcabaaDoorEb
namespace Go.Proofs.YtmlclccfmlcabaaDoor.fb
open Go.ChangeShapes Go.WideShapes Go.ChangeAt Go.RowKit Go.Proofs.YtmlclccfmlcabaaDoor.cx Go.Proofs.YtmlclccfmlcabaaDoor.da Go.Proofs.YtmlclccfmlcabaaDoor.ea Go.Proofs.YtmlclccfmlcabaaDoor.eb Go.Proofs.YtmlclccfmlcabaaDoor.ra Go.Proofs.YtmlclccfmlcabaaDoor.rb Go.Proofs.YtmlclccfmlcabaaDoor.rc Go.Proofs.YtmlclccfmlcabaaDoor.ya
theorem bytesIn_below {so : Option Addr} {len : Nat} {w w' : World} (h : BytesIn so len w) (hb : Below w.heap.size w w') : BytesIn so len w' := fun i hi => by
  obtain ⟨b, off, x, e, hc, hx⟩ := h i hi
  exact ⟨b, off, x, e, (hb.cell (p := ⟨b, off + i, none⟩) (cell_lt hc)).trans hc, hx⟩
/-- Some cells of block b have been stored. -/
def Stored (b : Nat) (w W : World) : Prop := ∃ us, W = w.setCells b 0 us
theorem Stored.row {b b' : Nat} {vs : List Value} {w W : World} (h : Stored b w W) (hr : RowAt b' vs w) (hne : b ≠ b') : RowAt b' vs W := by
  obtain ⟨us, rfl⟩ := h
  exact hr.setCellsOther hne us 0
theorem Stored.below {b B : Nat} {a w W : World} (h : Stored b w W) (hb : Below B a w) (hB : B ≤ b) : Below B a W := by
  obtain ⟨us, rfl⟩ := h
  exact below_setCells b hB us 0 _ hb
theorem Stored.cod {b p : Nat} {w W : World} (h : Stored b w W) (hc : Cod p w) (hb : p < b) : Cod p W := by
  obtain ⟨us, rfl⟩ := h
  exact cod_cells us 0 hc hb
theorem Stored.since {b p : Nat} {w0 w W : World} (h : Stored b w W) (hc : Since p w0 w) (hb : w0.heap.size ≤ b) : Since p w0 W := by
  obtain ⟨us, rfl⟩ := h
  exact since_cells us 0 hc hb
theorem Stored.size {b : Nat} {w W : World} (h : Stored b w W) : W.heap.size = w.heap.size := by
  obtain ⟨us, rfl⟩ := h
  exact setCells_size b us 0 w
end Go.Proofs.YtmlclccfmlcabaaDoor.fb
