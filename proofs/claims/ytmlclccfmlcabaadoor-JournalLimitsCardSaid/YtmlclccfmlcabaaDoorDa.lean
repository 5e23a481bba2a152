/- Pages as plain data: their cells in memory, whether they are valid. -/
import Derived.Test.YtmlclccfmlcabaaDoorRa
namespace Go.Proofs.YtmlclccfmlcabaaDoor.da
open Go.ChangeShapes Go.WideShapes Go.ChangeAt Go.RowKit Go.Proofs.YtmlclccfmlcabaaDoor.ra Go.Proofs.YtmlclccfmlcabaaDoor.ya
/-- A cell: is it set, its data. -/
structure CellM where
  set : Bool
  data : ByteArray
def CellM.vals (c : CellM) : List Value := [.bool c.set, .string c.data]
def noCell : CellM := ⟨false, ⟨#[]⟩⟩
theorem info_cell : (Tryd.prog.info? 27).map (·.size) = some 2 := by kernel_rfl
theorem nil_iff (s : ByteArray) : s.toList = [] ↔ s = ⟨#[]⟩ := by
  rw [ByteArray.toList_eq]
  constructor
  · intro h
    apply ByteArray.ext
    simpa using h
  · rintro rfl
    rfl
def cellB (c : CellM) : Bool := decide (c.data.size ≤ 12 ∧ (c.set = false → c.data = ⟨#[]⟩))
end Go.Proofs.YtmlclccfmlcabaaDoor.da
