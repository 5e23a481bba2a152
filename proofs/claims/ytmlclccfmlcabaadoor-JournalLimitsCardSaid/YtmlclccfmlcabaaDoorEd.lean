/- The equality of two pages: each number and each cell. -/
import Derived.Test.YtmlclccfmlcabaaDoorDa
import Derived.DeepKeys
import Derived.Laws.StructEq
namespace Go.Proofs.YtmlclccfmlcabaaDoor.ed
open Go.ChangeShapes Go.WideShapes Go.ChangeAt Go.RowKit Go.Proofs.YtmlclccfmlcabaaDoor.da Go.Proofs.YtmlclccfmlcabaaDoor.ra Go.Proofs.YtmlclccfmlcabaaDoor.ya
def sameC (c d : CellM) : Bool := c.set == d.set && c.data.toList == d.data.toList
theorem sameC_iff {c d : CellM} : sameC c d = true ↔ c = d := by
  obtain ⟨a, s⟩ := c
  obtain ⟨b, t⟩ := d
  unfold sameC
  simp only [Bool.and_eq_true, beq_iff_eq, CellM.mk.injEq, ByteArray.toList_eq]
  constructor
  · rintro ⟨h1, h2⟩
    exact ⟨h1, ByteArray.ext (by simpa using h2)⟩
  · rintro ⟨h1, rfl⟩
    exact ⟨h1, rfl⟩
theorem cell_eqIn (d : Nat) (c c' : CellM) (W : World) : (Op.equalIn (d + 2) 27 (.agg #[.bool c.set, .string c.data]) (.agg #[.bool c'.set, .string c'.data])).run Tryd.prog W = .ok (sameC c c') W := by
  go_simp
  unfold sameC
  cases e1 : (c.set == c'.set) <;> cases e2 : (c.data.toList == c'.data.toList) <;> simp_all
end Go.Proofs.YtmlclccfmlcabaaDoor.ed
