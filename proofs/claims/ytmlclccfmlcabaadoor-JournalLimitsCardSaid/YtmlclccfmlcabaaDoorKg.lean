/- The draw of a change; the sanity check of layer 3. -/
import Derived.Test.YtmlclccfmlcabaaDoorKb
namespace Go.Proofs.YtmlclccfmlcabaaDoor.kg
open Go.ChangeShapes Go.WideShapes Go.ChangeAt Go.RowKit Go.Proofs.YtmlclccfmlcabaaDoor.cx Go.Proofs.YtmlclccfmlcabaaDoor.da Go.Proofs.YtmlclccfmlcabaaDoor.ea Go.Proofs.YtmlclccfmlcabaaDoor.eb Go.Proofs.YtmlclccfmlcabaaDoor.ed Go.Proofs.YtmlclccfmlcabaaDoor.fb Go.Proofs.YtmlclccfmlcabaaDoor.ka Go.Proofs.YtmlclccfmlcabaaDoor.kb Go.Proofs.YtmlclccfmlcabaaDoor.ra Go.Proofs.YtmlclccfmlcabaaDoor.rb Go.Proofs.YtmlclccfmlcabaaDoor.rc Go.Proofs.YtmlclccfmlcabaaDoor.ya
theorem cell_le {c : CellM} (h : cellB c = true) : c.data.size ≤ 9223372036854775807 := by
  unfold cellB at h
  simp at h
  omega
def Drawn (c : Chg) : Prop := 0 ≤ c.page ∧ c.page < 4 ∧ 0 ≤ c.slot ∧ c.slot < 3 ∧ cellB c.before = true ∧ cellB c.after = true
def ChangeR (p : Nat) (w : World) (e : Ending) (w' : World) : Prop := ∃ c : Chg, e = .returned (.agg c.arr) ∧ Drawn c ∧ Cod p w' ∧ Since p w w'
theorem drawn_fits {c : Chg} (h : Drawn c) : FitsH c := ⟨cell_le h.2.2.2.2.1, cell_le h.2.2.2.2.2⟩
end Go.Proofs.YtmlclccfmlcabaaDoor.kg
