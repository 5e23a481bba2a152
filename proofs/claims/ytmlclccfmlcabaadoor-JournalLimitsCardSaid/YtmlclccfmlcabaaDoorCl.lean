/- What the cards of layer 1 need of the listed table: what it gives, and a world that holds it. -/
import Derived.Test.YtmlclccfmlcabaaDoorCf
import Derived.Test.YtmlclccfmlcabaaDoorTie
import Derived.Test.YtmlclccfmlcabaaDoorCw
namespace Go.Proofs.YtmlclccfmlcabaaDoor.cl
open Go.ChangeShapes Go.WideShapes Go.ChangeAt Go.RowKit
open Go.Proofs.YtmlclccfmlcabaaDoor.cm Go.Proofs.YtmlclccfmlcabaaDoor.cw

theorem own : ownKnob Tryd.prog.godebug = none := by kernel_rfl
theorem laidOut : laidOutB Tryd.prog = true := by kernel_rfl
theorem gTab : Tryd.prog.globalNamed "pagemend/codec.remainders" = some 0 := by kernel_rfl
theorem gTabType : (Tryd.prog.globals[0]?).map (·.type) = some 79 := by kernel_rfl
theorem cellsTab : Tryd.prog.cellsOf 79 = 16 := by kernel_rfl
theorem cellsRem : Tryd.prog.cellsOf 59 = 1 := by kernel_rfl
abbrev laidList : List (String × DataW Unit) := [("pagemend/codec.remainders", Rows.laid_pagemend_codec_remainders)]
theorem table {W : World} (h : laidMetH Tryd.prog laidList W) : TabOk W := by
  have ht : Lib.TabIs Tryd.prog W "pagemend/codec.remainders" .u32 (tab.map fun n => Int.ofNat n) :=
    Lib.tabIs_of_head (rest := []) gTab gTabType Tryd.underlying79 Tryd.underlying59 cellsRem cellsTab h
  intro k hk
  have hk2 : k < tab.length := hk
  have := ht.cell gTab k (by simpa using hk2)
  rw [this]
  simp [List.getD, hk2]

/-- A world for the witness: the settled one, the table (block 0) holding what its initialiser lays. -/
noncomputable def laidWorld (os : Os) : World :=
  { World.holding Tryd.prog os ⟨#[], #[], []⟩ with heap := (World.holding Tryd.prog os ⟨#[], #[], []⟩).heap.modify 0 fun
      | .cells _ t frozen => .cells (tab.map fun n => Value.int .u32 (Int.ofNat n)).toArray t frozen
      | o => o }
end Go.Proofs.YtmlclccfmlcabaaDoor.cl
