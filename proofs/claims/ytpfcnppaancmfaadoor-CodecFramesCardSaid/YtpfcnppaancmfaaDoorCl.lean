/- What the cards of layer 1 need of the listed table: what it gives, and a world that holds it. -/
import Derived.Test.YtpfcnppaancmfaaDoorCf
import Derived.Test.YtpfcnppaancmfaaDoorTie
import Derived.Test.YtpfcnppaancmfaaDoorCw
namespace Go.Proofs.YtpfcnppaancmfaaDoor.cl
open Go.ChangeShapes Go.WideShapes Go.ChangeAt Go.RowKit
open Go.Proofs.YtpfcnppaancmfaaDoor.cm Go.Proofs.YtpfcnppaancmfaaDoor.cw

theorem own : ownKnob Tryd.prog.godebug = none := by kernel_rfl
theorem laidOut : laidOutB Tryd.prog = true := by kernel_rfl
theorem gTab : Tryd.prog.globalNamed "pagemend/codec.remainders" = some 0 := by kernel_rfl
theorem gTabType : (Tryd.prog.globals[0]?).map (·.type) = some 52 := by kernel_rfl
theorem cells52 : Tryd.prog.cellsOf 52 = 16 := by kernel_rfl
theorem cells39 : Tryd.prog.cellsOf 39 = 1 := by kernel_rfl
abbrev laidList : List (String × DataW Unit) := [("pagemend/codec.remainders", Rows.laid_pagemend_codec_remainders)]
theorem table {W : World} (h : laidMetH Tryd.prog laidList W) : TabOk W := by
  have ht : Lib.TabIs Tryd.prog W "pagemend/codec.remainders" .u32 (tab.map fun n => Int.ofNat n) :=
    Lib.tabIs_of_head (rest := []) gTab gTabType Tryd.underlying52 Tryd.underlying39 cells39 cells52 h
  intro k hk
  have hk2 : k < tab.length := hk
  have := ht.cell gTab k (by simpa using hk2)
  rw [this]
  simp [List.getD, hk2]

/-- A world for the witness: the settled one, the table (block 0) holding what its initialiser lays. -/
noncomputable def laidWorld (os : Os) : World :=
  { World.holding Tryd.prog os ⟨#[], #[], []⟩ with heap := (World.holding Tryd.prog os ⟨#[], #[], []⟩).heap.modify 0 fun
      | .cells _ t frozen => .cells (tab.map fun n => Value.int .u32 (Int.ofNat n)).toArray t frozen
      | o => o }
end Go.Proofs.YtpfcnppaancmfaaDoor.cl
