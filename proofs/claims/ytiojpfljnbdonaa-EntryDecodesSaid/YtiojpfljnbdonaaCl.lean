/- What the statements need of the program: it takes no knob; it is laid out; a world for the witness. -/
import Derived.Test.YtiojpfljnbdonaaCf
namespace Go.Proofs.Ytiojpfljnbdonaa.cl
open Go.ChangeShapes Go.WideShapes Go.ChangeAt Go.RowKit

theorem own : ownKnob Try.prog.godebug = none := by kernel_rfl
theorem laidOut : laidOutB Try.prog = true := by kernel_rfl
noncomputable def laidWorld (os : Os) : World := World.holding Try.prog os ⟨#[], #[], []⟩
end Go.Proofs.Ytiojpfljnbdonaa.cl
