/- What the other texts import. -/
import Derived.Test.YtmlclccfmlcabaaDoorChecked
import Derived.Laws.BitsLemmas
import Derived.Lib.EndianBits
import Derived.WalkKit
import Derived.ProofKit
import Derived.OpenShut
import Derived.Outline
import Derived.Lib.Hide
import Derived.Laws.BytesArg
import Derived.BigQuiet
import Derived.Deep.QuietTactic
import Derived.PlainAid
import Derived.WalkLawsBesides
import Derived.Deep.RegionWith
import Derived.Laws.MakeOwn
import Derived.Laws.OwnMore
import Derived.Lib.MinMax
import Derived.Lib.SliceRun
import Derived.Deep.AppendLies
import Derived.Deep.RegionHeld
import Derived.BigRegion
namespace Go.Proofs.YtmlclccfmlcabaaDoor.ya
open Go.ChangeShapes Go.WideShapes Go.ChangeAt Go.RowKit
end Go.Proofs.YtmlclccfmlcabaaDoor.ya
