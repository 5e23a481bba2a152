/- Decode of the program and of the reference. -/
import Derived.Test.YtmlclccfmlcabaaDoorOk
import Derived.Test.YtmlclccfmlcabaaDoorOg
namespace Go.Proofs.YtmlclccfmlcabaaDoor.ol
open Go.ChangeShapes Go.WideShapes Go.ChangeAt Go.RowKit Go.Proofs.YtmlclccfmlcabaaDoor.cp Go.Proofs.YtmlclccfmlcabaaDoor.cg Go.Proofs.YtmlclccfmlcabaaDoor.ch Go.Proofs.YtmlclccfmlcabaaDoor.cx Go.Proofs.YtmlclccfmlcabaaDoor.ra Go.Proofs.YtmlclccfmlcabaaDoor.rb Go.Proofs.YtmlclccfmlcabaaDoor.rc Go.Proofs.YtmlclccfmlcabaaDoor.da Go.Proofs.YtmlclccfmlcabaaDoor.ea Go.Proofs.YtmlclccfmlcabaaDoor.eb Go.Proofs.YtmlclccfmlcabaaDoor.ed Go.Proofs.YtmlclccfmlcabaaDoor.fb Go.Proofs.YtmlclccfmlcabaaDoor.ka Go.Proofs.YtmlclccfmlcabaaDoor.kb Go.Proofs.YtmlclccfmlcabaaDoor.kg Go.Proofs.YtmlclccfmlcabaaDoor.kj Go.Proofs.YtmlclccfmlcabaaDoor.oa Go.Proofs.YtmlclccfmlcabaaDoor.os Go.Proofs.YtmlclccfmlcabaaDoor.ob Go.Proofs.YtmlclccfmlcabaaDoor.oc Go.Proofs.YtmlclccfmlcabaaDoor.od Go.Proofs.YtmlclccfmlcabaaDoor.oe Go.Proofs.YtmlclccfmlcabaaDoor.of Go.Proofs.YtmlclccfmlcabaaDoor.og Go.Proofs.YtmlclccfmlcabaaDoor.oj Go.Proofs.YtmlclccfmlcabaaDoor.ok
set_option linter.unusedSimpArgs false

def r00 : RS := ⟨0, 0⟩
def decR (s : ByteArray) : Ent × Int :=
  if (entR s r00).2.err = 0 then (if (entR s r00).2.pos < s.size then (ent0, 4) else if validE (entR s r00).1 = true then ((entR s r00).1, 0) else (ent0, 12)) else (ent0, (entR s r00).2.err)
theorem below_row {w W W' : World} {k : Nat} (h : Below w.heap.size w W) (hg : W.grownBy W' (some k)) (hk : w.heap.size ≤ k) : Below w.heap.size w W' :=
  ((st_nil h).grown hg (fun _ hx => by cases hx) (fun j e => by injection e with e; omega)).2
theorem entR_fits (s : ByteArray) (r : RS) (hs : s.size ≤ 900000) : FitsE (entR s r).1 := by
  have h1 : ∀ r, (celR s r).1.data.size ≤ 9223372036854775807 := fun r => by have := celR_size s r; omega
  refine ⟨⟨h1 _, h1 _⟩, ?_⟩
  have := txtR_size s
  exact Nat.le_trans (this _ _) (by omega)
def rd0 : List Value := [.string ⟨#[]⟩, .int .i64 0, .int .i64 0]
section
variable {ops : Array Oper} {rest : List Oper} {o : Oper} {a : Act} {w : World} {Q : Exit → Act → World → Prop} {x y : Operand} {b : Nat}
end
end Go.Proofs.YtmlclccfmlcabaaDoor.ol
