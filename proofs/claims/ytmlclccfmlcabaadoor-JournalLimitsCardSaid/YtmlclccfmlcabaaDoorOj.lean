/- Readers of bytes: numbers, texts, cells; those of the program and of the reference. -/
import Derived.Test.YtmlclccfmlcabaaDoorOs
import Derived.Test.YtmlclccfmlcabaaDoorCh
namespace Go.Proofs.YtmlclccfmlcabaaDoor.oj
open Go.ChangeShapes Go.WideShapes Go.ChangeAt Go.RowKit Go.Proofs.YtmlclccfmlcabaaDoor.cp Go.Proofs.YtmlclccfmlcabaaDoor.cg Go.Proofs.YtmlclccfmlcabaaDoor.ch Go.Proofs.YtmlclccfmlcabaaDoor.cx Go.Proofs.YtmlclccfmlcabaaDoor.ra Go.Proofs.YtmlclccfmlcabaaDoor.rb Go.Proofs.YtmlclccfmlcabaaDoor.rc Go.Proofs.YtmlclccfmlcabaaDoor.da Go.Proofs.YtmlclccfmlcabaaDoor.ea Go.Proofs.YtmlclccfmlcabaaDoor.eb Go.Proofs.YtmlclccfmlcabaaDoor.ed Go.Proofs.YtmlclccfmlcabaaDoor.fb Go.Proofs.YtmlclccfmlcabaaDoor.ka Go.Proofs.YtmlclccfmlcabaaDoor.kb Go.Proofs.YtmlclccfmlcabaaDoor.kg Go.Proofs.YtmlclccfmlcabaaDoor.kj Go.Proofs.YtmlclccfmlcabaaDoor.oa Go.Proofs.YtmlclccfmlcabaaDoor.os
set_option linter.unusedSimpArgs false

/-- Where a reader stands, and its error. -/
structure RS where
  pos : Nat
  err : Int
def rdVals (s : ByteArray) (r : RS) : List Value := [.string s, .int .i64 r.pos, .int .i64 r.err]
def numR (s : ByteArray) (k : Nat) (r : RS) : Int × RS :=
  if r.err = 0 then (if r.pos + k ≤ s.size then (getN s r.pos k, ⟨r.pos + k, 0⟩) else (0, ⟨r.pos, 5⟩)) else (0, r)
def txtR (s : ByteArray) (n : Nat) (r : RS) : ByteArray × RS :=
  if r.err = 0 then (if r.pos + n ≤ s.size then (s.extract r.pos (r.pos + n), ⟨r.pos + n, 0⟩) else (⟨#[]⟩, ⟨r.pos, 5⟩)) else (⟨#[]⟩, r)
def celR (s : ByteArray) (r : RS) : CellM × RS :=
  let a := numR s 1 r
  if a.2.err = 0 then (if a.1 = 255 then (noCell, a.2) else if 12 < a.1 then (noCell, ⟨a.2.pos, 4⟩) else (⟨true, (txtR s a.1.toNat a.2).1⟩, (txtR s a.1.toNat a.2).2)) else (noCell, a.2)
theorem rd_all {b : Nat} {s : ByteArray} {r : RS} {w : World} (h : RowAt b (rdVals s r) w) : w.cell? ⟨b, 0, none⟩ = some (.string s) ∧ w.cell? ⟨b, 1, none⟩ = some (.int .i64 r.pos) ∧ w.cell? ⟨b, 2, none⟩ = some (.int .i64 r.err) := ⟨h.cells 0 _ rfl, h.cells 1 _ rfl, h.cells 2 _ rfl⟩
theorem info_errno : (Tryd.prog.info? 32).map (·.size) = some 1 := by kernel_rfl
/-- What a reading leaves: the reader, and nothing else has turned. -/
def Reads (b : Nat) (s : ByteArray) (v : Value) (r : RS) (w : World) (e : Ending) (w' : World) : Prop := e = .returned v ∧ RowAt b (rdVals s r) w' ∧ w.grownBy w' (some b)
theorem grown_below {w W W' : World} {b : Nat} (h : Below w.heap.size w W) (hs : StoredAt b W W') : w.grownBy W' (some b) := grownBy_trans (below_grownBy h (some b)) (StoredAt.grown hs)
end Go.Proofs.YtmlclccfmlcabaaDoor.oj
