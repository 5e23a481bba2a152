/- The draws of entries. -/
import Derived.Test.YtmlclccfmlcabaaDoorOd
namespace Go.Proofs.YtmlclccfmlcabaaDoor.on
open Go.ChangeShapes Go.WideShapes Go.ChangeAt Go.RowKit Go.Proofs.YtmlclccfmlcabaaDoor.cx Go.Proofs.YtmlclccfmlcabaaDoor.ra Go.Proofs.YtmlclccfmlcabaaDoor.rb Go.Proofs.YtmlclccfmlcabaaDoor.rc Go.Proofs.YtmlclccfmlcabaaDoor.da Go.Proofs.YtmlclccfmlcabaaDoor.ea Go.Proofs.YtmlclccfmlcabaaDoor.eb Go.Proofs.YtmlclccfmlcabaaDoor.ed Go.Proofs.YtmlclccfmlcabaaDoor.fb Go.Proofs.YtmlclccfmlcabaaDoor.ka Go.Proofs.YtmlclccfmlcabaaDoor.kb Go.Proofs.YtmlclccfmlcabaaDoor.kg Go.Proofs.YtmlclccfmlcabaaDoor.kj Go.Proofs.YtmlclccfmlcabaaDoor.oa Go.Proofs.YtmlclccfmlcabaaDoor.os Go.Proofs.YtmlclccfmlcabaaDoor.ob Go.Proofs.YtmlclccfmlcabaaDoor.oc Go.Proofs.YtmlclccfmlcabaaDoor.od
set_option linter.unusedSimpArgs false

/-- What Entry draws, by kinds. -/
def DrawnE (e : Ent) : Prop := 10 ≤ e.lsn ∧ e.lsn < 100 ∧
  (((e.kind = 1 ∨ e.kind = 2) ∧ 1 ≤ e.tx ∧ e.tx ≤ 5 ∧ 1 ≤ e.prevTx ∧ e.prevTx ≤ 9 ∧ 0 ≤ e.prevPage ∧ e.prevPage ≤ 9 ∧ Drawn e.change ∧ e.blob = ⟨#[]⟩ ∧ (e.kind = 1 → e.ref = 0) ∧ (e.kind = 2 → 1 ≤ e.ref ∧ e.ref ≤ e.prevTx)) ∨
  ((e.kind = 3 ∨ e.kind = 4 ∨ e.kind = 5) ∧ 1 ≤ e.tx ∧ e.tx ≤ 5 ∧ 1 ≤ e.prevTx ∧ e.prevTx ≤ 9 ∧ e.prevPage = 0 ∧ e.ref = 0 ∧ e.change = chg0 ∧ e.blob = ⟨#[]⟩) ∨
  ((e.kind = 6 ∨ e.kind = 8) ∧ e.tx = 0 ∧ e.prevTx = 0 ∧ e.prevPage = 0 ∧ e.ref = 0 ∧ e.change = chg0 ∧ e.blob.size ≤ 13) ∨
  (e.kind = 7 ∧ e.tx = 0 ∧ e.prevTx = 0 ∧ e.prevPage = 0 ∧ 0 ≤ e.ref ∧ e.ref ≤ 9 ∧ (∃ n : Int, 0 ≤ n ∧ n < 4 ∧ e.change = ⟨n, 0, noCell, noCell⟩) ∧ e.blob = ⟨#[]⟩))
def EntryR (p : Nat) (w : World) (e : Ending) (w' : World) : Prop := ∃ x : Ent, e = .returned (.agg x.arr) ∧ DrawnE x ∧ Cod p w' ∧ Since p w w'
def OddER (p : Nat) (w : World) (e : Ending) (w' : World) : Prop := ∃ x : Ent, e = .returned (.agg x.arr) ∧ FitsE x ∧ Cod p w' ∧ Since p w w'
end Go.Proofs.YtmlclccfmlcabaaDoor.on
