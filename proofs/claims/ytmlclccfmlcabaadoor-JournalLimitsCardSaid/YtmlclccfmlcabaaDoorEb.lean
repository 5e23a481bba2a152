/- The draws of cells, numbers and pages. -/
import Derived.Test.YtmlclccfmlcabaaDoorEa
namespace Go.Proofs.YtmlclccfmlcabaaDoor.eb
open Go.ChangeShapes Go.WideShapes Go.ChangeAt Go.RowKit Go.Proofs.YtmlclccfmlcabaaDoor.cx Go.Proofs.YtmlclccfmlcabaaDoor.da Go.Proofs.YtmlclccfmlcabaaDoor.ea Go.Proofs.YtmlclccfmlcabaaDoor.ra Go.Proofs.YtmlclccfmlcabaaDoor.rb Go.Proofs.YtmlclccfmlcabaaDoor.rc Go.Proofs.YtmlclccfmlcabaaDoor.ya
def CellR (p : Nat) (w : World) (e : Ending) (w' : World) : Prop := ∃ c : CellM, e = .returned (.agg #[.bool c.set, .string c.data]) ∧ cellB c = true ∧ Cod p w' ∧ Since p w w'
theorem cell_vals2 (a b c d : Value) : (([a, b].set 0 c).set 1 d) = [c, d] := rfl
theorem row_ne {p b : Nat} (h : p < b) : some p ≠ some b := fun e => by injection e with e; omega
def IntR (p : Nat) (w : World) (e : Ending) (w' : World) : Prop := ∃ n : Int, e = .returned (.int .i64 n) ∧ Cod p w' ∧ Since p w w'
theorem pick16 (l : List Value) (h : ∀ v ∈ l, ∃ n : Int, v = .int .i64 n) (i : Nat) (hi : i < l.length) : ∃ n : Int, l[i]? = some (.int .i64 n) := by
  obtain ⟨n, hn⟩ := h l[i] (List.getElem_mem hi)
  exact ⟨n, by rw [List.getElem?_eq_getElem hi, hn]⟩
theorem row_int {b : Nat} {l : List Value} {w : World} (hr : RowAt b l w) (h : ∀ v ∈ l, ∃ n : Int, v = .int .i64 n) (i : Nat) (hi : i < l.length) : ∃ n : Int, w.cell? ⟨b, i, none⟩ = some (.int .i64 n) := by
  obtain ⟨n, hn⟩ := pick16 l h i hi
  exact ⟨n, hr.cells i _ hn⟩
theorem cod_cells {p b : Nat} : ∀ (us : List Value) (o : Nat) {w : World}, Cod p w → p < b → Cod p (w.setCells b o us)
  | [], _, _, h, _ => h
  | u :: r, o, w, h, hb => by
    rw [World.setCells]
    exact cod_cells r (o + 1) (cod_set h (by exact hb) u) hb
theorem since_cells {p b : Nat} {w0 : World} : ∀ (us : List Value) (o : Nat) {w : World}, Since p w0 w → w0.heap.size ≤ b → Since p w0 (w.setCells b o us)
  | [], _, _, h, _ => h
  | u :: r, o, w, h, hb => by
    rw [World.setCells]
    exact since_cells r (o + 1) (since_set h (by exact hb) u) hb
end Go.Proofs.YtmlclccfmlcabaaDoor.eb
