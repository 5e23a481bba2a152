/- make([]byte, n) and the text of it. -/
import Derived.Test.YtmlclccfmlcabaaDoorDa
import Derived.Laws.MakeOwn
import Derived.Laws.BytesArg
namespace Go.Proofs.YtmlclccfmlcabaaDoor.rb
open Go.ChangeShapes Go.WideShapes Go.ChangeAt Go.RowKit Go.Proofs.YtmlclccfmlcabaaDoor.da Go.Proofs.YtmlclccfmlcabaaDoor.ra Go.Proofs.YtmlclccfmlcabaaDoor.ya
theorem info5 : (Tryd.prog.info? 5).map (fun i => (i.zero, i.size, i.bytes)) = some (some (.int .u8 0), 1, 1) := by kernel_rfl
/-- What make([]byte, n) lays, and the text of it. -/
def zeroObj (n : Nat) : Obj := .cells (madeCells #[.int .u8 0] n) 5
def zeroS (n : Nat) : ByteArray := strOfNums (List.replicate n 0)
theorem zeroS_size (n : Nat) : (zeroS n).size = n := by rw [zeroS, strOfNums_size, List.length_replicate]
theorem make_zero (x : Int) (n : Nat) (hx : x = n) (hn : n ≤ 100000) (W : World) : (Instr.makeSlice 62 (.int .i64 x) (.int .i64 x)).run Tryd.prog W = .ok (.slice (some ⟨W.heap.size, 0, none⟩) n n) (W.alloc (zeroObj n)) := by
  obtain ⟨i, hi, h0, h1, h2⟩ := info_parts info5
  subst hx
  have := run_make (P := Tryd.prog) W 62 5 i _ Tryd.underlying62 hi h0 .i64 .i64 (n : Int) (n : Int) (by omega) (by omega) (by rw [h2]; omega) (by omega)
  rw [this]
  rw [h1, Int.toNat_natCast, Nat.mul_one]
  rfl
theorem zero_cells (W : World) (n i : Nat) (hi : i < n) : (W.alloc (zeroObj n)).cell? ⟨W.heap.size, i, none⟩ = some (.int .u8 0) := by
  have h2 : (W.alloc (zeroObj n)).heap[W.heap.size]? = some (zeroObj n) := by simp [World.alloc, -World.alloc_eq]
  unfold World.cell?
  generalize (W.alloc (zeroObj n)).heap[W.heap.size]? = o at h2
  subst h2
  simp [zeroObj, madeCells, hi, Nat.mod_one]
theorem conv_zero (W : World) (n : Nat) : (convert 62 9 (.slice (some ⟨W.heap.size, 0, none⟩) n n)).run Tryd.prog (W.alloc (zeroObj n)) = .ok (.string (zeroS n)) (W.alloc (zeroObj n)) :=
  run_convert_bytes_arg (P := Tryd.prog) _ 62 5 Tryd.underlying62 Tryd.underlying5 W.heap.size 0 n n (List.replicate n 0) (by simp) (fun i hi => by
    rw [Nat.zero_add, zero_cells W n i hi]
    simp [List.getD, hi]) 9 Tryd.underlying9
end Go.Proofs.YtmlclccfmlcabaaDoor.rb
