/- make([]byte, n) and the text of it. -/
import Derived.Test.YtiojpfljnbdonaaDa
import Derived.Laws.MakeOwn
import Derived.Laws.BytesArg
namespace Go.Proofs.Ytiojpfljnbdonaa.rb
open Go.ChangeShapes Go.WideShapes Go.ChangeAt Go.RowKit Go.Proofs.Ytiojpfljnbdonaa.da Go.Proofs.Ytiojpfljnbdonaa.ra Go.Proofs.Ytiojpfljnbdonaa.ya
theorem info5 : (Try.prog.info? 5).map (fun i => (i.zero, i.size, i.bytes)) = some (some (.int .u8 0), 1, 1) := by kernel_rfl
/-- What make([]byte, n) lays, and the text of it. -/
def zeroObj (n : Nat) : Obj := .cells (madeCells #[.int .u8 0] n) 5
def zeroS (n : Nat) : ByteArray := strOfNums (List.replicate n 0)
theorem zeroS_size (n : Nat) : (zeroS n).size = n := by rw [zeroS, strOfNums_size, List.length_replicate]
theorem make_zero (x : Int) (n : Nat) (hx : x = n) (hn : n ≤ 100000) (W : World) : (Instr.makeSlice 22 (.int .i64 x) (.int .i64 x)).run Try.prog W = .ok (.slice (some ⟨W.heap.size, 0, none⟩) n n) (W.alloc (zeroObj n)) := by
  obtain ⟨i, hi, h0, h1, h2⟩ := info_parts info5
  subst hx
  have := run_make (P := Try.prog) W 22 5 i _ Try.underlying22 hi h0 .i64 .i64 (n : Int) (n : Int) (by omega) (by omega) (by rw [h2]; omega) (by omega)
  rw [this]
  rw [h1, Int.toNat_natCast, Nat.mul_one]
  rfl
theorem zero_cells (W : World) (n i : Nat) (hi : i < n) : (W.alloc (zeroObj n)).cell? ⟨W.heap.size, i, none⟩ = some (.int .u8 0) := by
  have h2 : (W.alloc (zeroObj n)).heap[W.heap.size]? = some (zeroObj n) := by simp [World.alloc, -World.alloc_eq]
  unfold World.cell?
  generalize (W.alloc (zeroObj n)).heap[W.heap.size]? = o at h2
  subst h2
  simp [zeroObj, madeCells, hi, Nat.mod_one]
theorem conv_zero (W : World) (n : Nat) : (convert 22 9 (.slice (some ⟨W.heap.size, 0, none⟩) n n)).run Try.prog (W.alloc (zeroObj n)) = .ok (.string (zeroS n)) (W.alloc (zeroObj n)) :=
  run_convert_bytes_arg (P := Try.prog) _ 22 5 Try.underlying22 Try.underlying5 W.heap.size 0 n n (List.replicate n 0) (by simp) (fun i hi => by
    rw [Nat.zero_add, zero_cells W n i hi]
    simp [List.getD, hi]) 9 Try.underlying9
end Go.Proofs.Ytiojpfljnbdonaa.rb
