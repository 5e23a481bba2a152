/- The equality of two pages: each number and each cell. -/
import Derived.Test.YtkcgcddpgfcgiaaDa
import Derived.DeepKeys
import Derived.Laws.StructEq
namespace Go.Proofs.Ytkcgcddpgfcgiaa.ed
open Go.ChangeShapes Go.WideShapes Go.ChangeAt Go.RowKit Go.Proofs.Ytkcgcddpgfcgiaa.ra Go.Proofs.Ytkcgcddpgfcgiaa.da

def sameC (c d : CellM) : Bool := c.set == d.set && c.data.toList == d.data.toList
theorem sameC_iff {c d : CellM} : sameC c d = true ↔ c = d := by
  obtain ⟨a, s⟩ := c
  obtain ⟨b, t⟩ := d
  unfold sameC
  simp only [Bool.and_eq_true, beq_iff_eq, CellM.mk.injEq, ByteArray.toList_eq]
  constructor
  · rintro ⟨h1, h2⟩
    exact ⟨h1, ByteArray.ext (by simpa using h2)⟩
  · rintro ⟨h1, rfl⟩
    exact ⟨h1, rfl⟩
def sameP (p q : Pg) : Bool := p.id == q.id && (p.lsn == q.lsn && (List.range 16).all fun i => sameC (p.cell i) (q.cell i))
theorem sameP_iff {p q : Pg} : sameP p q = true ↔ p.id = q.id ∧ p.lsn = q.lsn ∧ ∀ i, i < 16 → p.cell i = q.cell i := by
  unfold sameP
  simp only [Bool.and_eq_true, beq_iff_eq, List.all_eq_true, List.mem_range, sameC_iff]
theorem cell_eqIn (d : Nat) (c c' : CellM) (W : World) : (Op.equalIn (d + 2) 24 (.agg #[.bool c.set, .string c.data]) (.agg #[.bool c'.set, .string c'.data])).run Try.prog W = .ok (sameC c c') W := by
  go_simp
  unfold sameC
  cases e1 : (c.set == c'.set) <;> cases e2 : (c.data.toList == c'.data.toList) <;> simp_all
theorem part_cell (p : Pg) (i : Nat) (hi : i < 16) (W : World) : (part 24 p.cellArr (i * 2)).run Try.prog W = .ok (.agg #[.bool (p.cell i).set, .string (p.cell i).data]) W := by
  have hs : (sizeOf 24).run Try.prog W = .ok 2 W := by kernel_rfl
  have ha : (isAgg 24).run Try.prog W = .ok true W := by kernel_rfl
  have he : p.cellArr.extract (i * 2) (i * 2 + 2) = #[.bool (p.cell i).set, .string (p.cell i).data] := by
    apply Array.ext'
    rw [Array.toList_extract, List.extract_eq_drop_take', List.drop_take]
    rw [show i * 2 + 2 - i * 2 = 2 from by omega]
    exact cellVals_part p.cell 16 i hi
  simp only [Sem.run_bind, Result.andThen, hs, part, ha, if_true, Sem.run_pure, he]
theorem items_eq (d : Nat) (p q : Pg) (W : World) : ∀ is : List Nat, (∀ i ∈ is, i < 16) →
    (Op.eqItems (d + 2) 24 2 p.cellArr q.cellArr is).run Try.prog W = .ok (is.all fun i => sameC (p.cell i) (q.cell i)) W
  | [], _ => by simp [Op.eqItems]
  | i :: is, h => by
    have h1 := part_cell p i (h i (by simp)) W
    have h2 := part_cell q i (h i (by simp)) W
    have h3 := cell_eqIn d (p.cell i) (q.cell i) W
    have ih := items_eq d p q W is (fun j hj => h j (by simp [hj]))
    simp only [Op.eqItems, Sem.run_bind, h1, h2, h3, Result.andThen_ok, List.all_cons]
    cases sameC (p.cell i) (q.cell i)
    · simp
    · simpa using ih
theorem cells_eqIn (d : Nat) (p q : Pg) (W : World) : (Op.equalIn (d + 3) 25 (.agg p.cellArr) (.agg q.cellArr)).run Try.prog W = .ok ((List.range 16).all fun i => sameC (p.cell i) (q.cell i)) W := by
  have hc : Try.prog.cellsOf 24 = 2 := by kernel_rfl
  obtain ⟨i, hi⟩ : ∃ i, Try.prog.info? 24 = some i := info_of_underlying Try.underlying24
  have := run_equalIn_array (P := Try.prog) W (d + 2) p.cellArr q.cellArr (t := 25) (n := 16) (e := 24) (by kernel_rfl) hi
  rw [this, hc]
  exact items_eq d p q W _ (fun i hi => by simpa using hi)
theorem arr_cells (p : Pg) : p.arr.extract 2 34 = p.cellArr := by
  apply Array.ext'
  rw [Array.toList_extract, List.extract_eq_drop_take']
  show (List.take 34 p.vals).drop 2 = cellVals p.cell 16
  have : List.take 34 p.vals = p.vals := List.take_of_length_le (by rw [vals_length]; omega)
  rw [this]; rfl
theorem arr_id (p : Pg) : p.arr[0]? = some (.int .i64 p.id) := by
  show p.vals.toArray[0]? = _
  rw [List.getElem?_toArray, vals_id]
theorem arr_lsn (p : Pg) : p.arr[1]? = some (.int .i64 p.lsn) := by
  show p.vals.toArray[1]? = _
  rw [List.getElem?_toArray, vals_lsn]
theorem page_eqIn (p q : Pg) (W : World) : (Op.equalIn 10000 27 (.agg p.arr) (.agg q.arr)).run Try.prog W = .ok (sameP p q) W := by
  have hc : (Op.equalIn 9999 25 (.agg p.cellArr) (.agg q.cellArr)).run Try.prog W = .ok ((List.range 16).all fun i => sameC (p.cell i) (q.cell i)) W := cells_eqIn 9996 p q W
  have h1 := arr_id p
  have h2 := arr_id q
  have h3 := arr_lsn p
  have h4 := arr_lsn q
  have h5 := arr_cells p
  have h6 := arr_cells q
  unfold sameP
  generalize ((List.range 16).all fun i => sameC (p.cell i) (q.cell i)) = z at hc ⊢
  go_simp
  cases e1 : (p.id == q.id) <;> cases e2 : (p.lsn == q.lsn) <;> cases z <;> simp_all
theorem page_eql (p q : Pg) (W : World) : (binOp .eql 27 (.agg p.arr) (.agg q.arr)).run Try.prog W = .ok (.bool (sameP p q)) W := by
  rw [run_eql_struct, page_eqIn]; rfl
theorem page_neq (p q : Pg) (W : World) : (binOp .neq 27 (.agg p.arr) (.agg q.arr)).run Try.prog W = .ok (.bool (!sameP p q)) W := by
  rw [run_neq_struct, page_eqIn]; rfl
theorem sameP_self (p : Pg) : sameP p p = true := sameP_iff.2 ⟨rfl, rfl, fun _ _ => rfl⟩
end Go.Proofs.Ytkcgcddpgfcgiaa.ed
