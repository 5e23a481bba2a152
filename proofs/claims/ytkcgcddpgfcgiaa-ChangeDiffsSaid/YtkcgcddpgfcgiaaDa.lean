/- Pages as plain data: their cells in memory, whether they are valid. -/
import Derived.Test.YtkcgcddpgfcgiaaYa
import Derived.Test.YtkcgcddpgfcgiaaRa
namespace Go.Proofs.Ytkcgcddpgfcgiaa.da
open Go.ChangeShapes Go.WideShapes Go.ChangeAt Go.RowKit Go.Proofs.Ytkcgcddpgfcgiaa.ra

/-- A cell: is it set, its data. -/
structure CellM where
  set : Bool
  data : ByteArray
def CellM.vals (c : CellM) : List Value := [.bool c.set, .string c.data]
def noCell : CellM := ⟨false, ⟨#[]⟩⟩
/-- A page: ID, LSN, cells (those from 0 to 15 count). -/
structure Pg where
  id : Int
  lsn : Int
  cell : Nat → CellM
def cellVals (f : Nat → CellM) : Nat → List Value
  | 0 => []
  | n + 1 => cellVals f n ++ (f n).vals
theorem cellVals_length (f : Nat → CellM) : ∀ n, (cellVals f n).length = 2 * n
  | 0 => rfl
  | n + 1 => by rw [cellVals, List.length_append, cellVals_length f n]; simp [CellM.vals]; omega
theorem cellVals_set (f : Nat → CellM) : ∀ n i, i < n → (cellVals f n)[2 * i]? = some (.bool (f i).set)
  | 0, i, h => by omega
  | n + 1, i, h => by
    have hl := cellVals_length f n
    rw [cellVals]
    by_cases e : i = n
    · subst e
      rw [List.getElem?_append_right (by omega), hl]
      simp [CellM.vals]
    · rw [List.getElem?_append_left (by omega)]
      exact cellVals_set f n i (by omega)
theorem cellVals_data (f : Nat → CellM) : ∀ n i, i < n → (cellVals f n)[2 * i + 1]? = some (.string (f i).data)
  | 0, i, h => by omega
  | n + 1, i, h => by
    have hl := cellVals_length f n
    rw [cellVals]
    by_cases e : i = n
    · subst e
      rw [List.getElem?_append_right (by omega), hl, show 2 * i + 1 - 2 * i = 1 from by omega]
      simp [CellM.vals]
    · rw [List.getElem?_append_left (by omega)]
      exact cellVals_data f n i (by omega)
/-- The cells of memory of a page. -/
def Pg.vals (p : Pg) : List Value := .int .i64 p.id :: .int .i64 p.lsn :: cellVals p.cell 16
def Pg.arr (p : Pg) : Array Value := p.vals.toArray
theorem vals_length (p : Pg) : p.vals.length = 34 := by simp [Pg.vals, cellVals_length]
theorem arr_size (p : Pg) : p.arr.size = 34 := by simp [Pg.arr, vals_length]
theorem vals_id (p : Pg) : p.vals[0]? = some (.int .i64 p.id) := by simp only [Pg.vals, List.getElem?_cons_zero]
theorem vals_lsn (p : Pg) : p.vals[1]? = some (.int .i64 p.lsn) := by simp only [Pg.vals, List.getElem?_cons_succ, List.getElem?_cons_zero]
theorem vals_set (p : Pg) (i : Nat) (h : i < 16) : p.vals[2 + i * 2]? = some (.bool (p.cell i).set) := by
  rw [show 2 + i * 2 = 2 * i + 1 + 1 from by omega, Pg.vals, List.getElem?_cons_succ, List.getElem?_cons_succ]
  exact cellVals_set p.cell 16 i h
theorem vals_data (p : Pg) (i : Nat) (h : i < 16) : p.vals[2 + i * 2 + 1]? = some (.string (p.cell i).data) := by
  rw [show 2 + i * 2 + 1 = 2 * i + 1 + 1 + 1 from by omega, Pg.vals, List.getElem?_cons_succ, List.getElem?_cons_succ]
  exact cellVals_data p.cell 16 i h

/-- The page lies in block b. -/
abbrev PgAt (b : Nat) (p : Pg) (w : World) : Prop := RowAt b p.vals w
theorem PgAt.new (p : Pg) (w : World) (t : TypeId) : PgAt w.heap.size p (w.alloc (.cells p.arr t)) := RowAt.new p.vals w t
theorem PgAt.idAt {b : Nat} {p : Pg} {w : World} (h : PgAt b p w) : w.cell? ⟨b, 0, none⟩ = some (.int .i64 p.id) := h.cells 0 _ (vals_id p)
theorem PgAt.lsnAt {b : Nat} {p : Pg} {w : World} (h : PgAt b p w) : w.cell? ⟨b, 1, none⟩ = some (.int .i64 p.lsn) := h.cells 1 _ (vals_lsn p)
theorem PgAt.setAt {b : Nat} {p : Pg} {w : World} (h : PgAt b p w) {i : Nat} (hi : i < 16) : w.cell? ⟨b, 2 + i * 2, none⟩ = some (.bool (p.cell i).set) := h.cells _ _ (vals_set p i hi)
theorem PgAt.dataAt {b : Nat} {p : Pg} {w : World} (h : PgAt b p w) {i : Nat} (hi : i < 16) : w.cell? ⟨b, 2 + i * 2 + 1, none⟩ = some (.string (p.cell i).data) := h.cells _ _ (vals_data p i hi)
theorem info_page : (Try.prog.info? 27).map (·.size) = some 34 := by kernel_rfl
theorem info_cells : (Try.prog.info? 25).map (·.size) = some 32 := by kernel_rfl
theorem info_cell : (Try.prog.info? 24).map (·.size) = some 2 := by kernel_rfl
/-- Its cells alone. -/
def Pg.cellArr (p : Pg) : Array Value := (cellVals p.cell 16).toArray
theorem vals_cells (p : Pg) (j : Nat) (v : Value) (hv : (cellVals p.cell 16)[j]? = some v) : p.vals[2 + j]? = some v := by
  rw [show 2 + j = j + 1 + 1 from by omega, Pg.vals, List.getElem?_cons_succ, List.getElem?_cons_succ]; exact hv
/-- Loads and stores of whole pages and of all cells, as arms of a walk. -/
theorem wp_loadPage {ops : Array Oper} {rest : List Oper} {o : Oper} {a : Act} {w : World} {Q : Exit → Act → World → Prop} {x : Operand} {b : Nat} (p : Pg) (hp : PgAt b p w) (ho : o.op = .load 27 x)
    (hx : a.eval x = .pointer (some ⟨b, 0, none⟩)) (hgd : Region.wanted o (yielded ops a.tmps) = true) (h : wpList Try.prog ops Q rest (a.put o.dst (.agg p.arr)) w) : wpList Try.prog ops Q (o :: rest) a w :=
  wp_load p.vals 27 _ hp Try.underlying27 rfl (by rw [vals_length]; exact info_page) (fun j v hv => by rw [Nat.zero_add]; exact hv) ho hx hgd h
theorem wp_loadCells {ops : Array Oper} {rest : List Oper} {o : Oper} {a : Act} {w : World} {Q : Exit → Act → World → Prop} {x : Operand} {b : Nat} (p : Pg) (hp : PgAt b p w) (ho : o.op = .load 25 x)
    (hx : a.eval x = .pointer (some ⟨b, 2, none⟩)) (hgd : Region.wanted o (yielded ops a.tmps) = true) (h : wpList Try.prog ops Q rest (a.put o.dst (.agg p.cellArr)) w) : wpList Try.prog ops Q (o :: rest) a w :=
  wp_load (cellVals p.cell 16) 25 _ hp Try.underlying25 rfl (by rw [cellVals_length]; exact info_cells) (vals_cells p) ho hx hgd h
def oneVals (vs : List Value) : Prop := vs.all (·.oneCell') = true
theorem cellVals_one (f : Nat → CellM) : ∀ n, (cellVals f n).all (·.oneCell') = true
  | 0 => rfl
  | n + 1 => by rw [cellVals, List.all_append, cellVals_one f n]; rfl
theorem vals_one (p : Pg) : p.vals.all (·.oneCell') = true := by
  unfold Pg.vals
  rw [List.all_cons, List.all_cons, cellVals_one]; rfl
theorem wp_storePage {ops : Array Oper} {rest : List Oper} {o : Oper} {a : Act} {w : World} {Q : Exit → Act → World → Prop} {x y : Operand} {b : Nat} {vs : List Value} (p : Pg) (hr : RowAt b vs w) (hl : vs.length = 34) (ho : o.op = .store 27 x y)
    (hx : a.eval x = .pointer (some ⟨b, 0, none⟩)) (hy : a.eval y = .agg p.arr) (hgd : Region.wanted o (yielded ops a.tmps) = true) (h : wpList Try.prog ops Q rest (a.put o.dst undef) (w.setCells b 0 p.vals)) : wpList Try.prog ops Q (o :: rest) a w :=
  wp_store p.vals 27 hr (by rw [vals_length]; exact info_page) (vals_one p) (by rw [vals_length]; omega) ho hx hy hgd h
theorem stored_page {b : Nat} {vs : List Value} {w : World} (p : Pg) (hr : RowAt b vs w) (hl : vs.length = 34) : PgAt b p (w.setCells b 0 p.vals) := by
  have := hr.setCells p.vals 0 (by rw [vals_length]; omega)
  rwa [splice_all _ _ (by rw [vals_length, hl])] at this
/-- The page that no entry has changed, with the ID 0: what a new variable holds. -/
def newPg (n : Int) : Pg := ⟨n, 0, fun _ => noCell⟩
theorem zero_page (W : World) : (zeroValue 27).run Try.prog W = .ok (.agg (newPg 0).vals.toArray) W := by kernel_rfl
theorem wp_newPage {ops : Array Oper} {rest : List Oper} {o : Oper} {a : Act} {w : World} {Q : Exit → Act → World → Prop} (ho : o.op = .alloc 27)
    (hgd : Region.wanted o (yielded ops a.tmps) = true) (h : wpList Try.prog ops Q rest (a.put o.dst (.pointer (some ⟨w.heap.size, 0, none⟩))) (w.alloc (.cells (newPg 0).arr 27))) : wpList Try.prog ops Q (o :: rest) a w :=
  wp_new (newPg 0).vals 27 zero_page ho hgd h
theorem wp_newPageW {ops : Array Oper} {rest : List Oper} {o : Oper} {a : Act} {w : World} {Q : Exit → Act → World → Prop} (ho : o.op = .alloc 27)
    (hgd : Region.wanted o (yielded ops a.tmps) = true) (h : ∀ W, PgAt w.heap.size (newPg 0) W → Below w.heap.size w W → w.heap.size < W.heap.size → wpList Try.prog ops Q rest (a.put o.dst (.pointer (some ⟨w.heap.size, 0, none⟩))) W) : wpList Try.prog ops Q (o :: rest) a w :=
  wp_newPage ho hgd (h _ (PgAt.new _ _ _) ((Below.refl _ _).alloc (Nat.le_refl _) _) (by simp))
theorem build_page0 (W : World) : (Instr.build 27 #[]).run Try.prog W = .ok (.agg (newPg 0).arr) W := by kernel_rfl
theorem build_page1 (n : Int) (W : World) : (Instr.build 27 #[(0, .int .i64 n)]).run Try.prog W = .ok (.agg (newPg n).arr) W := by kernel_rfl
theorem build_page2 (n m : Int) (W : World) : (Instr.build 27 #[(0, .int .i64 n), (1, .int .i64 m)]).run Try.prog W = .ok (.agg (Pg.arr ⟨n, m, fun _ => noCell⟩)) W := by kernel_rfl
/-- A page as the result of a function, alone and with an error. -/
theorem res_page {fn : Func} {q : Tmp} (h : fn.results = #[.cell q 27]) {tmps : Array Value} {w : World} {b : Nat} {p : Pg} (hq : tmps.getD q undef = .pointer (some ⟨b, 0, none⟩)) (hr : PgAt b p w) :
    (results fn tmps).run Try.prog w = .ok (.agg p.arr) w := res1 h hq hr Try.underlying27 rfl (by rw [vals_length]; exact info_page)
theorem res_pageE {fn : Func} {q r : Tmp} (h : fn.results = #[.cell q 27, .tmp r]) {tmps : Array Value} {w : World} {b : Nat} {p : Pg} (hq : tmps.getD q undef = .pointer (some ⟨b, 0, none⟩)) (hr : PgAt b p w) :
    (results fn tmps).run Try.prog w = .ok (.tuple #[.agg p.arr, tmps.getD r undef]) w := res2 h hq hr Try.underlying27 rfl (by rw [vals_length]; exact info_page)
theorem cellVals_part (f : Nat → CellM) : ∀ n i, i < n → ((cellVals f n).drop (i * 2)).take 2 = (f i).vals
  | 0, i, h => by omega
  | n + 1, i, h => by
    have hl := cellVals_length f n
    rw [cellVals]
    by_cases e : i = n
    · subst e
      rw [List.drop_append_of_le_length (by omega), List.drop_eq_nil_of_le (by omega), List.nil_append]
      rfl
    · rw [List.drop_append_of_le_length (by omega), List.take_append_of_le_length (by rw [List.length_drop]; omega)]
      exact cellVals_part f n i (by omega)
theorem run_index_cells (p : Pg) (i : Nat) (hi : i < 16) (W : World) :
    (Instr.index 25 (.agg p.cellArr) (.int .i64 (i : Int))).run Try.prog W = .ok (.agg #[.bool (p.cell i).set, .string (p.cell i).data]) W := by
  have hs : (sizeOf 24).run Try.prog W = .ok 2 W := by kernel_rfl
  have hu : Try.prog.underlying 25 = some (.array 16 24) := by kernel_rfl
  have ha : (isAgg 24).run Try.prog W = .ok true W := by kernel_rfl
  have h1 : (0 : Int) ≤ (i : Int) ∧ (i : Int) < ((16 : Nat) : Int) := by omega
  have he : p.cellArr.extract (i * 2) (i * 2 + 2) = #[.bool (p.cell i).set, .string (p.cell i).data] := by
    apply Array.ext'
    rw [Array.toList_extract, List.extract_eq_drop_take', List.drop_take]
    rw [show i * 2 + 2 - i * 2 = 2 from by omega]
    exact cellVals_part p.cell 16 i hi
  simp only [Instr.index, asIntOf, Sem.run_bind, Sem.run_pure, Result.andThen, run_underlying hu]
  rw [if_pos h1]
  simp only [Sem.run_bind, Result.andThen, hs, Int.toNat_natCast, part, ha, if_true, Sem.run_pure, he]

theorem nil_iff (s : ByteArray) : s.toList = [] ↔ s = ⟨#[]⟩ := by
  rw [ByteArray.toList_eq]
  constructor
  · intro h
    apply ByteArray.ext
    simpa using h
  · rintro rfl
    rfl
/-- What the document calls valid. -/
def numsB (p : Pg) : Bool := decide (0 ≤ p.id ∧ p.id < 64 ∧ 0 ≤ p.lsn ∧ p.lsn ≤ 1099511627776)
def cellB (c : CellM) : Bool := decide (c.data.size ≤ 12 ∧ (c.set = false → c.data = ⟨#[]⟩))
def cellOkB (p : Pg) (i : Nat) : Bool := cellB (p.cell i) && !((p.cell i).set && decide (p.lsn = 0))
def cellsB (p : Pg) : Bool := (List.range 16).all (cellOkB p)
def validB (p : Pg) : Bool := numsB p && cellsB p
theorem cellsB_iff {p : Pg} : cellsB p = true ↔ ∀ i, i < 16 → cellOkB p i = true := by
  unfold cellsB
  simp [List.all_eq_true]
theorem cellsB_no {p : Pg} {i : Nat} (hi : i < 16) (h : cellOkB p i = false) : cellsB p = false := by
  cases e : cellsB p with
  | false => rfl
  | true => rw [cellsB_iff.1 e i hi] at h; cases h
theorem cellsB_yes {p : Pg} (h : ∀ i, i < 16 → cellOkB p i = true) : cellsB p = true := cellsB_iff.2 h
theorem ok_no {p : Pg} {j : Nat} (h : ¬cellB (p.cell j) = true) : cellOkB p j = false := by
  unfold cellOkB
  simp only [Bool.not_eq_true] at h
  rw [h, Bool.false_and]
theorem ok_zero {p : Pg} {j : Nat} (hs : (p.cell j).set = true) (h : (p.lsn == 0) = true) : cellOkB p j = false := by
  have h' : p.lsn = 0 := by simpa using h
  unfold cellOkB
  rw [hs, h']
  simp
theorem ok_set {p : Pg} {j : Nat} (h : cellB (p.cell j) = true) (hz : (p.lsn == 0) = false) : cellOkB p j = true := by
  have h' : ¬ p.lsn = 0 := by simpa using hz
  unfold cellOkB
  rw [h, decide_eq_false h']
  simp
theorem ok_unset {p : Pg} {j : Nat} (h : cellB (p.cell j) = true) (hs : ¬(p.cell j).set = true) : cellOkB p j = true := by
  unfold cellOkB
  simp only [Bool.not_eq_true] at hs
  rw [h, hs]
  simp
theorem ok_next {p : Pg} {j : Nat} (h : ∀ k, k < j → cellOkB p k = true) (hj : cellOkB p j = true) : ∀ k, k < j + 1 → cellOkB p k = true := fun k hk => by
  by_cases e : k = j
  · rw [e]; exact hj
  · exact h k (by omega)
/-- No string of the page is longer than anything may be. -/
def Fits (p : Pg) : Prop := ∀ i, i < 16 → (p.cell i).data.size ≤ 9223372036854775807
end Go.Proofs.Ytkcgcddpgfcgiaa.da
