/- Changes as plain data: their cells in memory; which are valid; loads, stores, new ones. -/
import Derived.Test.YtmlclccfmlcabaaDoorFb
import Derived.Test.YtmlclccfmlcabaaDoorEd
namespace Go.Proofs.YtmlclccfmlcabaaDoor.ka
open Go.ChangeShapes Go.WideShapes Go.ChangeAt Go.RowKit Go.Proofs.YtmlclccfmlcabaaDoor.cx Go.Proofs.YtmlclccfmlcabaaDoor.da Go.Proofs.YtmlclccfmlcabaaDoor.ea Go.Proofs.YtmlclccfmlcabaaDoor.eb Go.Proofs.YtmlclccfmlcabaaDoor.ed Go.Proofs.YtmlclccfmlcabaaDoor.fb Go.Proofs.YtmlclccfmlcabaaDoor.ra Go.Proofs.YtmlclccfmlcabaaDoor.rb Go.Proofs.YtmlclccfmlcabaaDoor.rc Go.Proofs.YtmlclccfmlcabaaDoor.ya
/-- A change: page, slot, the cell before and behind it. -/
structure Chg where
  page : Int
  slot : Int
  before : CellM
  after : CellM
def Chg.vals (c : Chg) : List Value := [.int .i64 c.page, .int .i64 c.slot, .bool c.before.set, .string c.before.data, .bool c.after.set, .string c.after.data]
def Chg.arr (c : Chg) : Array Value := c.vals.toArray
theorem cvals_length (c : Chg) : c.vals.length = 6 := rfl
abbrev ChAt (b : Nat) (c : Chg) (w : World) : Prop := RowAt b c.vals w
theorem ChAt.new (c : Chg) (w : World) (t : TypeId) : ChAt w.heap.size c (w.alloc (.cells c.arr t)) := RowAt.new c.vals w t
theorem ChAt.all {b : Nat} {c : Chg} {w : World} (h : ChAt b c w) : w.cell? ⟨b, 0, none⟩ = some (.int .i64 c.page) ∧ w.cell? ⟨b, 1, none⟩ = some (.int .i64 c.slot) ∧ w.cell? ⟨b, 2, none⟩ = some (.bool c.before.set) ∧
    w.cell? ⟨b, 3, none⟩ = some (.string c.before.data) ∧ w.cell? ⟨b, 4, none⟩ = some (.bool c.after.set) ∧ w.cell? ⟨b, 5, none⟩ = some (.string c.after.data) :=
  ⟨h.cells 0 _ rfl, h.cells 1 _ rfl, h.cells 2 _ rfl, h.cells 3 _ rfl, h.cells 4 _ rfl, h.cells 5 _ rfl⟩
theorem info_change : (Tryd.prog.info? 29).map (·.size) = some 6 := by kernel_rfl
theorem wp_loadChg {ops : Array Oper} {rest : List Oper} {o : Oper} {a : Act} {w : World} {Q : Exit → Act → World → Prop} {x : Operand} {b : Nat} (c : Chg) (hp : ChAt b c w) (ho : o.op = .load 29 x)
    (hx : a.eval x = .pointer (some ⟨b, 0, none⟩)) (hgd : Region.wanted o (yielded ops a.tmps) = true) (hn : wpList Tryd.prog ops Q rest (a.put o.dst (.agg c.arr)) w) : wpList Tryd.prog ops Q (o :: rest) a w :=
  wp_load c.vals _ _ hp Tryd.underlying29 rfl info_change (fun j v hv => by rw [Nat.zero_add]; exact hv) ho hx hgd hn
theorem cvals_one (c : Chg) : c.vals.all (·.oneCell') = true := rfl
theorem wp_storeChg {ops : Array Oper} {rest : List Oper} {o : Oper} {a : Act} {w : World} {Q : Exit → Act → World → Prop} {x y : Operand} {b : Nat} {vs : List Value} (c : Chg) (hr : RowAt b vs w) (hl : vs.length = 6) (ho : o.op = .store 29 x y)
    (hx : a.eval x = .pointer (some ⟨b, 0, none⟩)) (hy : a.eval y = .agg c.arr) (hgd : Region.wanted o (yielded ops a.tmps) = true) (hn : wpList Tryd.prog ops Q rest (a.put o.dst undef) (w.setCells b 0 c.vals)) : wpList Tryd.prog ops Q (o :: rest) a w :=
  wp_store c.vals _ hr info_change (cvals_one c) (by rw [cvals_length, hl]; exact Nat.le_refl _) ho hx hy hgd hn
theorem stored_chg {b : Nat} {vs : List Value} {w : World} (c : Chg) (hr : RowAt b vs w) (hl : vs.length = 6) : ChAt b c (w.setCells b 0 c.vals) := by
  have := RowAt.setCells c.vals 0 hr (by rw [cvals_length, hl]; exact Nat.le_refl _)
  rwa [splice_all _ _ (by rw [cvals_length, hl])] at this
theorem wp_storeChgW {ops : Array Oper} {rest : List Oper} {o : Oper} {a : Act} {w : World} {Q : Exit → Act → World → Prop} {x y : Operand} {b : Nat} {vs : List Value} (c : Chg) (hr : RowAt b vs w) (hl : vs.length = 6) (ho : o.op = .store 29 x y)
    (hx : a.eval x = .pointer (some ⟨b, 0, none⟩)) (hy : a.eval y = .agg c.arr) (hgd : Region.wanted o (yielded ops a.tmps) = true) (h : ∀ W, ChAt b c W → Stored b w W → wpList Tryd.prog ops Q rest (a.put o.dst undef) W) : wpList Tryd.prog ops Q (o :: rest) a w :=
  wp_storeChg c hr hl ho hx hy hgd (h _ (stored_chg c hr hl) ⟨_, rfl⟩)
theorem wp_box {ops : Array Oper} {rest : List Oper} {o : Oper} {a : Act} {w : World} {Q : Exit → Act → World → Prop} {x : Operand} (vs : List Value) (ty : TypeId) (ho : o.op = .box ty x) (hx : a.eval x = .agg vs.toArray)
    (hgd : Region.wanted o (yielded ops a.tmps) = true) (hn : wpList Tryd.prog ops Q rest (a.put o.dst (.pointer (some ⟨w.heap.size, 0, none⟩))) (w.alloc (.cells vs.toArray ty))) : wpList Tryd.prog ops Q (o :: rest) a w :=
  wpList_step fun _ hK => by
    rw [if_pos hgd]
    unfold Oper.wp execOp
    simp only [ho]
    simp [Instr.box, hx, newVar, newRow, Value.cells]
    exact hK _ _ hn
theorem wp_boxChgW {ops : Array Oper} {rest : List Oper} {o : Oper} {a : Act} {w : World} {Q : Exit → Act → World → Prop} {x : Operand} (c : Chg) (ho : o.op = .box 29 x) (hx : a.eval x = .agg c.arr)
    (hgd : Region.wanted o (yielded ops a.tmps) = true) (h : ∀ W, ChAt w.heap.size c W → Below w.heap.size w W → w.heap.size < W.heap.size → wpList Tryd.prog ops Q rest (a.put o.dst (.pointer (some ⟨w.heap.size, 0, none⟩))) W) : wpList Tryd.prog ops Q (o :: rest) a w :=
  wp_box c.vals _ ho hx hgd (h _ (ChAt.new _ _ _) ((Below.refl _ _).alloc (Nat.le_refl _) _) (by simp))
/-- Some cells of block b have been stored, from some place on. -/
def StoredAt (b : Nat) (w W : World) : Prop := ∃ f us, W = w.setCells b f us
theorem StoredAt.row {b b' : Nat} {vs : List Value} {w W : World} (h : StoredAt b w W) (hr : RowAt b' vs w) (hne : b ≠ b') : RowAt b' vs W := by
  obtain ⟨f, us, rfl⟩ := h
  exact hr.setCellsOther hne us f
theorem StoredAt.below {b B : Nat} {a w W : World} (h : StoredAt b w W) (hb : Below B a w) (hB : B ≤ b) : Below B a W := by
  obtain ⟨f, us, rfl⟩ := h
  exact below_setCells b hB us f _ hb
theorem StoredAt.size {b : Nat} {w W : World} (h : StoredAt b w W) : W.heap.size = w.heap.size := by
  obtain ⟨f, us, rfl⟩ := h
  exact setCells_size b us f w
theorem cell_one (c : CellM) : c.vals.all (·.oneCell') = true := rfl
theorem wp_storeCellW {ops : Array Oper} {rest : List Oper} {o : Oper} {a : Act} {w : World} {Q : Exit → Act → World → Prop} {x y : Operand} {b f : Nat} {vs : List Value} (c : CellM) (hr : RowAt b vs w) (hl : f + 2 ≤ vs.length) (ho : o.op = .store 27 x y)
    (hx : a.eval x = .pointer (some ⟨b, f, none⟩)) (hy : a.eval y = .agg #[.bool c.set, .string c.data]) (hgd : Region.wanted o (yielded ops a.tmps) = true) (h : ∀ W, RowAt b (splice vs f c.vals) W → StoredAt b w W → wpList Tryd.prog ops Q rest (a.put o.dst undef) W) : wpList Tryd.prog ops Q (o :: rest) a w :=
  wp_store c.vals _ hr info_cell (cell_one c) hl ho hx hy hgd (h _ (RowAt.setCells c.vals f hr hl) ⟨_, _, rfl⟩)
def chg0 : Chg := ⟨0, 0, noCell, noCell⟩
theorem zero_chg (W : World) : (zeroValue 29).run Tryd.prog W = .ok (.agg chg0.vals.toArray) W := by kernel_rfl
theorem wp_newChg {ops : Array Oper} {rest : List Oper} {o : Oper} {a : Act} {w : World} {Q : Exit → Act → World → Prop} (ho : o.op = .alloc 29)
    (hgd : Region.wanted o (yielded ops a.tmps) = true) (hn : wpList Tryd.prog ops Q rest (a.put o.dst (.pointer (some ⟨w.heap.size, 0, none⟩))) (w.alloc (.cells chg0.arr 29))) : wpList Tryd.prog ops Q (o :: rest) a w :=
  wp_new chg0.vals _ zero_chg ho hgd hn
theorem wp_newChgW {ops : Array Oper} {rest : List Oper} {o : Oper} {a : Act} {w : World} {Q : Exit → Act → World → Prop} (ho : o.op = .alloc 29)
    (hgd : Region.wanted o (yielded ops a.tmps) = true) (h : ∀ W, ChAt w.heap.size chg0 W → Below w.heap.size w W → w.heap.size < W.heap.size → wpList Tryd.prog ops Q rest (a.put o.dst (.pointer (some ⟨w.heap.size, 0, none⟩))) W) : wpList Tryd.prog ops Q (o :: rest) a w :=
  wp_newChg ho hgd (h _ (RowAt.new chg0.vals w _) ((Below.refl _ _).alloc (Nat.le_refl _) _) (by simp))
theorem build_chg0 (W : World) : (Instr.build 29 #[]).run Tryd.prog W = .ok (.agg chg0.arr) W := by kernel_rfl
theorem build_chg (a b : Int) (c d : CellM) (W : World) : (Instr.build 29 #[(0, .int .i64 a), (1, .int .i64 b), (2, .agg #[.bool c.set, .string c.data]), (3, .agg #[.bool d.set, .string d.data])]).run Tryd.prog W = .ok (.agg (Chg.arr ⟨a, b, c, d⟩)) W := by kernel_rfl
theorem res_chg {fn : Func} {q : Tmp} (h : fn.results = #[.cell q 29]) {tmps : Array Value} {w : World} {b : Nat} {c : Chg} (hq : tmps.getD q undef = .pointer (some ⟨b, 0, none⟩)) (hr : ChAt b c w) :
    (results fn tmps).run Tryd.prog w = .ok (.agg c.arr) w := res1 h hq hr Tryd.underlying29 rfl info_change
theorem res_chgE {fn : Func} {q r : Tmp} (h : fn.results = #[.cell q 29, .tmp r]) {tmps : Array Value} {w : World} {b : Nat} {c : Chg} (hq : tmps.getD q undef = .pointer (some ⟨b, 0, none⟩)) (hr : ChAt b c w) :
    (results fn tmps).run Tryd.prog w = .ok (.tuple #[.agg c.arr, tmps.getD r undef]) w := res2 h hq hr Tryd.underlying29 rfl info_change
/-- Equality. -/
theorem cell_eql (c d : CellM) (W : World) : (binOp .eql 27 (.agg #[.bool c.set, .string c.data]) (.agg #[.bool d.set, .string d.data])).run Tryd.prog W = .ok (.bool (sameC c d)) W := by
  rw [run_eql_struct, cell_eqIn 9998]; rfl
theorem cell_neq (c d : CellM) (W : World) : (binOp .neq 27 (.agg #[.bool c.set, .string c.data]) (.agg #[.bool d.set, .string d.data])).run Tryd.prog W = .ok (.bool (!sameC c d)) W := by
  rw [run_neq_struct, cell_eqIn 9998]; rfl
def sameH (c d : Chg) : Bool := c.page == d.page && (c.slot == d.slot && (sameC c.before d.before && sameC c.after d.after))
theorem sameH_iff {c d : Chg} : sameH c d = true ↔ c = d := by
  obtain ⟨a, b, x, y⟩ := c
  obtain ⟨a', b', x', y'⟩ := d
  unfold sameH
  simp only [Bool.and_eq_true, beq_iff_eq, Chg.mk.injEq, sameC_iff]
theorem chg_eqIn (c d : Chg) (W : World) : (Op.equalIn 10000 29 (.agg c.arr) (.agg d.arr)).run Tryd.prog W = .ok (sameH c d) W := by
  obtain ⟨a, b, x, y⟩ := c
  obtain ⟨a', b', x', y'⟩ := d
  unfold sameH sameC
  simp only [Chg.arr, Chg.vals]
  go_simp
  (repeat' split) <;> simp_all
theorem sameH_self (c : Chg) : sameH c c = true := sameH_iff.2 rfl
theorem sameC_self (c : CellM) : sameC c c = true := sameC_iff.2 rfl
theorem chg_neq_self (c : Chg) (W : World) : (binOp .neq 29 (.agg c.arr) (.agg c.arr)).run Tryd.prog W = .ok (.bool false) W := by
  rw [run_neq_struct, chg_eqIn, sameH_self]; rfl
theorem chg_eql_self (c : Chg) (W : World) : (binOp .eql 29 (.agg c.arr) (.agg c.arr)).run Tryd.prog W = .ok (.bool true) W := by
  rw [run_eql_struct, chg_eqIn, sameH_self]; rfl
end Go.Proofs.YtmlclccfmlcabaaDoor.ka
