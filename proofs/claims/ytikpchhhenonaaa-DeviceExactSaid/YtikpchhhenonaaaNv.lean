/- For DeviceExact: rows of devices and faults; Replace in general; loads at a place. -/
import Derived.Test.YtikpchhhenonaaaNs
import Derived.Test.YtikpchhhenonaaaNp
import Derived.Test.YtikpchhhenonaaaMa
namespace Go.Proofs.Ytikpchhhenonaaa.nv
open Go.ChangeShapes Go.WideShapes Go.ChangeAt Go.RowKit Go.Proofs.Ytikpchhhenonaaa.cx Go.Proofs.Ytikpchhhenonaaa.ra Go.Proofs.Ytikpchhhenonaaa.la Go.Proofs.Ytikpchhhenonaaa.lb Go.Proofs.Ytikpchhhenonaaa.lc Go.Proofs.Ytikpchhhenonaaa.ld Go.Proofs.Ytikpchhhenonaaa.le Go.Proofs.Ytikpchhhenonaaa.lf Go.Proofs.Ytikpchhhenonaaa.lg Go.Proofs.Ytikpchhhenonaaa.lh Go.Proofs.Ytikpchhhenonaaa.li Go.Proofs.Ytikpchhhenonaaa.lj Go.Proofs.Ytikpchhhenonaaa.lk Go.Proofs.Ytikpchhhenonaaa.ll Go.Proofs.Ytikpchhhenonaaa.lm Go.Proofs.Ytikpchhhenonaaa.ln Go.Proofs.Ytikpchhhenonaaa.lo Go.Proofs.Ytikpchhhenonaaa.lp Go.Proofs.Ytikpchhhenonaaa.lq Go.Proofs.Ytikpchhhenonaaa.lr Go.Proofs.Ytikpchhhenonaaa.ls Go.Proofs.Ytikpchhhenonaaa.lt Go.Proofs.Ytikpchhhenonaaa.lu Go.Proofs.Ytikpchhhenonaaa.lv Go.Proofs.Ytikpchhhenonaaa.lw Go.Proofs.Ytikpchhhenonaaa.lx Go.Proofs.Ytikpchhhenonaaa.ly Go.Proofs.Ytikpchhhenonaaa.na Go.Proofs.Ytikpchhhenonaaa.nc Go.Proofs.Ytikpchhhenonaaa.nd Go.Proofs.Ytikpchhhenonaaa.ne Go.Proofs.Ytikpchhhenonaaa.nf Go.Proofs.Ytikpchhhenonaaa.ng Go.Proofs.Ytikpchhhenonaaa.nj Go.Proofs.Ytikpchhhenonaaa.nk Go.Proofs.Ytikpchhhenonaaa.nq Go.Proofs.Ytikpchhhenonaaa.nr Go.Proofs.Ytikpchhhenonaaa.no Go.Proofs.Ytikpchhhenonaaa.nb Go.Proofs.Ytikpchhhenonaaa.ns
set_option linter.unusedSimpArgs false
theorem build_dev3 (a0 a1 a2 a3 a4 b0 b1 b2 b3 b4 c0 c1 c2 c3 c4 : Value) (W : World) : (Instr.buildSlice 40 3 #[(0, .agg #[a0, a1, a2, a3, a4]), (1, .agg #[b0, b1, b2, b3, b4]), (2, .agg #[c0, c1, c2, c3, c4])]).run Try.prog W =
    .ok (.slice (some ⟨W.heap.size, 0, none⟩) 3 3) (W.alloc (.cells #[a0, a1, a2, a3, a4, b0, b1, b2, b3, b4, c0, c1, c2, c3, c4] 27)) := by kernel_rfl
theorem build_flt2 (f g : Flt) (W : World) : (Instr.buildSlice 25 2 #[(0, .agg f.arr), (1, .agg g.arr)]).run Try.prog W = .ok (.slice (some ⟨W.heap.size, 0, none⟩) 2 2) (W.alloc (.cells (f.vals ++ g.vals).toArray 29)) := by kernel_rfl
theorem build_int2 (m n : Int) (W : World) : (Instr.buildSlice 24 2 #[(0, .int .i64 m), (1, .int .i64 n)]).run Try.prog W = .ok (.slice (some ⟨W.heap.size, 0, none⟩) 2 2) (W.alloc (.cells #[.int .i64 m, .int .i64 n] 3)) := by kernel_rfl
theorem five {vs : List Value} (h : vs.length = 5) : ∃ a b c d e, vs = [a, b, c, d, e] := by
  match vs, h with
  | [a, b, c, d, e], _ => exact ⟨a, b, c, d, e, rfl⟩
section
variable {ops : Array Oper} {rest : List Oper} {o : Oper} {a : Act} {w : World} {Q : Exit → Act → World → Prop} {x y z : Operand} {b : Nat} {K : Act → World → Prop}
theorem op_buildD (u v t : List Value) (hu : u.length = 5) (hv : v.length = 5) (ht : t.length = 5) (ho : o.op = .buildSlice 40 3 #[(0, x), (1, y), (2, z)]) (hx : a.eval x = .agg u.toArray) (hy : a.eval y = .agg v.toArray) (hz : a.eval z = .agg t.toArray)
    (h : ∀ W, RowAt w.heap.size (u ++ v ++ t) W → Below w.heap.size w W → w.heap.size < W.heap.size → K (a.put o.dst (.slice (some ⟨w.heap.size, 0, none⟩) 3 3)) W) : o.wp Try.prog a w K Q := by
  obtain ⟨a0, a1, a2, a3, a4, rfl⟩ := five hu
  obtain ⟨b0, b1, b2, b3, b4, rfl⟩ := five hv
  obtain ⟨c0, c1, c2, c3, c4, rfl⟩ := five ht
  have hn := h _ (RowAt.new [a0, a1, a2, a3, a4, b0, b1, b2, b3, b4, c0, c1, c2, c3, c4] w 27) ((Below.refl _ _).alloc (Nat.le_refl _) _) (by simp)
  have hb := build_dev3 a0 a1 a2 a3 a4 b0 b1 b2 b3 b4 c0 c1 c2 c3 c4 w
  unfold Oper.wp execOp
  simp only [ho]
  simp only [List.map_toArray, List.map_cons, List.map_nil, hx, hy, hz, hb, Sem.run_bind, Result.andThen_ok, Sem.run_pure]
  exact hn
theorem op_buildF (f g : Flt) (ho : o.op = .buildSlice 25 2 #[(0, x), (1, y)]) (hx : a.eval x = .agg f.arr) (hy : a.eval y = .agg g.arr)
    (h : ∀ W, RowAt w.heap.size (f.vals ++ g.vals) W → Below w.heap.size w W → w.heap.size < W.heap.size → K (a.put o.dst (.slice (some ⟨w.heap.size, 0, none⟩) 2 2)) W) : o.wp Try.prog a w K Q := by
  have hn := h _ (RowAt.new (f.vals ++ g.vals) w 29) ((Below.refl _ _).alloc (Nat.le_refl _) _) (by simp)
  have hb := build_flt2 f g w
  unfold Oper.wp execOp
  simp only [ho]
  simp only [List.map_toArray, List.map_cons, List.map_nil, hx, hy, hb, Sem.run_bind, Result.andThen_ok, Sem.run_pure]
  exact hn
theorem wp_buildI2W (m n : Int) (ho : o.op = .buildSlice 24 2 #[(0, x), (1, y)]) (hx : a.eval x = .int .i64 m) (hy : a.eval y = .int .i64 n)
    (hgd : Region.wanted o (yielded ops a.tmps) = true) (h : ∀ W, RowAt w.heap.size [.int .i64 m, .int .i64 n] W → Below w.heap.size w W → w.heap.size < W.heap.size → wpList Try.prog ops Q rest (a.put o.dst (.slice (some ⟨w.heap.size, 0, none⟩) 2 2)) W) : wpList Try.prog ops Q (o :: rest) a w :=
  wpList_step fun _ hK => by
    rw [if_pos hgd]
    have hn := h _ (RowAt.new [.int .i64 m, .int .i64 n] w 3) ((Below.refl _ _).alloc (Nat.le_refl _) _) (by simp)
    have hb := build_int2 m n w
    unfold Oper.wp execOp
    simp only [ho]
    simp only [List.map_toArray, List.map_cons, List.map_nil, hx, hy, hb, Sem.run_bind, Result.andThen_ok, Sem.run_pure]
    exact hK _ _ hn
theorem wp_loadVAt (vs : List Value) (off : Nat) (h : ∀ i u, vs[i]? = some u → w.cell? ⟨b, off + i, none⟩ = some u) (hl : vs.length = 5) (ho : o.op = .load 27 x)
    (hx : a.eval x = .pointer (some ⟨b, off, none⟩)) (hgd : Region.wanted o (yielded ops a.tmps) = true) (hn : wpList Try.prog ops Q rest (a.put o.dst (.agg vs.toArray)) w) : wpList Try.prog ops Q (o :: rest) a w :=
  run_rowList vs _ _ off h Try.underlying27 rfl (by rw [hl]; exact info_dev) ho hx hgd hn
end
/-- Three device values in a row, none of their lists in block xc nor in the row. -/
structure Trio (xt xc : Nat) (u v t : List Value) (A B C : Dev) (w : World) : Prop where
  row : RowAt xt (u ++ v ++ t) w
  devs : DevV u A w ∧ DevV v B w ∧ DevV t C w
  fits : FitB A ∧ FitB B ∧ FitB C
  offs : Off xc u ∧ Off xc v ∧ Off xc t
  ne : xt ≠ xc
theorem Trio.grown {xt xc : Nat} {u v t : List Value} {A B C : Dev} {w w' : World} (h : Trio xt xc u v t A B C w) (hg : w.grownBy w' (some xc)) : Trio xt xc u v t A B C w' :=
  ⟨h.row.grown hg (fun e => h.ne (by injection e with e; exact e.symm)), ⟨devV_grown h.devs.1 hg (fun k e => by injection e with e; subst e; exact h.offs.1), devV_grown h.devs.2.1 hg (fun k e => by injection e with e; subst e; exact h.offs.2.1), devV_grown h.devs.2.2 hg (fun k e => by injection e with e; subst e; exact h.offs.2.2)⟩, h.fits, h.offs, h.ne⟩
/-- The j-th of them. -/
theorem Trio.nth {xt xc : Nat} {u v t : List Value} {A B C : Dev} {w : World} (h : Trio xt xc u v t A B C w) {j : Nat} (hj : j < 3) : ∃ vs D, vs.length = 5 ∧ (∀ i y, vs[i]? = some y → w.cell? ⟨xt, j * 5 + i, none⟩ = some y) ∧ DevV vs D w ∧ FitB D ∧ Off xc vs := by
  have l1 := h.devs.1.length
  have l2 := h.devs.2.1.length
  have l3 := h.devs.2.2.length
  have lt : ∀ {l : List Value} {i : Nat} {y : Value}, l[i]? = some y → i < l.length := fun {l i y} e => by
    rcases Nat.lt_or_ge i l.length with h1 | h1
    · exact h1
    · rw [List.getElem?_eq_none h1] at e; cases e
  rcases (show j = 0 ∨ j = 1 ∨ j = 2 by omega) with rfl | rfl | rfl
  · exact ⟨u, A, l1, fun i y e => by have := lt e; exact h.row.cells _ y (by rw [List.append_assoc, List.getElem?_append_left (by omega)]; simpa using e), h.devs.1, h.fits.1, h.offs.1⟩
  · exact ⟨v, B, l2, fun i y e => by have := lt e; exact h.row.cells _ y (by rw [List.getElem?_append_left (by simp; omega), List.getElem?_append_right (by omega)]; rw [show 1 * 5 + i - u.length = i by omega]; exact e), h.devs.2.1, h.fits.2.1, h.offs.2.1⟩
  · exact ⟨t, C, l3, fun i y e => by have := lt e; exact h.row.cells _ y (by rw [List.getElem?_append_right (by simp; omega)]; rw [show 2 * 5 + i - (u ++ v).length = i by simp; omega]; exact e), h.devs.2.2, h.fits.2.2, h.offs.2.2⟩
theorem two_flts {xg : Nat} {f g : Flt} {w : World} {i : Nat} (h : RowAt xg (f.vals ++ g.vals) w) (hi : i < 2) : ∃ z : Flt, ∀ k u, z.vals[k]? = some u → w.cell? ⟨xg, i * 6 + k, none⟩ = some u := by
  have lt : ∀ {z : Flt} {k : Nat} {u : Value}, z.vals[k]? = some u → k < 6 := fun {z k u} e => by
    rcases Nat.lt_or_ge k 6 with h1 | h1
    · exact h1
    · rw [List.getElem?_eq_none (by rw [fvals_length]; exact h1)] at e; cases e
  rcases (show i = 0 ∨ i = 1 by omega) with rfl | rfl
  · exact ⟨f, fun k u e => by have := lt e; exact h.cells _ u (by rw [List.getElem?_append_left (by rw [fvals_length]; omega)]; simpa using e)⟩
  · exact ⟨g, fun k u e => by have := lt e; exact h.cells _ u (by rw [List.getElem?_append_right (by rw [fvals_length]; omega), fvals_length, show 1 * 6 + k - 6 = k by omega]; exact e)⟩
def repE (d : Dev) : Int := if validD d = true then 0 else 15
def repD (d : Dev) : Dev := if validD d = true then ⟨blanks d.pages.length, d.writes, [], false, d.faults⟩ else noDev
theorem replace_b (vs : List Value) (d : Dev) (n : Int) (hn : repE d = n) (w : World) (h : DevV vs d w) (hf : FitsD d) :
    Calls Try.prog 29 #[.agg vs.toArray] w fun e w' => ∃ vs', e = .returned (.tuple #[.agg vs'.toArray, .int .i64 n]) ∧ DevV vs' (repD d) w' ∧ (∀ b, b ≤ w.heap.size → Lo b vs') ∧ Below w.heap.size w w' := by
  subst hn
  unfold repE repD
  cases hv : validD d
  · exact np.replace_err vs d w h hf hv
  · exact ma.replace_ok vs d w h hf hv
theorem refReplace_b (vs : List Value) (d : Dev) (n : Int) (hn : repE d = n) (w : World) (h : DevV vs d w) (hf : FitsD d) :
    Calls Try.prog 30 #[.agg vs.toArray] w fun e w' => ∃ vs', e = .returned (.tuple #[.agg vs'.toArray, .int .i64 n]) ∧ DevV vs' (repD d) w' ∧ (∀ b, b ≤ w.heap.size → Lo b vs') ∧ Below w.heap.size w w' := by
  subst hn
  unfold repE repD
  cases hv : validD d
  · exact np.refReplace_err vs d w h hf hv
  · exact np.refReplace_ok vs d w h hf hv
end Go.Proofs.Ytikpchhhenonaaa.nv
