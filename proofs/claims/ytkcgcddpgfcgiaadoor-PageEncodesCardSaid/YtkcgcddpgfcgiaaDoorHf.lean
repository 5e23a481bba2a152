/- PageEncodes: four pages in one row; the facts of one page. -/
import Derived.Test.YtkcgcddpgfcgiaaDoorHc
import Derived.Test.YtkcgcddpgfcgiaaDoorPa
import Derived.Test.YtkcgcddpgfcgiaaDoorEc
namespace Go.Proofs.YtkcgcddpgfcgiaaDoor.hf
open Go.ChangeShapes Go.WideShapes Go.ChangeAt Go.RowKit Go.Proofs.YtkcgcddpgfcgiaaDoor.cm Go.Proofs.YtkcgcddpgfcgiaaDoor.cw Go.Proofs.YtkcgcddpgfcgiaaDoor.cp Go.Proofs.YtkcgcddpgfcgiaaDoor.cg Go.Proofs.YtkcgcddpgfcgiaaDoor.ch Go.Proofs.YtkcgcddpgfcgiaaDoor.cx Go.Proofs.YtkcgcddpgfcgiaaDoor.ra Go.Proofs.YtkcgcddpgfcgiaaDoor.rb Go.Proofs.YtkcgcddpgfcgiaaDoor.rc Go.Proofs.YtkcgcddpgfcgiaaDoor.da Go.Proofs.YtkcgcddpgfcgiaaDoor.db Go.Proofs.YtkcgcddpgfcgiaaDoor.dc Go.Proofs.YtkcgcddpgfcgiaaDoor.dd Go.Proofs.YtkcgcddpgfcgiaaDoor.de Go.Proofs.YtkcgcddpgfcgiaaDoor.di Go.Proofs.YtkcgcddpgfcgiaaDoor.ea Go.Proofs.YtkcgcddpgfcgiaaDoor.eb Go.Proofs.YtkcgcddpgfcgiaaDoor.ec Go.Proofs.YtkcgcddpgfcgiaaDoor.ed Go.Proofs.YtkcgcddpgfcgiaaDoor.fb Go.Proofs.YtkcgcddpgfcgiaaDoor.hc Go.Proofs.YtkcgcddpgfcgiaaDoor.st Go.Proofs.YtkcgcddpgfcgiaaDoor.pa

def four (p q r s : Pg) : List Value := p.vals ++ (q.vals ++ (r.vals ++ s.vals))
theorem build_four (p q r s : Pg) (W : World) : (Instr.buildSlice 34 4 #[(0, .agg p.arr), (1, .agg q.arr), (2, .agg r.arr), (3, .agg s.arr)]).run Tryd.prog W = .ok (.slice (some ⟨W.heap.size, 0, none⟩) 4 4) (W.alloc (.cells (four p q r s).toArray 27)) := by
  kernel_rfl
theorem app_left {a : List Value} (b : List Value) {t : Nat} {v : Value} (h : a[t]? = some v) : (a ++ b)[t]? = some v := by
  rw [List.getElem?_append_left]
  · exact h
  · rcases Nat.lt_or_ge t a.length with h1 | h1
    · exact h1
    · rw [List.getElem?_eq_none h1] at h; cases h
theorem app_right {a : List Value} (b : List Value) {n t : Nat} (hn : a.length = n) : (a ++ b)[n + t]? = b[t]? := by
  subst hn
  rw [List.getElem?_append_right (by omega), Nat.add_sub_cancel_left]
theorem four_at (p q r s : Pg) (hp : Fits p) (hq : Fits q) (hr : Fits r) (hs : Fits s) (j : Nat) (hj : j < 4) : ∃ x : Pg, Fits x ∧ ∀ t v, x.vals[t]? = some v → (four p q r s)[j * 34 + t]? = some v := by
  obtain rfl | rfl | rfl | rfl : j = 0 ∨ j = 1 ∨ j = 2 ∨ j = 3 := by omega
  · exact ⟨p, hp, fun t v h => by rw [show 0 * 34 + t = t by omega]; exact app_left _ h⟩
  · exact ⟨q, hq, fun t v h => by rw [show 1 * 34 + t = 34 + t by omega, four, app_right _ (vals_length p)]; exact app_left _ h⟩
  · exact ⟨r, hr, fun t v h => by rw [show 2 * 34 + t = 34 + (34 + t) by omega, four, app_right _ (vals_length p), app_right _ (vals_length q)]; exact app_left _ h⟩
  · exact ⟨s, hs, fun t v h => by rw [show 3 * 34 + t = 34 + (34 + (34 + t)) by omega, four, app_right _ (vals_length p), app_right _ (vals_length q), app_right _ (vals_length r)]; exact h⟩
theorem op_build4 {o : Oper} {a : Act} {w : World} {K : Act → World → Prop} {Q : Exit → Act → World → Prop} {x0 x1 x2 x3 : Operand} (p q r s : Pg) (ho : o.op = .buildSlice 34 4 #[(0, x0), (1, x1), (2, x2), (3, x3)])
    (h0 : a.eval x0 = .agg p.arr) (h1 : a.eval x1 = .agg q.arr) (h2 : a.eval x2 = .agg r.arr) (h3 : a.eval x3 = .agg s.arr)
    (h : ∀ W, RowAt w.heap.size (four p q r s) W → Below w.heap.size w W → K (a.put o.dst (.slice (some ⟨w.heap.size, 0, none⟩) 4 4)) W) : o.wp Tryd.prog a w K Q := by
  have hk := h _ (RowAt.new (four p q r s) w 27) ((Below.refl _ _).alloc (Nat.le_refl _) _)
  have hb := build_four p q r s w
  unfold Oper.wp execOp
  simp only [ho]
  simp only [List.map_toArray, List.map_cons, List.map_nil, h0, h1, h2, h3, hb, Sem.run_bind, Result.andThen_ok, Sem.run_pure]
  exact hk
theorem st_head {x : Nat × List Value} {l : List (Nat × List Value)} {w W : World} (h : St (x :: l) w W) : St [x] w W := h.sub (by simp)
theorem page_eql_self (p : Pg) (W : World) : (binOp .eql 27 (.agg p.arr) (.agg p.arr)).run Tryd.prog W = .ok (.bool true) W := by
  rw [page_eql, sameP_self]
theorem refEncode_b (p : Pg) (t : ByteArray) (n : Int) (ht : encA p = t) (hn : encE p = n) (w : World) (hc : Fits p) :
    Calls Tryd.prog 12 #[.agg p.arr] w fun e w' => e = .returned (.tuple #[.string t, .int .i64 n]) ∧ Below w.heap.size w w' := by
  have := refEncode_any p w hc
  unfold encT at this
  rwa [ht, hn] at this
theorem valid_b (p : Pg) (b : Bool) (h : validB p = b) (w : World) (hc : Fits p) : Calls Tryd.prog 13 #[.agg p.arr] w fun e w' => e = .returned (.bool b) ∧ Below w.heap.size w w' := h ▸ valid_any p w hc
theorem refValid_b (p : Pg) (b : Bool) (h : validB p = b) (w : World) (hc : Fits p) : Calls Tryd.prog 14 #[.agg p.arr] w fun e w' => e = .returned (.bool b) ∧ Below w.heap.size w w' := h ▸ refValid_any p w hc
end Go.Proofs.YtkcgcddpgfcgiaaDoor.hf
