/- Pairs of pages; when a Diff has no error. -/
import Derived.Test.YtkcgcddpgfcgiaaKs
namespace Go.Proofs.Ytkcgcddpgfcgiaa.kt
open Go.ChangeShapes Go.WideShapes Go.ChangeAt Go.RowKit Go.Proofs.Ytkcgcddpgfcgiaa.cx Go.Proofs.Ytkcgcddpgfcgiaa.ra Go.Proofs.Ytkcgcddpgfcgiaa.rc Go.Proofs.Ytkcgcddpgfcgiaa.da Go.Proofs.Ytkcgcddpgfcgiaa.di Go.Proofs.Ytkcgcddpgfcgiaa.ea Go.Proofs.Ytkcgcddpgfcgiaa.eb Go.Proofs.Ytkcgcddpgfcgiaa.ec Go.Proofs.Ytkcgcddpgfcgiaa.ed Go.Proofs.Ytkcgcddpgfcgiaa.fb Go.Proofs.Ytkcgcddpgfcgiaa.ka Go.Proofs.Ytkcgcddpgfcgiaa.kb Go.Proofs.Ytkcgcddpgfcgiaa.kc Go.Proofs.Ytkcgcddpgfcgiaa.kd Go.Proofs.Ytkcgcddpgfcgiaa.ke Go.Proofs.Ytkcgcddpgfcgiaa.kf Go.Proofs.Ytkcgcddpgfcgiaa.kg Go.Proofs.Ytkcgcddpgfcgiaa.ki Go.Proofs.Ytkcgcddpgfcgiaa.kj Go.Proofs.Ytkcgcddpgfcgiaa.kk Go.Proofs.Ytkcgcddpgfcgiaa.km Go.Proofs.Ytkcgcddpgfcgiaa.kn Go.Proofs.Ytkcgcddpgfcgiaa.kp Go.Proofs.Ytkcgcddpgfcgiaa.kq Go.Proofs.Ytkcgcddpgfcgiaa.kr Go.Proofs.Ytkcgcddpgfcgiaa.ks

def pairP (p q : Pg) : List Value := p.vals ++ q.vals
def pairPA (p q : Pg) : Array Value := (pairP p q).toArray
theorem pairP_length (p q : Pg) : (pairP p q).length = 68 := by rw [pairP, List.length_append, vals_length, vals_length]
theorem info_pairP : (Try.prog.info? 49).map (·.size) = some 68 := by kernel_rfl
theorem build_pairP (p q : Pg) (W : World) : (Instr.build 49 #[(0, .agg p.arr), (1, .agg q.arr)]).run Try.prog W = .ok (.agg (pairPA p q)) W := by kernel_rfl
theorem zero_pairP (W : World) : (zeroValue 49).run Try.prog W = .ok (.agg (pairP (newPg 0) (newPg 0)).toArray) W := by kernel_rfl
theorem pairP_one (p q : Pg) : (pairP p q).all (·.oneCell') = true := by rw [pairP, List.all_append, vals_one, vals_one]; rfl
theorem wp_newPairP {ops : Array Oper} {rest : List Oper} {o : Oper} {a : Act} {w : World} {Q : Exit → Act → World → Prop} (ho : o.op = .alloc 49)
    (hgd : Region.wanted o (yielded ops a.tmps) = true) (h : ∀ W, RowAt w.heap.size (pairP (newPg 0) (newPg 0)) W → Below w.heap.size w W → w.heap.size < W.heap.size → wpList Try.prog ops Q rest (a.put o.dst (.pointer (some ⟨w.heap.size, 0, none⟩))) W) : wpList Try.prog ops Q (o :: rest) a w :=
  wp_new (pairP (newPg 0) (newPg 0)) _ zero_pairP ho hgd (h _ (RowAt.new (pairP (newPg 0) (newPg 0)) w _) ((Below.refl _ _).alloc (Nat.le_refl _) _) (by simp))
theorem wp_storePairP {ops : Array Oper} {rest : List Oper} {o : Oper} {a : Act} {w : World} {Q : Exit → Act → World → Prop} {x y : Operand} {b : Nat} {vs : List Value} (p q : Pg) (hr : RowAt b vs w) (hl : vs.length = 68) (ho : o.op = .store 49 x y)
    (hx : a.eval x = .pointer (some ⟨b, 0, none⟩)) (hy : a.eval y = .agg (pairPA p q)) (hgd : Region.wanted o (yielded ops a.tmps) = true) (h : ∀ W, RowAt b (pairP p q) W → Stored b w W → wpList Try.prog ops Q rest (a.put o.dst undef) W) : wpList Try.prog ops Q (o :: rest) a w := by
  have hs := RowAt.setCells (pairP p q) 0 hr (by rw [pairP_length, hl]; exact Nat.le_refl _)
  rw [splice_all _ _ (by rw [pairP_length, hl])] at hs
  exact wp_store (pairP p q) _ hr (by rw [pairP_length]; exact info_pairP) (pairP_one p q) (by rw [pairP_length, hl]; exact Nat.le_refl _) ho hx hy hgd (h _ hs ⟨_, rfl⟩)
theorem wp_loadPairPAt {ops : Array Oper} {rest : List Oper} {o : Oper} {a : Act} {w : World} {Q : Exit → Act → World → Prop} {x : Operand} {b : Nat} {vs : List Value} (p q : Pg) (f : Nat) (hr : RowAt b vs w) (hp : ∀ j v, (pairP p q)[j]? = some v → vs[f + j]? = some v) (ho : o.op = .load 49 x)
    (hx : a.eval x = .pointer (some ⟨b, f, none⟩)) (hgd : Region.wanted o (yielded ops a.tmps) = true) (hn : wpList Try.prog ops Q rest (a.put o.dst (.agg (pairPA p q))) w) : wpList Try.prog ops Q (o :: rest) a w :=
  wp_load (pairP p q) _ _ hr Try.underlying49 rfl (by rw [pairP_length]; exact info_pairP) hp ho hx hgd hn
theorem pairP0 {p q : Pg} {j : Nat} {v : Value} (h : p.vals[j]? = some v) : (pairP p q)[0 + j]? = some v := by rw [Nat.zero_add]; exact app_left _ h
theorem pairP1 {p q : Pg} {j : Nat} {v : Value} (h : q.vals[j]? = some v) : (pairP p q)[34 + j]? = some v := by rw [pairP, app_right _ (vals_length p)]; exact h
theorem yieldsIf_pairP {ops : Array Oper} {S : World → Prop} {op : Oper} {a : Act} {x y : Operand} (p q : Pg) (hw : Region.wanted op (yielded ops a.tmps) = true) (ho : op.op = .build 49 #[(0, x), (1, y)])
    (hx : a.eval x = .agg p.arr) (hy : a.eval y = .agg q.arr) : YieldsIf Try.prog ops S op (.agg (pairPA p q)) a :=
  .inl ⟨hw, fun w _ => by
    have hb := build_pairP p q w
    unfold execOp
    simp only [ho, List.map_toArray, List.map_cons, List.map_nil, hx, hy, hb, Sem.run_bind, Result.andThen_ok, Sem.run_pure]⟩
def quadP (a b c d e f g h : Pg) : List Value := pairP a b ++ (pairP c d ++ (pairP e f ++ pairP g h))
theorem build_quadP (a b c d e f g h : Pg) (W : World) : (Instr.buildSlice 50 4 #[(0, .agg (pairPA a b)), (1, .agg (pairPA c d)), (2, .agg (pairPA e f)), (3, .agg (pairPA g h))]).run Try.prog W = .ok (.slice (some ⟨W.heap.size, 0, none⟩) 4 4) (W.alloc (.cells (quadP a b c d e f g h).toArray 49)) := by
  kernel_rfl
theorem op_quadP {o : Oper} {a : Act} {w : World} {K : Act → World → Prop} {Q : Exit → Act → World → Prop} {x0 x1 x2 x3 : Operand} (c0 c1 c2 c3 c4 c5 c6 c7 : Pg) (ho : o.op = .buildSlice 50 4 #[(0, x0), (1, x1), (2, x2), (3, x3)])
    (h0 : a.eval x0 = .agg (pairPA c0 c1)) (h1 : a.eval x1 = .agg (pairPA c2 c3)) (h2 : a.eval x2 = .agg (pairPA c4 c5)) (h3 : a.eval x3 = .agg (pairPA c6 c7))
    (h : ∀ W, RowAt w.heap.size (quadP c0 c1 c2 c3 c4 c5 c6 c7) W → Below w.heap.size w W → K (a.put o.dst (.slice (some ⟨w.heap.size, 0, none⟩) 4 4)) W) : o.wp Try.prog a w K Q := by
  have hk := h _ (RowAt.new (quadP c0 c1 c2 c3 c4 c5 c6 c7) w 49) ((Below.refl _ _).alloc (Nat.le_refl _) _)
  have hb := build_quadP c0 c1 c2 c3 c4 c5 c6 c7 w
  unfold Oper.wp execOp
  simp only [ho]
  simp only [List.map_toArray, List.map_cons, List.map_nil, h0, h1, h2, h3, hb, Sem.run_bind, Result.andThen_ok, Sem.run_pure]
  exact hk
theorem quadP_at (a b c d e f g h : Pg) (ha : Fits a) (hb : Fits b) (hc : Fits c) (hd : Fits d) (he : Fits e) (hf : Fits f) (hg : Fits g) (hh : Fits h) (j : Nat) (hj : j < 4) :
    ∃ z0 z1 : Pg, Fits z0 ∧ Fits z1 ∧ ∀ t v, (pairP z0 z1)[t]? = some v → (quadP a b c d e f g h)[j * 68 + t]? = some v := by
  obtain rfl | rfl | rfl | rfl : j = 0 ∨ j = 1 ∨ j = 2 ∨ j = 3 := by omega
  · exact ⟨a, b, ha, hb, fun t v h => by rw [show 0 * 68 + t = t by omega]; exact app_left _ h⟩
  · exact ⟨c, d, hc, hd, fun t v h => by rw [show 1 * 68 + t = 68 + t by omega, quadP, app_right _ (pairP_length a b)]; exact app_left _ h⟩
  · exact ⟨e, f, he, hf, fun t v h => by rw [show 2 * 68 + t = 68 + (68 + t) by omega, quadP, app_right _ (pairP_length a b), app_right _ (pairP_length c d)]; exact app_left _ h⟩
  · exact ⟨g, _, hg, hh, fun t v h => by rw [show 3 * 68 + t = 68 + (68 + (68 + t)) by omega, quadP, app_right _ (pairP_length a b), app_right _ (pairP_length c d), app_right _ (pairP_length e f)]; exact h⟩
theorem fits_cells {p : Pg} (h : cellsB p = true) : Fits p := fun i hi => by
  have := cellB_at h hi
  unfold cellB at this
  simp only [decide_eq_true_eq] at this
  omega
theorem diffE_zero {p q : Pg} (h1 : p.id = 2) (h2 : q.id = 2) (h3 : cellsB p = true) (h4 : cellsB q = true) : diffE p q = 0 := by
  have e1 : (p.id != q.id) = false := by rw [h1, h2]; rfl
  have e2 : idB p.id = true := by rw [h1]; decide
  have e3 : vcB p = true := vcB_iff.2 fun i hi => cellB_at h3 hi
  have e4 : vcB q = true := vcB_iff.2 fun i hi => cellB_at h4 hi
  unfold diffE
  rw [e1, e2, e3, e4]; rfl
end Go.Proofs.Ytkcgcddpgfcgiaa.kt
