/- Pairs of changes, rows of pairs and of pages; loads at a place. -/
import Derived.Test.YtkcgcddpgfcgiaaKj
namespace Go.Proofs.Ytkcgcddpgfcgiaa.kk
open Go.ChangeShapes Go.WideShapes Go.ChangeAt Go.RowKit Go.Proofs.Ytkcgcddpgfcgiaa.cx Go.Proofs.Ytkcgcddpgfcgiaa.ra Go.Proofs.Ytkcgcddpgfcgiaa.rc Go.Proofs.Ytkcgcddpgfcgiaa.da Go.Proofs.Ytkcgcddpgfcgiaa.di Go.Proofs.Ytkcgcddpgfcgiaa.ea Go.Proofs.Ytkcgcddpgfcgiaa.eb Go.Proofs.Ytkcgcddpgfcgiaa.ec Go.Proofs.Ytkcgcddpgfcgiaa.ed Go.Proofs.Ytkcgcddpgfcgiaa.fb Go.Proofs.Ytkcgcddpgfcgiaa.ka Go.Proofs.Ytkcgcddpgfcgiaa.kb Go.Proofs.Ytkcgcddpgfcgiaa.kc Go.Proofs.Ytkcgcddpgfcgiaa.kd Go.Proofs.Ytkcgcddpgfcgiaa.ke Go.Proofs.Ytkcgcddpgfcgiaa.kf Go.Proofs.Ytkcgcddpgfcgiaa.kg Go.Proofs.Ytkcgcddpgfcgiaa.ki Go.Proofs.Ytkcgcddpgfcgiaa.kj

def pairL (c d : Chg) : List Value := c.vals ++ d.vals
def pairA (c d : Chg) : Array Value := (pairL c d).toArray
theorem pair_length (c d : Chg) : (pairL c d).length = 12 := rfl
theorem info_pair : (Try.prog.info? 36).map (·.size) = some 12 := by kernel_rfl
theorem build_pair (c d : Chg) (W : World) : (Instr.build 36 #[(0, .agg c.arr), (1, .agg d.arr)]).run Try.prog W = .ok (.agg (pairA c d)) W := by kernel_rfl
theorem zero_pair (W : World) : (zeroValue 36).run Try.prog W = .ok (.agg (pairL chg0 chg0).toArray) W := by kernel_rfl
theorem pair_one (c d : Chg) : (pairL c d).all (·.oneCell') = true := rfl
theorem wp_newPairW {ops : Array Oper} {rest : List Oper} {o : Oper} {a : Act} {w : World} {Q : Exit → Act → World → Prop} (ho : o.op = .alloc 36)
    (hgd : Region.wanted o (yielded ops a.tmps) = true) (h : ∀ W, RowAt w.heap.size (pairL chg0 chg0) W → Below w.heap.size w W → w.heap.size < W.heap.size → wpList Try.prog ops Q rest (a.put o.dst (.pointer (some ⟨w.heap.size, 0, none⟩))) W) : wpList Try.prog ops Q (o :: rest) a w :=
  wp_new (pairL chg0 chg0) _ zero_pair ho hgd (h _ (RowAt.new (pairL chg0 chg0) w _) ((Below.refl _ _).alloc (Nat.le_refl _) _) (by simp))
theorem wp_storePairW {ops : Array Oper} {rest : List Oper} {o : Oper} {a : Act} {w : World} {Q : Exit → Act → World → Prop} {x y : Operand} {b : Nat} {vs : List Value} (c d : Chg) (hr : RowAt b vs w) (hl : vs.length = 12) (ho : o.op = .store 36 x y)
    (hx : a.eval x = .pointer (some ⟨b, 0, none⟩)) (hy : a.eval y = .agg (pairA c d)) (hgd : Region.wanted o (yielded ops a.tmps) = true) (h : ∀ W, RowAt b (pairL c d) W → Stored b w W → wpList Try.prog ops Q rest (a.put o.dst undef) W) : wpList Try.prog ops Q (o :: rest) a w := by
  have hs := RowAt.setCells (pairL c d) 0 hr (by rw [pair_length, hl]; exact Nat.le_refl _)
  rw [splice_all _ _ (by rw [pair_length, hl])] at hs
  exact wp_store (pairL c d) _ hr info_pair (pair_one c d) (by rw [pair_length, hl]; exact Nat.le_refl _) ho hx hy hgd (h _ hs ⟨_, rfl⟩)
theorem wp_loadPairAt {ops : Array Oper} {rest : List Oper} {o : Oper} {a : Act} {w : World} {Q : Exit → Act → World → Prop} {x : Operand} {b : Nat} {vs : List Value} (c d : Chg) (f : Nat) (hr : RowAt b vs w) (hp : ∀ j v, (pairL c d)[j]? = some v → vs[f + j]? = some v) (ho : o.op = .load 36 x)
    (hx : a.eval x = .pointer (some ⟨b, f, none⟩)) (hgd : Region.wanted o (yielded ops a.tmps) = true) (hn : wpList Try.prog ops Q rest (a.put o.dst (.agg (pairA c d))) w) : wpList Try.prog ops Q (o :: rest) a w :=
  wp_load (pairL c d) _ _ hr Try.underlying36 rfl info_pair hp ho hx hgd hn
theorem wp_loadChgAt {ops : Array Oper} {rest : List Oper} {o : Oper} {a : Act} {w : World} {Q : Exit → Act → World → Prop} {x : Operand} {b : Nat} {vs : List Value} (c : Chg) (f : Nat) (hr : RowAt b vs w) (hp : ∀ j v, c.vals[j]? = some v → vs[f + j]? = some v) (ho : o.op = .load 29 x)
    (hx : a.eval x = .pointer (some ⟨b, f, none⟩)) (hgd : Region.wanted o (yielded ops a.tmps) = true) (hn : wpList Try.prog ops Q rest (a.put o.dst (.agg c.arr)) w) : wpList Try.prog ops Q (o :: rest) a w :=
  wp_load c.vals _ _ hr Try.underlying29 rfl info_change hp ho hx hgd hn
theorem wp_loadPageAt {ops : Array Oper} {rest : List Oper} {o : Oper} {a : Act} {w : World} {Q : Exit → Act → World → Prop} {x : Operand} {b : Nat} {vs : List Value} (p : Pg) (f : Nat) (hr : RowAt b vs w) (hp : ∀ j v, p.vals[j]? = some v → vs[f + j]? = some v) (ho : o.op = .load 27 x)
    (hx : a.eval x = .pointer (some ⟨b, f, none⟩)) (hgd : Region.wanted o (yielded ops a.tmps) = true) (hn : wpList Try.prog ops Q rest (a.put o.dst (.agg p.arr)) w) : wpList Try.prog ops Q (o :: rest) a w :=
  wp_load p.vals _ _ hr Try.underlying27 rfl (by rw [vals_length]; exact info_page) hp ho hx hgd hn
theorem app_left {a : List Value} (b : List Value) {t : Nat} {v : Value} (h : a[t]? = some v) : (a ++ b)[t]? = some v := by
  rw [List.getElem?_append_left]
  · exact h
  · rcases Nat.lt_or_ge t a.length with h1 | h1
    · exact h1
    · rw [List.getElem?_eq_none h1] at h; cases h
theorem app_right {a : List Value} (b : List Value) {n t : Nat} (hn : a.length = n) : (a ++ b)[n + t]? = b[t]? := by
  subst hn
  rw [List.getElem?_append_right (by omega), Nat.add_sub_cancel_left]
theorem pair0 {c d : Chg} {j : Nat} {v : Value} (h : c.vals[j]? = some v) : (pairL c d)[0 + j]? = some v := by rw [Nat.zero_add]; exact app_left _ h
theorem pair1 {c d : Chg} {j : Nat} {v : Value} (h : d.vals[j]? = some v) : (pairL c d)[6 + j]? = some v := by rw [pairL, app_right _ (cvals_length c)]; exact h
theorem pairC {c d : Chg} {j : Nat} {v : Value} (h : c.after.vals[j]? = some v) : (pairL c d)[4 + j]? = some v := by
  match j, h with
  | 0, h => exact h
  | 1, h => exact h
def quad (a b c d e f g h : Chg) : List Value := pairL a b ++ (pairL c d ++ (pairL e f ++ pairL g h))
theorem build_quad (a b c d e f g h : Chg) (W : World) : (Instr.buildSlice 38 4 #[(0, .agg (pairA a b)), (1, .agg (pairA c d)), (2, .agg (pairA e f)), (3, .agg (pairA g h))]).run Try.prog W = .ok (.slice (some ⟨W.heap.size, 0, none⟩) 4 4) (W.alloc (.cells (quad a b c d e f g h).toArray 36)) := by
  kernel_rfl
theorem op_quad {o : Oper} {a : Act} {w : World} {K : Act → World → Prop} {Q : Exit → Act → World → Prop} {x0 x1 x2 x3 : Operand} (c0 c1 c2 c3 c4 c5 c6 c7 : Chg) (ho : o.op = .buildSlice 38 4 #[(0, x0), (1, x1), (2, x2), (3, x3)])
    (h0 : a.eval x0 = .agg (pairA c0 c1)) (h1 : a.eval x1 = .agg (pairA c2 c3)) (h2 : a.eval x2 = .agg (pairA c4 c5)) (h3 : a.eval x3 = .agg (pairA c6 c7))
    (h : ∀ W, RowAt w.heap.size (quad c0 c1 c2 c3 c4 c5 c6 c7) W → Below w.heap.size w W → K (a.put o.dst (.slice (some ⟨w.heap.size, 0, none⟩) 4 4)) W) : o.wp Try.prog a w K Q := by
  have hk := h _ (RowAt.new (quad c0 c1 c2 c3 c4 c5 c6 c7) w 36) ((Below.refl _ _).alloc (Nat.le_refl _) _)
  have hb := build_quad c0 c1 c2 c3 c4 c5 c6 c7 w
  unfold Oper.wp execOp
  simp only [ho]
  simp only [List.map_toArray, List.map_cons, List.map_nil, h0, h1, h2, h3, hb, Sem.run_bind, Result.andThen_ok, Sem.run_pure]
  exact hk
theorem quad_at (a b c d e f g h : Chg) (ha : FitsH a) (hb : FitsH b) (hc : FitsH c) (hd : FitsH d) (he : FitsH e) (hf : FitsH f) (hg : FitsH g) (hh : FitsH h) (j : Nat) (hj : j < 4) :
    ∃ z0 z1 : Chg, FitsH z0 ∧ FitsH z1 ∧ ∀ t v, (pairL z0 z1)[t]? = some v → (quad a b c d e f g h)[j * 12 + t]? = some v := by
  obtain rfl | rfl | rfl | rfl : j = 0 ∨ j = 1 ∨ j = 2 ∨ j = 3 := by omega
  · exact ⟨a, b, ha, hb, fun t v h => by rw [show 0 * 12 + t = t by omega]; exact app_left _ h⟩
  · exact ⟨c, d, hc, hd, fun t v h => by rw [show 1 * 12 + t = 12 + t by omega, quad, app_right _ (pair_length a b)]; exact app_left _ h⟩
  · exact ⟨e, f, he, hf, fun t v h => by rw [show 2 * 12 + t = 12 + (12 + t) by omega, quad, app_right _ (pair_length a b), app_right _ (pair_length c d)]; exact app_left _ h⟩
  · exact ⟨g, _, hg, hh, fun t v h => by rw [show 3 * 12 + t = 12 + (12 + (12 + t)) by omega, quad, app_right _ (pair_length a b), app_right _ (pair_length c d), app_right _ (pair_length e f)]; exact h⟩
def three (p q r : Pg) : List Value := p.vals ++ (q.vals ++ r.vals)
theorem build_three (p q r : Pg) (W : World) : (Instr.buildSlice 45 3 #[(0, .agg p.arr), (1, .agg q.arr), (2, .agg r.arr)]).run Try.prog W = .ok (.slice (some ⟨W.heap.size, 0, none⟩) 3 3) (W.alloc (.cells (three p q r).toArray 27)) := by
  kernel_rfl
theorem op_three {o : Oper} {a : Act} {w : World} {K : Act → World → Prop} {Q : Exit → Act → World → Prop} {x0 x1 x2 : Operand} (p q r : Pg) (ho : o.op = .buildSlice 45 3 #[(0, x0), (1, x1), (2, x2)])
    (h0 : a.eval x0 = .agg p.arr) (h1 : a.eval x1 = .agg q.arr) (h2 : a.eval x2 = .agg r.arr)
    (h : ∀ W, RowAt w.heap.size (three p q r) W → Below w.heap.size w W → K (a.put o.dst (.slice (some ⟨w.heap.size, 0, none⟩) 3 3)) W) : o.wp Try.prog a w K Q := by
  have hk := h _ (RowAt.new (three p q r) w 27) ((Below.refl _ _).alloc (Nat.le_refl _) _)
  have hb := build_three p q r w
  unfold Oper.wp execOp
  simp only [ho]
  simp only [List.map_toArray, List.map_cons, List.map_nil, h0, h1, h2, hb, Sem.run_bind, Result.andThen_ok, Sem.run_pure]
  exact hk
theorem three_at (p q r : Pg) (j : Nat) (hj : j < 3) : ∃ x : Pg, ∀ t v, x.vals[t]? = some v → (three p q r)[j * 34 + t]? = some v := by
  obtain rfl | rfl | rfl : j = 0 ∨ j = 1 ∨ j = 2 := by omega
  · exact ⟨p, fun t v h => by rw [show 0 * 34 + t = t by omega]; exact app_left _ h⟩
  · exact ⟨q, fun t v h => by rw [show 1 * 34 + t = 34 + t by omega, three, app_right _ (vals_length p)]; exact app_left _ h⟩
  · exact ⟨r, fun t v h => by rw [show 2 * 34 + t = 34 + (34 + t) by omega, three, app_right _ (vals_length p), app_right _ (vals_length q)]; exact h⟩
theorem page_neq_self (p : Pg) (W : World) : (binOp .neq 27 (.agg p.arr) (.agg p.arr)).run Try.prog W = .ok (.bool false) W := by
  rw [page_neq, sameP_self]; rfl
theorem apply_b (p : Pg) (c : Chg) (q : Pg) (n : Int) (hq : applyP p c = q) (hn : applyE p c = n) (w : World) (hc : FitsH c) : Calls Try.prog 22 #[.agg p.arr, .agg c.arr] w fun e w' => e = .returned (.tuple #[.agg q.arr, .int .i64 n]) ∧ Below w.heap.size w w' := by
  have := apply_any p c w hc
  unfold applyT at this
  rwa [hq, hn] at this
theorem refApply_b (p : Pg) (c : Chg) (q : Pg) (n : Int) (hq : applyP p c = q) (hn : applyE p c = n) (w : World) (hc : FitsH c) : Calls Try.prog 23 #[.agg p.arr, .agg c.arr] w fun e w' => e = .returned (.tuple #[.agg q.arr, .int .i64 n]) ∧ Below w.heap.size w w' := by
  have := refApply_any p c w hc
  unfold applyT at this
  rwa [hq, hn] at this
theorem join_b (a b c : Chg) (n : Int) (hq : joinP a b = c) (hn : joinE a b = n) (w : World) (ha : FitsH a) (hb : FitsH b) : Calls Try.prog 13 #[.agg a.arr, .agg b.arr] w fun e w' => e = .returned (.tuple #[.agg c.arr, .int .i64 n]) ∧ Below w.heap.size w w' := by
  have := join_any a b w ha hb
  unfold joinT at this
  rwa [hq, hn] at this
theorem refJoin_b (a b c : Chg) (n : Int) (hq : joinP a b = c) (hn : joinE a b = n) (w : World) (ha : FitsH a) (hb : FitsH b) : Calls Try.prog 14 #[.agg a.arr, .agg b.arr] w fun e w' => e = .returned (.tuple #[.agg c.arr, .int .i64 n]) ∧ Below w.heap.size w w' := by
  have := refJoin_any a b w ha hb
  unfold joinT at this
  rwa [hq, hn] at this
theorem _root_.Go.Proofs.Ytkcgcddpgfcgiaa.ki.St.grown {l : List (Nat × List Value)} {w W W' : World} {p : Nat} (h : St l w W) (hg : W.grownBy W' (some p)) (hp : w.heap.size ≤ p) (hne : ∀ x ∈ l, p ≠ x.1) : St l w W' :=
  ⟨fun x hx => RowAt.grown (h.1 x hx) hg (fun e => hne x hx (by injection e)), h.2.grown hg h.2.size (fun k e => by injection e with e; omega)⟩
theorem _root_.Go.Proofs.Ytkcgcddpgfcgiaa.ki.St.first {l : List (Nat × List Value)} {w W W' : World} {vs : List Value} (h : St l w W) (hb : Below W.heap.size W W') (hP : RowAt W.heap.size vs W') : St ((W.heap.size, vs) :: l) w W' := (h.keep hb).add hP
theorem _root_.Go.Proofs.Ytkcgcddpgfcgiaa.ki.St.set {l : List (Nat × List Value)} {w W : World} (h : St l w W) {b : Nat} (hne : ∀ x ∈ l, b ≠ x.1) (hB : w.heap.size ≤ b) (o : Nat) (v : Value) : St l w (W.setCell ⟨b, o, none⟩ v) :=
  ⟨fun x hx => RowAt.setOther (h.1 x hx) (by exact hne x hx) v, h.2.setCell (by exact hB) v⟩
theorem yieldsIf_pair {ops : Array Oper} {S : World → Prop} {op : Oper} {a : Act} {x y : Operand} (c d : Chg) (hw : Region.wanted op (yielded ops a.tmps) = true) (ho : op.op = .build 36 #[(0, x), (1, y)])
    (hx : a.eval x = .agg c.arr) (hy : a.eval y = .agg d.arr) : YieldsIf Try.prog ops S op (.agg (pairA c d)) a :=
  .inl ⟨hw, fun w _ => by
    have hb := build_pair c d w
    unfold execOp
    simp only [ho, List.map_toArray, List.map_cons, List.map_nil, hx, hy, hb, Sem.run_bind, Result.andThen_ok, Sem.run_pure]⟩
theorem validCell_is (c : CellM) (b : Bool) (h : cellB c = b) (w : World) (hc : c.data.size ≤ 9223372036854775807) : Calls Try.prog 19 #[.agg #[.bool c.set, .string c.data]] w fun e w' => e = .returned (.bool b) ∧ Below w.heap.size w w' := validCell_b c b h w hc
end Go.Proofs.Ytkcgcddpgfcgiaa.kk
