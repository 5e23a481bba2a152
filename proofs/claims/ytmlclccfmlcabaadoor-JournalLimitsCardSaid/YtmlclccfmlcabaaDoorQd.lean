/- Rows of entries: what a slice of them is, a copy of them all, one more, a part. -/
import Derived.Test.YtmlclccfmlcabaaDoorOs
import Derived.Deep.AppendLies
import Derived.Laws.AppendOwn
namespace Go.Proofs.YtmlclccfmlcabaaDoor.qd
open Go.ChangeShapes Go.WideShapes Go.ChangeAt Go.RowKit Go.Proofs.YtmlclccfmlcabaaDoor.cx Go.Proofs.YtmlclccfmlcabaaDoor.ra Go.Proofs.YtmlclccfmlcabaaDoor.rb Go.Proofs.YtmlclccfmlcabaaDoor.rc Go.Proofs.YtmlclccfmlcabaaDoor.da Go.Proofs.YtmlclccfmlcabaaDoor.ea Go.Proofs.YtmlclccfmlcabaaDoor.eb Go.Proofs.YtmlclccfmlcabaaDoor.ed Go.Proofs.YtmlclccfmlcabaaDoor.fb Go.Proofs.YtmlclccfmlcabaaDoor.ka Go.Proofs.YtmlclccfmlcabaaDoor.kb Go.Proofs.YtmlclccfmlcabaaDoor.kg Go.Proofs.YtmlclccfmlcabaaDoor.kj Go.Proofs.YtmlclccfmlcabaaDoor.oa Go.Proofs.YtmlclccfmlcabaaDoor.os
set_option linter.unusedSimpArgs false

theorem setCells_heap (b g : Nat) (hne : b ≠ g) : ∀ (us : List Value) (o : Nat) (w : World), (w.setCells b o us).heap[g]? = w.heap[g]?
  | [], _, _ => rfl
  | u :: r, o, w => by
    rw [World.setCells, setCells_heap b g hne r, Below.heap_setCell _ _ _ _ (by exact hne.symm)]
theorem StoredAt.heap {b : Nat} {w W : World} (h : StoredAt b w W) (g : Nat) (hne : b ≠ g) : W.heap[g]? = w.heap[g]? := by
  obtain ⟨f, us, rfl⟩ := h
  exact setCells_heap b g hne us f w
section
variable {w w' : World} {base n size : Nat} {e : TypeId} {v : Value} {xs : List Value}
theorem own_heap (h : w.ownsRow base e size v n xs) (hb : ∀ g, v.ownBlock = some g → w'.heap[g]? = w.heap[g]?) : w'.ownsRow base e size v n xs := by
  refine ⟨h.1, ?_⟩
  rcases h.2 with h2 | ⟨g, cap, cur, rfl, h3, h4, h5⟩
  · exact .inl h2
  · exact .inr ⟨g, cap, cur, rfl, h3, by rw [hb g rfl]; exact h4, h5⟩
theorem own_keep (h : w.ownsRow base e size v n xs) (hb : Below w.heap.size w w') : w'.ownsRow base e size v n xs := own_heap h fun g hg => hb.block g (h.lt g hg).2
theorem own_grown {row : Option Nat} (h : w.ownsRow base e size v n xs) (hb : w.grownBy w' row) (hp : ∀ g, v.ownBlock = some g → row ≠ some g) : w'.ownsRow base e size v n xs :=
  own_heap h fun g hg => hb.block g (h.lt g hg).2 (fun e => hp g hg e.symm)
theorem own_storedNe {b : Nat} (h : w.ownsRow base e size v n xs) (hs : StoredAt b w w') (hne : ∀ g, v.ownBlock = some g → g ≠ b) : w'.ownsRow base e size v n xs := own_heap h fun g hg => StoredAt.heap hs g fun e => hne g hg e.symm
theorem own_less (h : w.ownsRow base e size v n xs) : ∀ g, v.ownBlock = some g → g ≠ w.heap.size := fun g hg => Nat.ne_of_lt (h.lt g hg).2
theorem own_base {base' : Nat} (h : w.ownsRow base e size v n xs) (hb : base' ≤ base) : w.ownsRow base' e size v n xs := by
  refine ⟨h.1, ?_⟩
  rcases h.2 with h2 | ⟨g, cap, cur, rfl, h3, h4⟩
  · exact .inl h2
  · exact .inr ⟨g, cap, cur, rfl, Nat.le_trans hb h3, h4⟩
end
theorem grownBy_none_below {w w' : World} (h : w.grownBy w' none) : Below w.heap.size w w' := ⟨h.os, h.tape, h.output, h.size, fun k hk => h.block k hk (by simp)⟩
/-- A slice that can be read: its elements' cells lie in old memory. -/
def Sl (v : Value) (k n : Nat) (xs : List Value) (w : World) : Prop :=
  n ≤ maxLen ∧ xs.length = n * k ∧ ((v = .slice none 0 0 ∧ n = 0) ∨ ∃ b off cap, v = .slice (some ⟨b, off, none⟩) n cap ∧ n ≤ cap ∧ b < w.heap.size ∧ ∀ i u, xs[i]? = some u → w.cell? ⟨b, off + i, none⟩ = some u)
theorem Sl.of_own {w : World} {base n k : Nat} {e : TypeId} {v : Value} {xs : List Value} (h : w.ownsRow base e k v n xs) : Sl v k n xs w := by
  refine ⟨?_, h.1, ?_⟩
  · rcases h.2 with ⟨_, rfl⟩ | ⟨g, cap, cur, _, _, _, h1, h2, _⟩
    · exact Nat.zero_le _
    · exact Nat.le_trans h1 h2
  · have h0 := h
    rcases h.2 with h2 | ⟨g, cap, cur, rfl, _, hg, h1, _⟩
    · exact .inl h2
    · refine .inr ⟨g, 0, cap, rfl, h1, (h0.lt g rfl).2, fun i u hu => ?_⟩
      have hi : i < n * k := by
        rcases Nat.lt_or_ge i xs.length with h3 | h3
        · rw [h0.1] at h3; exact h3
        · rw [List.getElem?_eq_none h3] at hu; cases hu
      rw [Nat.zero_add, h0.cellAt i hi]
      exact hu
theorem Sl.keep {v : Value} {k n : Nat} {xs : List Value} {w w' : World} (h : Sl v k n xs w) (hb : Below w.heap.size w w') : Sl v k n xs w' := by
  refine ⟨h.1, h.2.1, ?_⟩
  rcases h.2.2 with h2 | ⟨b, off, cap, rfl, h3, h4, h5⟩
  · exact .inl h2
  · exact .inr ⟨b, off, cap, rfl, h3, Nat.lt_of_lt_of_le h4 hb.size, fun i u hu => (hb.cell (p := ⟨b, off + i, none⟩) h4).trans (h5 i u hu)⟩
theorem Sl.drew {v : Value} {k n : Nat} {xs : List Value} {w : World} (h : Sl v k n xs w) : Sl v k n xs w.drew := h.keep (Below.refl _ _).drew
theorem Sl.nil (k : Nat) (w : World) : Sl (.slice none 0 0) k 0 [] w := ⟨Nat.zero_le _, by simp, .inl ⟨rfl, rfl⟩⟩
theorem Sl.form {v : Value} {k n : Nat} {xs : List Value} {w : World} (h : Sl v k n xs w) : ∃ so cap, v = .slice so n cap ∧ n ≤ cap := by
  rcases h.2.2 with ⟨rfl, rfl⟩ | ⟨b, off, cap, rfl, h3, _⟩
  · exact ⟨none, 0, rfl, Nat.le_refl _⟩
  · exact ⟨_, cap, rfl, h3⟩
def entL (l : List Ent) : List Value := l.flatMap Ent.vals
theorem entL_length : ∀ l : List Ent, (entL l).length = l.length * 13
  | [] => rfl
  | c :: r => by
    have h := entL_length r
    show (c.vals ++ entL r).length = (r.length + 1) * 13
    rw [List.length_append, evals_length, h]
    omega
theorem entL_append (a b : List Ent) : entL (a ++ b) = entL a ++ entL b := List.flatMap_append
theorem app_left {a : List Value} (b : List Value) {t : Nat} {v : Value} (h : a[t]? = some v) : (a ++ b)[t]? = some v := by
  rw [List.getElem?_append_left]
  · exact h
  · rcases Nat.lt_or_ge t a.length with h1 | h1
    · exact h1
    · rw [List.getElem?_eq_none h1] at h; cases h
theorem app_right {a : List Value} (b : List Value) {n t : Nat} (hn : a.length = n) : (a ++ b)[n + t]? = b[t]? := by
  subst hn
  rw [List.getElem?_append_right (by omega), Nat.add_sub_cancel_left]
theorem entL_at : ∀ (cs : List Ent) (j : Nat) (c : Ent) (t : Nat) (v : Value), cs[j]? = some c → c.vals[t]? = some v → (entL cs)[j * 13 + t]? = some v
  | [], j, c, t, v, h, _ => by simp at h
  | d :: r, 0, c, t, v, h, hv => by
    obtain rfl : d = c := by simpa using h
    show (d.vals ++ entL r)[0 * 13 + t]? = some v
    rw [show 0 * 13 + t = t by omega]
    exact app_left _ hv
  | d :: r, j + 1, c, t, v, h, hv => by
    show (d.vals ++ entL r)[(j + 1) * 13 + t]? = some v
    rw [show (j + 1) * 13 + t = 13 + (j * 13 + t) by omega, app_right _ (evals_length d)]
    exact entL_at r j c t v (by simpa using h) hv
theorem entL_one (l : List Ent) : ∀ u ∈ entL l, u.oneCell' = true := fun u hu => by
  obtain ⟨x, _, hx⟩ := List.mem_flatMap.1 hu
  exact List.all_eq_true.1 (evals_one x) u hx
theorem entL_take : ∀ (l : List Ent) (i : Nat), (entL l).take (i * 13) = entL (l.take i)
  | [], i => by simp [entL]
  | c :: r, 0 => by simp [entL]
  | c :: r, i + 1 => by
    show (c.vals ++ entL r).take ((i + 1) * 13) = c.vals ++ entL (r.take i)
    rw [show (i + 1) * 13 = c.vals.length + i * 13 by rw [evals_length]; omega, List.take_length_add_append, entL_take r i]
theorem entL_set (l : List Ent) (i : Nat) (x : Ent) (hi : i < l.length) : splice (entL l) (i * 13) x.vals = entL (l.set i x) := by
  have hl := entL_length l
  apply List.ext_getElem?
  intro k
  rcases Nat.lt_or_ge k (l.length * 13) with hk | hk
  · obtain ⟨q, r, hr, rfl⟩ : ∃ q r, r < 13 ∧ k = q * 13 + r := ⟨k / 13, k % 13, Nat.mod_lt _ (by decide), by omega⟩
    have h6 : q < l.length := by omega
    by_cases he : q = i
    · subst he
      have hv : x.vals[r]? = some (x.vals[r]'(by rw [evals_length]; exact hr)) := List.getElem?_eq_getElem _
      rw [splice_get_in x.vals (entL l) (q * 13) r (by rw [evals_length]; exact hr) (by rw [evals_length]; omega), hv]
      exact (entL_at _ _ _ _ _ (List.getElem?_set_self hi) hv).symm
    · have hc : (l.set i x)[q]? = some l[q] := by rw [List.getElem?_set_ne (Ne.symm he)]; exact List.getElem?_eq_getElem h6
      have hv : (l[q]).vals[r]? = some ((l[q]).vals[r]'(by rw [evals_length]; exact hr)) := List.getElem?_eq_getElem _
      rw [splice_get_out _ _ _ _ (by rw [evals_length]; omega), entL_at _ _ _ _ _ (List.getElem?_eq_getElem h6) hv, entL_at _ _ _ _ _ hc hv]
  · rw [List.getElem?_eq_none (by rw [splice_length]; omega), List.getElem?_eq_none (by rw [entL_length, List.length_set]; omega)]
theorem entL_drop : ∀ (l : List Ent) (i : Nat), (entL l).drop (i * 13) = entL (l.drop i)
  | [], i => by simp [entL]
  | c :: r, 0 => by simp [entL]
  | c :: r, i + 1 => by
    show (c.vals ++ entL r).drop ((i + 1) * 13) = entL (r.drop i)
    rw [show (i + 1) * 13 = c.vals.length + i * 13 by rw [evals_length]; omega, List.drop_length_add_append, entL_drop r i]
theorem info_entA : ∃ i, Tryd.prog.info? 31 = some i ∧ i.zero = some (.agg ent0.vals.toArray) ∧ i.size = 13 ∧ i.bytes = 128 := by
  have h : (Tryd.prog.info? 31).map (fun i => (i.zero, i.size, i.bytes)) = some (some (.agg ent0.vals.toArray), 13, 128) := by kernel_rfl
  rcases hh : Tryd.prog.info? 31 with _ | i
  · rw [hh] at h; cases h
  · rw [hh] at h
    simp only [Option.map_some, Option.some.injEq, Prod.mk.injEq] at h
    exact ⟨i, rfl, h.1, h.2.1, h.2.2⟩
section
variable {ops : Array Oper} {rest : List Oper} {o : Oper} {a : Act} {w : World} {Q : Exit → Act → World → Prop} {s x : Operand}
theorem wp_all (s x : Operand) (t e : TypeId) (i : TypeInfo) (z : Value) (size bytes : Nat) (ho : o.op = .call { callee := .builtin .append, args := #[s, x], argTypes := #[t, t] })
    (ht : Tryd.prog.underlying t = some (.slice e)) (hi : Tryd.prog.info? e = some i) (hz : i.zero = some z) (hsize : i.size = size) (hby : i.bytes = bytes) (hzs : z.cells.size = size) (hsz : 0 < size)
    {so : Option Addr} {n cap : Nat} {xs : List Value} (hs : a.eval s = .slice none 0 0) (hx : a.eval x = .slice so n cap) (hgd : o.guard = none)
    (H : Sl (.slice so n cap) size n xs w) (h1 : ∀ u ∈ xs, u.oneCell' = true) (hn : n ≤ 100000) (hb : bytes ≤ 1000)
    (h : ∀ v' w', w'.ownsRow w.heap.size e size v' n xs → Below w.heap.size w w' → wpList Tryd.prog ops Q rest (a.put o.dst v') w') : wpList Tryd.prog ops Q (o :: rest) a w := by
  obtain ⟨_, hl, h3⟩ := H
  rcases h3 with ⟨e3, rfl⟩ | ⟨b, off, cap', e3, hcap, hb', hc⟩
  · obtain rfl : xs = [] := List.eq_nil_of_length_eq_zero (by omega)
    simp only [Value.slice.injEq, true_and] at e3
    obtain ⟨rfl, rfl⟩ := e3
    have hr : (Builtin.append_ #[t, t] o.type #[.slice none 0 0, .slice none 0 0]).run Tryd.prog w = .ok (.slice none 0 0) w := by
      simp [Builtin.append_, run_underlying ht, sizeOf, typeInfo, hi, Builtin.lenOf, run_firstCells_none, storeCells]
    refine wpList_plain hgd fun _ hK => ?_
    unfold Oper.wp execOp
    simp only [ho, resolve, invoke, builtin, Sem.run_bind, Sem.run_pure, Result.andThen_ok, List.map_toArray, List.map_cons, List.map_nil, hs, hx, hr]
    exact hK _ _ (h _ _ (World.ownsRow_nil _ _ _ _) (Below.refl _ _))
  · simp only [Value.slice.injEq, true_and] at e3
    obtain ⟨rfl, rfl⟩ := e3
    refine wpList_append_own w hgd s x t ho w.heap.size e i z size bytes ht hi hz hsize hby hzs hsz (.slice none 0 0) 0 [] hs (World.ownsRow_nil _ _ _ _) ⟨b, off, none⟩ n cap xs hx hl
      (fun j u hu => by rw [Addr.add_lit]; exact hc j u hu) h1 (by rw [Nat.zero_add]; unfold maxLen; omega) (by rw [Nat.zero_add]; exact Nat.le_trans (Nat.mul_le_mul hn hb) (by decide)) (Nat.le_refl _) (fun v' w' hO hg _ => ?_)
    rw [Nat.zero_add, List.nil_append] at hO
    exact h v' w' hO (grownBy_none_below hg)
theorem wp_allE {so : Option Addr} {n cap : Nat} {xs : List Value} (ho : o.op = .call { callee := .builtin .append, args := #[s, x], argTypes := #[23, 23] }) (hs : a.eval s = .slice none 0 0) (hx : a.eval x = .slice so n cap) (hgd : o.guard = none)
    (H : Sl (.slice so n cap) 13 n xs w) (h1 : ∀ u ∈ xs, u.oneCell' = true) (hn : n ≤ 100000)
    (h : ∀ v' w', w'.ownsRow w.heap.size 31 13 v' n xs → Below w.heap.size w w' → wpList Tryd.prog ops Q rest (a.put o.dst v') w') : wpList Tryd.prog ops Q (o :: rest) a w := by
  obtain ⟨i, hi, h0, h1', h2⟩ := info_entA
  exact wp_all s x 23 31 i (.agg ent0.vals.toArray) 13 128 ho Tryd.underlying23 hi h0 h1' h2 rfl (by decide) hs hx hgd H h1 hn (by decide) h
theorem build_e1 (e : Ent) (W : World) : (Instr.buildSlice 23 1 #[(0, .agg e.arr)]).run Tryd.prog W = .ok (.slice (some ⟨W.heap.size, 0, none⟩) 1 1) (W.alloc (.cells e.vals.toArray 31)) := by
  kernel_rfl
theorem wp_buildE1W (e : Ent) (ho : o.op = .buildSlice 23 1 #[(0, x)]) (hx : a.eval x = .agg e.arr)
    (hgd : Region.wanted o (yielded ops a.tmps) = true) (h : ∀ W, RowAt w.heap.size e.vals W → Below w.heap.size w W → w.heap.size < W.heap.size → wpList Tryd.prog ops Q rest (a.put o.dst (.slice (some ⟨w.heap.size, 0, none⟩) 1 1)) W) : wpList Tryd.prog ops Q (o :: rest) a w :=
  wpList_step fun _ hK => by
    rw [if_pos hgd]
    have hn := h _ (RowAt.new e.vals w 31) ((Below.refl _ _).alloc (Nat.le_refl _) _) (by simp)
    have hb := build_e1 e w
    unfold Oper.wp execOp
    simp only [ho]
    simp only [List.map_toArray, List.map_cons, List.map_nil, hx, hb, Sem.run_bind, Result.andThen_ok, Sem.run_pure]
    exact hK _ _ hn
theorem wp_appendE (base : Nat) (v : Value) (l : List Ent) (f : Ent) (T : Nat)
    (ho : o.op = .call { callee := .builtin .append, args := #[s, x], argTypes := #[23, 23] }) (hs : a.eval s = v) (hx : a.eval x = .slice (some ⟨T, 0, none⟩) 1 1) (hgd : o.guard = none)
    (hown : w.ownsRow base 31 13 v l.length (entL l)) (hT : RowAt T f.vals w) (hn : l.length ≤ 100000) (hbase : base ≤ w.heap.size)
    (h : ∀ v' w', w'.ownsRow base 31 13 v' (l ++ [f]).length (entL (l ++ [f])) → w.grownBy w' v.ownBlock → (∀ g, v'.ownBlock = some g → v.ownBlock = some g ∨ w.heap.size ≤ g) → wpList Tryd.prog ops Q rest (a.put o.dst v') w') : wpList Tryd.prog ops Q (o :: rest) a w := by
  obtain ⟨i, hi, h0, h1, h2⟩ := info_entA
  refine wpList_plain hgd fun _ hK => ?_
  refine wp_append_lies w s x 23 ho base 31 i (.agg ent0.vals.toArray) 13 128 Tryd.underlying23 hi h0 h1 h2 rfl (by decide) v l.length (entL l) hs hown ⟨T, 0, none⟩ 1 1 f.vals hx rfl
    (fun j u hu => by rw [Addr.add_lit, Nat.zero_add]; exact hT.cells j u hu) (fun u hu => List.all_eq_true.1 (evals_one f) u hu) (by decide) (by unfold maxLen; omega) (by omega) hbase w.heap.size rfl ?_
  intro g cap w' a1 a2 a3 _
  refine hK _ _ (h _ _ ?_ a2 fun g' e => ?_)
  · rw [List.length_append, entL_append]
    have e : entL [f] = f.vals := by simp [entL]
    rw [e]
    exact a1
  · have e2 : g = g' := Option.some.inj e
    subst e2
    rcases a3 with a3 | a3
    · exact .inl a3
    · exact .inr (by omega)
theorem wp_loadEntAt {b : Nat} (e : Ent) (off : Nat) (h : ∀ i u, e.vals[i]? = some u → w.cell? ⟨b, off + i, none⟩ = some u) (ho : o.op = .load 31 x)
    (hx : a.eval x = .pointer (some ⟨b, off, none⟩)) (hgd : Region.wanted o (yielded ops a.tmps) = true) (hn : wpList Tryd.prog ops Q rest (a.put o.dst (.agg e.arr)) w) : wpList Tryd.prog ops Q (o :: rest) a w :=
  wpList_step fun _ hK => by
    rw [if_pos hgd]
    exact wp_load_mid _ x ho b off hx e.vals _ (fun j v hv => h j v hv) Tryd.underlying31 rfl info_ent (hK _ _ hn)
end
/-- Where the cells of a row's entry lie. -/
theorem Sl.ent {so : Option Addr} {n cap i : Nat} {l : List Ent} {w : World} {e : Ent} (h : Sl (.slice so n cap) 13 n (entL l) w) (hi : l[i]? = some e) :
    ∃ b off, so = some ⟨b, off, none⟩ ∧ b < w.heap.size ∧ n ≤ cap ∧ ∀ k u, e.vals[k]? = some u → w.cell? ⟨b, off + i * 13 + k, none⟩ = some u := by
  have hl := h.2.1
  have hlt : i < l.length := (List.getElem?_eq_some_iff.1 hi).1
  rw [entL_length] at hl
  rcases h.2.2 with ⟨e1, rfl⟩ | ⟨b, off, cap', e1, h3, h4, h5⟩
  · omega
  · simp only [Value.slice.injEq, true_and] at e1
    obtain ⟨rfl, rfl⟩ := e1
    refine ⟨b, off, rfl, h4, h3, fun k u hu => ?_⟩
    rw [Nat.add_assoc]
    exact h5 _ _ (entL_at l i e k u hi hu)
/-- A row's entries from some place on. -/
theorem Sl.from {b off n cap i : Nat} {l : List Ent} {w : World} (h : Sl (.slice (some ⟨b, off, none⟩) n cap) 13 n (entL l) w) (hi : i ≤ n) : Sl (.slice (some ⟨b, off + i * 13, none⟩) (n - i) (cap - i)) 13 (n - i) (entL (l.drop i)) w := by
  have hl := h.2.1
  rcases h.2.2 with ⟨e1, _⟩ | ⟨b', off', cap', e1, h3, h4, h5⟩
  · cases e1
  · simp only [Value.slice.injEq, Option.some.injEq, Addr.mk.injEq, true_and, and_true] at e1
    obtain ⟨⟨rfl, rfl⟩, rfl⟩ := e1
    refine ⟨Nat.le_trans (Nat.sub_le _ _) h.1, ?_, .inr ⟨b, off + i * 13, cap - i, rfl, by omega, h4, fun k u hu => ?_⟩⟩
    · rw [← entL_drop, List.length_drop, hl, ← Nat.sub_mul]
    · rw [← entL_drop, List.getElem?_drop] at hu
      rw [Nat.add_assoc]
      exact h5 _ _ hu
end Go.Proofs.YtmlclccfmlcabaaDoor.qd
