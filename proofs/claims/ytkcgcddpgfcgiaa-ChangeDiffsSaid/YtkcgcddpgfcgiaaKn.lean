/- ChangeRows: what the call owns; cells as variables; pages behind a row of changes. -/
import Derived.Test.YtkcgcddpgfcgiaaKm
import Derived.Deep.AppendLies
namespace Go.Proofs.Ytkcgcddpgfcgiaa.kn
open Go.ChangeShapes Go.WideShapes Go.ChangeAt Go.RowKit Go.Proofs.Ytkcgcddpgfcgiaa.cx Go.Proofs.Ytkcgcddpgfcgiaa.ra Go.Proofs.Ytkcgcddpgfcgiaa.rc Go.Proofs.Ytkcgcddpgfcgiaa.da Go.Proofs.Ytkcgcddpgfcgiaa.di Go.Proofs.Ytkcgcddpgfcgiaa.ea Go.Proofs.Ytkcgcddpgfcgiaa.eb Go.Proofs.Ytkcgcddpgfcgiaa.ec Go.Proofs.Ytkcgcddpgfcgiaa.ed Go.Proofs.Ytkcgcddpgfcgiaa.fb Go.Proofs.Ytkcgcddpgfcgiaa.ka Go.Proofs.Ytkcgcddpgfcgiaa.kb Go.Proofs.Ytkcgcddpgfcgiaa.kc Go.Proofs.Ytkcgcddpgfcgiaa.kd Go.Proofs.Ytkcgcddpgfcgiaa.ke Go.Proofs.Ytkcgcddpgfcgiaa.kf Go.Proofs.Ytkcgcddpgfcgiaa.kg Go.Proofs.Ytkcgcddpgfcgiaa.ki Go.Proofs.Ytkcgcddpgfcgiaa.kj Go.Proofs.Ytkcgcddpgfcgiaa.kk Go.Proofs.Ytkcgcddpgfcgiaa.km

theorem setCells_heap (b g : Nat) (hne : b ≠ g) : ∀ (us : List Value) (o : Nat) (w : World), (w.setCells b o us).heap[g]? = w.heap[g]?
  | [], _, _ => rfl
  | u :: r, o, w => by
    rw [World.setCells, setCells_heap b g hne r, Below.heap_setCell _ _ _ _ (by exact hne.symm)]
theorem own_heap {w w' : World} {base n size : Nat} {e : TypeId} {v : Value} {xs : List Value} (h : w.ownsRow base e size v n xs) (hb : ∀ g, v.ownBlock = some g → w'.heap[g]? = w.heap[g]?) : w'.ownsRow base e size v n xs := by
  refine ⟨h.1, ?_⟩
  rcases h.2 with h2 | ⟨g, cap, cur, rfl, h3, h4, h5⟩
  · exact .inl h2
  · exact .inr ⟨g, cap, cur, rfl, h3, by rw [hb g rfl]; exact h4, h5⟩
theorem own_keep {w w' : World} {base n size : Nat} {e : TypeId} {v : Value} {xs : List Value} (h : w.ownsRow base e size v n xs) (hb : Below w.heap.size w w') : w'.ownsRow base e size v n xs :=
  own_heap h fun g hg => hb.block g (h.lt g hg).2
theorem own_grown {w w' : World} {base n size p : Nat} {e : TypeId} {v : Value} {xs : List Value} (h : w.ownsRow base e size v n xs) (hb : w.grownBy w' (some p)) (hp : p < base) : w'.ownsRow base e size v n xs :=
  own_heap h fun g hg => hb.block g (h.lt g hg).2 (fun e => by injection e with e; have := (h.lt g hg).1; omega)
theorem own_stored {w w' : World} {base n size b : Nat} {e : TypeId} {v : Value} {xs : List Value} (h : w.ownsRow base e size v n xs) (hs : Stored b w w') (hne : ∀ g, v.ownBlock = some g → g ≠ b) : w'.ownsRow base e size v n xs :=
  own_heap h fun g hg => by
    obtain ⟨us, rfl⟩ := hs
    exact setCells_heap b g (fun e => hne g hg e.symm) us 0 w
theorem own_storedAt {w w' : World} {base n size b : Nat} {e : TypeId} {v : Value} {xs : List Value} (h : w.ownsRow base e size v n xs) (hs : StoredAt b w w') (hb : b < base) : w'.ownsRow base e size v n xs :=
  own_heap h fun g hg => by
    obtain ⟨f, us, rfl⟩ := hs
    exact setCells_heap b g (fun e => by have := (h.lt g hg).1; omega) us f w
theorem own_drew {w : World} {base n size : Nat} {e : TypeId} {v : Value} {xs : List Value} (h : w.ownsRow base e size v n xs) : w.drew.ownsRow base e size v n xs := h
theorem own_less {w : World} {base n size : Nat} {e : TypeId} {v : Value} {xs : List Value} (h : w.ownsRow base e size v n xs) : ∀ g, v.ownBlock = some g → g ≠ w.heap.size := fun g hg => Nat.ne_of_lt (h.lt g hg).2
theorem row_cells {g : Nat} {cur : Array Value} {e : TypeId} {w : World} (h : w.heap[g]? = some (.cells cur e (0, 0))) : RowAt g cur.toList w := by
  refine ⟨?_, fun i v hi => ?_, fun i => ?_⟩
  · rcases Nat.lt_or_ge g w.heap.size with h1 | h1
    · exact h1
    · rw [Array.getElem?_eq_none h1] at h; cases h
  · unfold World.cell?
    simp only [h]
    simpa using hi
  · unfold World.frozen?
    simp [h]
theorem _root_.Go.Proofs.Ytkcgcddpgfcgiaa.ki.St.grownRow {l : List (Nat × List Value)} {w W W' : World} {row : Option Nat} (h : St l w W) (hg : W.grownBy W' row) (hne : ∀ x ∈ l, row ≠ some x.1) (hB : ∀ k, row = some k → w.heap.size ≤ k) : St l w W' :=
  ⟨fun x hx => RowAt.grown (h.1 x hx) hg (hne x hx), h.2.grown hg h.2.size hB⟩
theorem cod_row {p : Nat} {w w' : World} {row : Option Nat} (h : Cod p w) (hg : w.grownBy w' row) (hr : ∀ k, row = some k → p < k) : Cod p w' := cod_own h hg hr
/-- A cell as a variable. -/
theorem zero_cell (W : World) : (zeroValue 24).run Try.prog W = .ok (.agg noCell.vals.toArray) W := by kernel_rfl
theorem wp_newCellW {ops : Array Oper} {rest : List Oper} {o : Oper} {a : Act} {w : World} {Q : Exit → Act → World → Prop} (ho : o.op = .alloc 24)
    (hgd : Region.wanted o (yielded ops a.tmps) = true) (h : ∀ W, RowAt w.heap.size noCell.vals W → Below w.heap.size w W → w.heap.size < W.heap.size → wpList Try.prog ops Q rest (a.put o.dst (.pointer (some ⟨w.heap.size, 0, none⟩))) W) : wpList Try.prog ops Q (o :: rest) a w :=
  wp_new noCell.vals _ zero_cell ho hgd (h _ (RowAt.new noCell.vals w _) ((Below.refl _ _).alloc (Nat.le_refl _) _) (by simp))
theorem op_storeCell {o : Oper} {a : Act} {w : World} {K : Act → World → Prop} {Q : Exit → Act → World → Prop} {x y : Operand} {b : Nat} {vs : List Value} (c : CellM) (hr : RowAt b vs w) (hl : vs.length = 2) (ho : o.op = .store 24 x y)
    (hx : a.eval x = .pointer (some ⟨b, 0, none⟩)) (hy : a.eval y = .agg #[.bool c.set, .string c.data]) (h : ∀ W, RowAt b c.vals W → StoredAt b w W → K (a.put o.dst undef) W) : o.wp Try.prog a w K Q := by
  have hs := RowAt.setCells c.vals 0 hr (by rw [hl]; exact Nat.le_refl 2)
  rw [splice_all _ _ (by rw [hl]; rfl)] at hs
  exact wp_store_mid _ x y ho b 0 c.vals.toArray hx hy (hr.there 0 2 (by rw [hl]; exact Nat.le_refl 2)) info_cell (by simpa using cell_one c) (h _ hs ⟨_, _, rfl⟩)
theorem chgC {c : Chg} {j : Nat} {v : Value} (h : c.after.vals[j]? = some v) : c.vals[4 + j]? = some v := by
  match j, h with
  | 0, h => exact h
  | 1, h => exact h
theorem build_one (c : Chg) (W : World) : (Instr.buildSlice 51 1 #[(0, .agg c.arr)]).run Try.prog W = .ok (.slice (some ⟨W.heap.size, 0, none⟩) 1 1) (W.alloc (.cells c.vals.toArray 29)) := by
  kernel_rfl
theorem op_one {o : Oper} {a : Act} {w : World} {K : Act → World → Prop} {Q : Exit → Act → World → Prop} {x0 : Operand} (c : Chg) (ho : o.op = .buildSlice 51 1 #[(0, x0)]) (h0 : a.eval x0 = .agg c.arr)
    (h : ∀ W, ChAt w.heap.size c W → Below w.heap.size w W → K (a.put o.dst (.slice (some ⟨w.heap.size, 0, none⟩) 1 1)) W) : o.wp Try.prog a w K Q := by
  have hk := h _ (RowAt.new c.vals w 29) ((Below.refl _ _).alloc (Nat.le_refl _) _)
  have hb := build_one c w
  unfold Oper.wp execOp
  simp only [ho]
  simp only [List.map_toArray, List.map_cons, List.map_nil, h0, hb, Sem.run_bind, Result.andThen_ok, Sem.run_pure]
  exact hk
theorem chg_info : (Try.prog.info? 29).map (fun i => (i.zero, i.size, i.bytes)) = some (some (.agg chg0.arr), 6, 64) := by kernel_rfl
theorem op_append {o : Oper} {a : Act} {w : World} {K : Act → World → Prop} {Q : Exit → Act → World → Prop} {s x : Operand} (base : Nat) (v : Value) (n : Nat) (xs : List Value) (c : Chg) (T : Nat)
    (ho : o.op = .call { callee := .builtin .append, args := #[s, x], argTypes := #[51, 51] }) (hs : a.eval s = v) (hx : a.eval x = .slice (some ⟨T, 0, none⟩) 1 1) (hown : w.ownsRow base 29 6 v n xs) (hT : ChAt T c w) (hn : n ≤ 1000) (hbase : base ≤ w.heap.size)
    (h : ∀ g cap w', w'.ownsRow base 29 6 (.slice (some ⟨g, 0, none⟩) (n + 1) cap) (n + 1) (xs ++ c.vals) → w.grownBy w' v.ownBlock → (v.ownBlock = some g ∨ g = w.heap.size) → K (a.put o.dst (.slice (some ⟨g, 0, none⟩) (n + 1) cap)) w') : o.wp Try.prog a w K Q := by
  obtain ⟨i, hi, h0, h1, h2⟩ : ∃ i, Try.prog.info? 29 = some i ∧ i.zero = some (.agg chg0.arr) ∧ i.size = 6 ∧ i.bytes = 64 := by
    have := chg_info
    rcases hh : Try.prog.info? 29 with _ | i
    · rw [hh] at this; cases this
    · rw [hh] at this
      simp only [Option.map_some, Option.some.injEq, Prod.mk.injEq] at this
      exact ⟨i, rfl, this.1, this.2.1, this.2.2⟩
  exact wp_append_lies w s x 51 ho base 29 i (.agg chg0.arr) 6 64 Try.underlying51 hi h0 h1 h2 rfl (by decide) v n xs hs hown ⟨T, 0, none⟩ 1 1 c.vals hx (cvals_length c)
    (fun j u hu => by
      have := hT.cells j u hu
      show w.cell? ((⟨T, 0, none⟩ : Addr).add j) = some u
      rw [Addr.add_lit, Nat.zero_add]
      exact this) (fun u hu => by have := cvals_one c; exact List.all_eq_true.1 this u hu) (by decide) (by unfold maxLen; omega) (by omega) hbase w.heap.size rfl (fun g cap w' a b c _ => h g cap w' a b c)
/-- A page behind some changes of one cell. -/
theorem same_put {p q : Pg} {k : Nat} {u : CellM} (h : sameP q (putCell p k u) = true) (v : CellM) : sameP (putCell q k v) (putCell p k v) = true := by
  obtain ⟨h1, h2, h3⟩ := sameP_iff.1 h
  refine sameP_iff.2 ⟨h1, h2, fun i hi => ?_⟩
  have := h3 i hi
  show (if i = k then v else q.cell i) = (if i = k then v else p.cell i)
  split
  · rfl
  · rename_i hne
    rw [this]
    exact if_neg hne
theorem apply_step {p q : Pg} {k : Nat} {u v : CellM} (hk : k < 16) (hp : p.id = 2) (h : sameP q (putCell p k u) = true) (hu : cellB u = true) (hv : cellB v = true) : ApplyIs q ⟨2, (k : Int), u, v⟩ (putCell q k v) := by
  obtain ⟨h1, _, h3⟩ := sameP_iff.1 h
  have hh := h3 k hk
  rw [put_at] at hh
  have hid : (2 : Int) = q.id := by rw [h1]; exact hp.symm
  exact apply_is k (valid_is (n := 2) (by decide) hk hu hv).2 (valid_is (n := 2) (by decide) hk hu hv).1 hid (by show (k : Int).toNat = k; omega) hh
theorem cv_length (c : CellM) : c.vals.length = 2 := rfl
theorem chained_snoc {k : Nat} {x y u : CellM} {cs : List Chg} (h : Chained k x cs y) (hu : cellB u = true) : Chained k x (cs ++ [⟨2, (k : Int), y, u⟩]) u :=
  (chained_append k cs [⟨2, (k : Int), y, u⟩] x u).2 ⟨y, h, rfl, rfl, rfl, hu, rfl⟩
theorem flat_snoc (cs : List Chg) (c : Chg) : flat (cs ++ [c]) = flat cs ++ c.vals := by rw [flat_append]; rfl
end Go.Proofs.Ytkcgcddpgfcgiaa.kn
