/- What is kept of an owned row when some of its cells are stored; clear; a predicate over one captured number. -/
import Derived.Test.YtikpchhhenonaaaLc
import Derived.Shelf.Abstract
namespace Go.Proofs.Ytikpchhhenonaaa.ld
open Go.ChangeShapes Go.WideShapes Go.ChangeAt Go.RowKit Go.Proofs.Ytikpchhhenonaaa.cx Go.Proofs.Ytikpchhhenonaaa.ra Go.Proofs.Ytikpchhhenonaaa.la Go.Proofs.Ytikpchhhenonaaa.lb Go.Proofs.Ytikpchhhenonaaa.lc

theorem own_setCells {base n cap size g : Nat} {e : TypeId} : ∀ (us : List Value) (o : Nat) (w : World) (xs : List Value), w.ownsRow base e size (.slice (some ⟨g, 0, none⟩) n cap) n xs →
    (w.setCells g o us).ownsRow base e size (.slice (some ⟨g, 0, none⟩) n cap) n (splice xs o us) ∧ w.grownBy (w.setCells g o us) (some g)
  | [], _, w, _, h => ⟨h, grownBy_refl w _⟩
  | u :: r, o, w, xs, h => by
    have h1 := h.stored o u
    have h2 := own_setCells r (o + 1) _ _ h1.1
    rw [World.setCells, splice]
    exact ⟨h2.1, grownBy_trans h1.2 h2.2⟩
theorem own_shrink {base n cap size g i : Nat} {e : TypeId} {w : World} {xs : List Value} (h : w.ownsRow base e size (.slice (some ⟨g, 0, none⟩) n cap) n xs) (hi : i ≤ n) :
    w.ownsRow base e size (.slice (some ⟨g, 0, none⟩) i cap) i (xs.take (i * size)) := by
  refine ⟨?_, ?_⟩
  · rw [List.length_take, h.1]
    exact Nat.min_eq_left (Nat.mul_le_mul_right _ hi)
  · rcases h.2 with ⟨h', _⟩ | ⟨g', cap', cur, h', hb, hg, hnc, hcm, hcs, htake⟩
    · simp at h'
    · simp only [Value.slice.injEq, Option.some.injEq, Addr.mk.injEq, and_true, true_and] at h'
      obtain ⟨rfl, rfl⟩ := h'
      refine .inr ⟨g, cap, cur, rfl, hb, hg, Nat.le_trans hi hnc, hcm, hcs, ?_⟩
      rw [← htake, List.take_take, Nat.min_eq_left (Nat.mul_le_mul_right _ hi)]
theorem own_there {base n cap size g : Nat} {e : TypeId} {w : World} {xs : List Value} (h : w.ownsRow base e size (.slice (some ⟨g, 0, none⟩) n cap) n xs) (o m : Nat) (ho : o + m ≤ n * size) : w.there g o m := fun j hj =>
  ⟨by rw [h.cellAt (o + j) (by omega), List.getElem?_eq_getElem (by rw [h.1]; omega)]; rfl, h.frozenAt _⟩
theorem run_clear_cells {P : Program} (w : World) (t e ty : TypeId) (z : Value) (ht : P.underlying t = some (.slice e)) (hv : ∀ w, (zeroValue e).run P w = .ok z w) (b o n c : Nat) (hn : 0 < n)
    (h1n : ∀ u ∈ (Builtin.zeroCells z.cells n).toList, u.oneCell' = true) (hc : w.there b o (n * z.cells.size)) :
    (Builtin.clear_ #[t] ty #[.slice (some ⟨b, o, none⟩) n c]).run P w = .ok (.tuple #[]) (w.setCells b o (Builtin.zeroCells z.cells n).toList) := by
  have hl : (Builtin.zeroCells z.cells n).toList.length = n * z.cells.size := by simp [Builtin.zeroCells]
  have hst := run_storeCells_cells (P := P) b o (Builtin.zeroCells z.cells n).toList 0 w (fun j hj => by rw [Nat.add_zero]; exact (hc j (by omega)).1) (fun j hj => by rw [Nat.add_zero]; exact (hc j (by omega)).2) h1n
  simp only [Nat.add_zero] at hst
  obtain ⟨m, rfl⟩ : ∃ m, n = m + 1 := ⟨n - 1, by omega⟩
  simp [Builtin.clear_, run_underlying ht, hv, hst]
theorem zero_cells_mem (z : Array Value) (n : Nat) (h1 : ∀ u ∈ z, u.oneCell' = true) (h0 : 0 < z.size) : ∀ u ∈ (Builtin.zeroCells z n).toList, u.oneCell' = true := fun u hu => by
  simp only [Builtin.zeroCells, Array.toList_map, List.mem_map] at hu
  obtain ⟨i, _, rfl⟩ := hu
  rw [getElem!_pos z (i % z.size) (Nat.mod_lt _ h0)]
  exact h1 _ (Array.getElem_mem _)
theorem zero_cells_length (z : Array Value) (n : Nat) : (Builtin.zeroCells z n).toList.length = n * z.size := by simp [Builtin.zeroCells]
/-- A function value over one captured number: a predicate that lays what it wants and turns nothing. -/
def Pred {α : Type} (g C : Nat) (now : Int) (enc : α → Value) (p : α → Bool) : Prop :=
  ∀ (W : World) (x : α), W.cell? ⟨C, 0, none⟩ = some (.int .i64 now) → Calls Try.prog g #[enc x, .pointer (some ⟨C, 0, none⟩)] W fun e w' => e = .returned (.bool (p x)) ∧ Below W.heap.size W w'
def idxOf {α : Type} (p : α → Bool) (l : List α) : Int := if l.findIdx p < l.length then (l.findIdx p : Int) else -1
theorem idx_hit {α : Type} {p : α → Bool} {l : List α} {k : Nat} {x : α} (hk : l[k]? = some x) (hx : p x = true) (hb : ∀ j y, j < k → l[j]? = some y → p y = false) : l.findIdx p = k ∧ k < l.length := by
  have hlt : k < l.length := by
    rcases Nat.lt_or_ge k l.length with h | h
    · exact h
    · rw [List.getElem?_eq_none h] at hk; cases hk
  have hxx : l[k] = x := by rw [List.getElem?_eq_getElem hlt] at hk; injection hk
  refine ⟨?_, hlt⟩
  rw [List.findIdx_eq hlt]
  refine ⟨by rw [hxx]; exact hx, fun j hj => ?_⟩
  exact hb j _ hj (List.getElem?_eq_getElem (by omega))
theorem idx_miss {α : Type} {p : α → Bool} {l : List α} (hb : ∀ j y, j < l.length → l[j]? = some y → p y = false) : l.findIdx p = l.length := by
  rw [List.findIdx_eq_length]
  intro x hx
  obtain ⟨j, hj, rfl⟩ := List.mem_iff_getElem.1 hx
  exact hb j _ hj (List.getElem?_eq_getElem hj)
theorem idx_first {α : Type} {p : α → Bool} {l : List α} (h : l.findIdx p < l.length) : ∃ x, l[l.findIdx p]? = some x ∧ p x = true :=
  ⟨_, List.getElem?_eq_getElem h, List.findIdx_getElem⟩
theorem filter_none {α : Type} {p : α → Bool} {l : List α} (h : l.findIdx p = l.length) : l.filter (fun x => !p x) = l := by
  rw [List.filter_eq_self]
  intro x hx
  rw [List.findIdx_eq_length] at h
  simp [h x hx]
theorem filter_first {α : Type} {p : α → Bool} {l : List α} (h : l.findIdx p < l.length) : (l.take (l.findIdx p + 1)).filter (fun x => !p x) = l.take (l.findIdx p) := by
  obtain ⟨x, hx, hp⟩ := idx_first h
  rw [List.take_add_one, hx, List.filter_append]
  have h1 : (l.take (l.findIdx p)).filter (fun x => !p x) = l.take (l.findIdx p) := by
    rw [List.filter_eq_self]
    intro y hy
    obtain ⟨j, hj, rfl⟩ := List.mem_iff_getElem.1 hy
    rw [List.length_take] at hj
    rw [List.getElem_take]
    simp only [Bool.not_eq_true']
    exact List.not_of_lt_findIdx (Nat.lt_of_lt_of_le hj (Nat.min_le_left _ _))
  rw [h1]
  simp [hp]
/-- The row while elements are struck: i kept, j seen. -/
structure Kept {α : Type} (p : α → Bool) (l L : List α) (i j : Nat) : Prop where
  lt : i < j
  le : j ≤ l.length
  len : L.length = l.length
  low : L.take i = (l.take j).filter (fun x => !p x)
  high : L.drop j = l.drop j
section
variable {α : Type} {p : α → Bool} {l L : List α} {i j : Nat}
theorem Kept.start (h : l.findIdx p < l.length) : Kept p l l (l.findIdx p) (l.findIdx p + 1) := ⟨by omega, by omega, rfl, (filter_first h).symm, rfl⟩
theorem Kept.at' (h : Kept p l L i j) : L[j]? = l[j]? := by
  have := congrArg (fun z => z[0]?) h.high
  simpa using this
theorem Kept.skip (h : Kept p l L i j) {x : α} (hj : l[j]? = some x) (hp : p x = true) : Kept p l L i (j + 1) := by
  have hlt : j < l.length := by
    rcases Nat.lt_or_ge j l.length with h | h
    · exact h
    · rw [List.getElem?_eq_none h] at hj; cases hj
  refine ⟨by have := h.lt; omega, by omega, h.len, ?_, ?_⟩
  · rw [List.take_add_one, hj, List.filter_append, h.low]
    simp [hp]
  · rw [← List.drop_drop, h.high, List.drop_drop]
theorem Kept.keep (h : Kept p l L i j) {x : α} (hj : l[j]? = some x) (hp : p x = false) : Kept p l (L.set i x) (i + 1) (j + 1) := by
  have hlt : j < l.length := by
    rcases Nat.lt_or_ge j l.length with h | h
    · exact h
    · rw [List.getElem?_eq_none h] at hj; cases hj
  have h1 := h.lt
  have h2 := h.len
  refine ⟨by omega, by omega, by rw [List.length_set]; exact h2, ?_, ?_⟩
  · rw [List.take_add_one, List.take_add_one, hj, List.filter_append, ← h.low, List.getElem?_set_self (by omega)]
    rw [List.take_set_of_le (Nat.le_refl i)]
    simp [hp]
  · rw [List.drop_set_of_lt (by omega), ← List.drop_drop, h.high, List.drop_drop]
theorem Kept.done (h : Kept p l L i l.length) : L.take i = l.filter (fun x => !p x) ∧ (l.filter (fun x => !p x)).length = i := by
  have h1 := h.low
  rw [List.take_length] at h1
  refine ⟨h1, ?_⟩
  rw [← h1, List.length_take]
  have := h.lt
  have := h.len
  omega
end
theorem strL_at {l : List ByteArray} {j : Nat} {x : ByteArray} (h : l[j]? = some x) : (strL l)[j]? = some (.string x) := by simp [strL, h]
theorem intL_at {l : List Int} {j : Nat} {x : Int} (h : l[j]? = some x) : (intL l)[j]? = some (.int .i64 x) := by simp [intL, h]
theorem intL_set (l : List Int) (i : Nat) (x : Int) : splice (intL l) i [.int .i64 x] = intL (l.set i x) := by
  show (intL l).set i _ = _
  simp [intL, List.map_set]
theorem strL_set (l : List ByteArray) (i : Nat) (x : ByteArray) : (strL l).set i (.string x) = strL (l.set i x) := by simp [strL, List.map_set]
theorem intL_take (l : List Int) (i : Nat) : (intL l).take i = intL (l.take i) := by simp [intL]
theorem fltL_take : ∀ (l : List Flt) (i : Nat), (fltL l).take (i * 6) = fltL (l.take i)
  | [], i => by simp [fltL]
  | c :: r, 0 => by simp [fltL]
  | c :: r, i + 1 => by
    show (c.vals ++ fltL r).take ((i + 1) * 6) = c.vals ++ fltL (r.take i)
    rw [show (i + 1) * 6 = c.vals.length + i * 6 by rw [fvals_length]; omega, List.take_length_add_append, fltL_take r i]
theorem fltL_set (l : List Flt) (i : Nat) (x : Flt) (hi : i < l.length) : splice (fltL l) (i * 6) x.vals = fltL (l.set i x) := by
  have hl := fltL_length l
  apply List.ext_getElem?
  intro k
  rcases Nat.lt_or_ge k (l.length * 6) with hk | hk
  · obtain ⟨q, r, hr, rfl⟩ : ∃ q r, r < 6 ∧ k = q * 6 + r := ⟨k / 6, k % 6, Nat.mod_lt _ (by decide), by omega⟩
    have h6 : q < l.length := by omega
    by_cases he : q = i
    · subst he
      have hv : x.vals[r]? = some (x.vals[r]'(by rw [fvals_length]; exact hr)) := List.getElem?_eq_getElem _
      rw [splice_get_in x.vals (fltL l) (q * 6) r (by rw [fvals_length]; exact hr) (by rw [fvals_length]; omega), hv]
      exact (fltL_at _ _ _ _ _ (List.getElem?_set_self hi) hv).symm
    · have hc : (l.set i x)[q]? = some l[q] := by rw [List.getElem?_set_ne (Ne.symm he)]; exact List.getElem?_eq_getElem h6
      have hv : (l[q]).vals[r]? = some ((l[q]).vals[r]'(by rw [fvals_length]; exact hr)) := List.getElem?_eq_getElem _
      rw [splice_get_out _ _ _ _ (by rw [fvals_length]; omega), fltL_at _ _ _ _ _ (List.getElem?_eq_getElem h6) hv, fltL_at _ _ _ _ _ hc hv]
  · rw [List.getElem?_eq_none (by rw [splice_length]; omega), List.getElem?_eq_none (by rw [fltL_length, List.length_set]; omega)]
theorem splice_take (us xs : List Value) (o : Nat) : (splice xs o us).take o = xs.take o := by
  apply List.ext_getElem?
  intro k
  rw [List.getElem?_take, List.getElem?_take]
  split
  · exact splice_get_out us xs o k (.inl (by assumption))
  · rfl
theorem grownBy_stored {w W W' : World} {row : Option Nat} {b : Nat} (h : w.grownBy W row) (hb : w.heap.size ≤ b) (hs : StoredAt b W W') : w.grownBy W' row := by
  have hB := hs.below (Below.refl b W) (Nat.le_refl b)
  exact ⟨hB.os.trans h.os, hB.tape.trans h.tape, hB.output.trans h.output, Nat.le_trans h.size hB.size, fun k hk hne => (hB.block k (by omega)).trans (h.block k hk hne)⟩
theorem grownBy_storedRow {w W W' : World} {b : Nat} (h : w.grownBy W (some b)) (hs : StoredAt b W W') : w.grownBy W' (some b) := by
  have hB := hs.below (Below.refl 0 W) (Nat.zero_le b)
  exact ⟨hB.os.trans h.os, hB.tape.trans h.tape, hB.output.trans h.output, Nat.le_trans h.size hB.size, fun k hk hne => (hs.heap k (fun e => hne (by rw [e]))).trans (h.block k hk hne)⟩
theorem grownBy_below {w W W' : World} {row : Option Nat} (h : w.grownBy W row) (hb : Below W.heap.size W W') : w.grownBy W' row :=
  ⟨hb.os.trans h.os, hb.tape.trans h.tape, hb.output.trans h.output, Nat.le_trans h.size hb.size, fun k hk hne => (hb.block k (Nat.lt_of_lt_of_le hk h.size)).trans (h.block k hk hne)⟩
theorem wp_storeFltAtW {ops : Array Oper} {rest : List Oper} {o : Oper} {a : Act} {w : World} {Q : Exit → Act → World → Prop} {x y : Operand} {g : Nat} (f : Flt) (off : Nat) (ht : w.there g off 6) (ho : o.op = .store 29 x y)
    (hx : a.eval x = .pointer (some ⟨g, off, none⟩)) (hy : a.eval y = .agg f.arr) (hgd : Region.wanted o (yielded ops a.tmps) = true)
    (h : ∀ W, W = w.setCells g off f.vals → wpList Try.prog ops Q rest (a.put o.dst undef) W) : wpList Try.prog ops Q (o :: rest) a w :=
  wpList_step fun _ hK => by
    rw [if_pos hgd]
    exact wp_store_mid _ x y ho g off f.arr hx hy ht info_flt (by simpa [Flt.arr] using fvals_one f) (hK _ _ (h _ rfl))
end Go.Proofs.Ytikpchhhenonaaa.ld
