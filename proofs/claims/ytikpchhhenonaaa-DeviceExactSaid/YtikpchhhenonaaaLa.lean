/- Live variables and rows that the call owns, over any program: what is kept when other blocks turn. -/
import Derived.Test.YtikpchhhenonaaaYa
import Derived.Test.YtikpchhhenonaaaCx
import Derived.Test.YtikpchhhenonaaaRa
namespace Go.Proofs.Ytikpchhhenonaaa.la
open Go.ChangeShapes Go.WideShapes Go.ChangeAt Go.RowKit Go.Proofs.Ytikpchhhenonaaa.cx Go.Proofs.Ytikpchhhenonaaa.ra
variable {P : Program}

/-- Some cells of block b have been stored, from some place on. -/
def StoredAt (b : Nat) (w W : World) : Prop := ∃ f us, W = w.setCells b f us
theorem StoredAt.row {b b' : Nat} {vs : List Value} {w W : World} (h : StoredAt b w W) (hr : RowAt b' vs w) (hne : b ≠ b') : RowAt b' vs W := by
  obtain ⟨f, us, rfl⟩ := h
  exact hr.setCellsOther hne us f
theorem StoredAt.below {b B : Nat} {a w W : World} (h : StoredAt b w W) (hb : Below B a w) (hB : B ≤ b) : Below B a W := by
  obtain ⟨f, us, rfl⟩ := h
  exact below_setCells b hB us f _ hb
theorem StoredAt.size {b : Nat} {w W : World} (h : StoredAt b w W) : W.heap.size = w.heap.size := by
  obtain ⟨f, us, rfl⟩ := h
  exact setCells_size b us f w
theorem setCells_heap (b g : Nat) (hne : b ≠ g) : ∀ (us : List Value) (o : Nat) (w : World), (w.setCells b o us).heap[g]? = w.heap[g]?
  | [], _, _ => rfl
  | u :: r, o, w => by
    rw [World.setCells, setCells_heap b g hne r, Below.heap_setCell _ _ _ _ (by exact hne.symm)]
theorem StoredAt.heap {b : Nat} {w W : World} (h : StoredAt b w W) (g : Nat) (hne : b ≠ g) : W.heap[g]? = w.heap[g]? := by
  obtain ⟨f, us, rfl⟩ := h
  exact setCells_heap b g hne us f w
/-- These variables live, and nothing of w has turned. -/
def St (l : List (Nat × List Value)) (w W : World) : Prop := (∀ x ∈ l, RowAt x.1 x.2 W) ∧ Below w.heap.size w W
theorem St.keep {l : List (Nat × List Value)} {w W W' : World} (h : St l w W) (hb : Below W.heap.size W W') : St l w W' :=
  ⟨fun x hx => (h.1 x hx).keep hb, h.2.trans (hb.mono h.2.size)⟩
theorem St.drew {l : List (Nat × List Value)} {w W : World} (h : St l w W) : St l w W.drew := ⟨fun x hx => (h.1 x hx).drew, h.2.drew⟩
theorem below_drewN {B : Nat} {a w : World} (h : Below B a w) (q : Nat) : Below B a (w.drewN q) := ⟨h.os, h.tape, h.output, h.size, h.block⟩
theorem St.drewN {l : List (Nat × List Value)} {w W : World} (h : St l w W) (n : Nat) : St l w (W.drewN n) := ⟨fun x hx => (h.1 x hx).drewN n, below_drewN h.2 n⟩
theorem St.row {l : List (Nat × List Value)} {w W : World} (h : St l w W) {b : Nat} {vs : List Value} (hx : (b, vs) ∈ l) : RowAt b vs W := h.1 _ hx
theorem St.sub {l l' : List (Nat × List Value)} {w W : World} (h : St l w W) (hs : ∀ x ∈ l', x ∈ l) : St l' w W := ⟨fun x hx => h.1 x (hs x hx), h.2⟩
theorem St.ne {l : List (Nat × List Value)} {w W : World} (h : St l w W) : ∀ x ∈ l, W.heap.size ≠ x.1 := fun x hx => Nat.ne_of_gt (h.1 x hx).lt
theorem st_nil {w W : World} (h : Below w.heap.size w W) : St [] w W := ⟨fun _ hx => (by cases hx), h⟩
theorem St.add {l : List (Nat × List Value)} {w W : World} (h : St l w W) {b : Nat} {vs : List Value} (hr : RowAt b vs W) : St ((b, vs) :: l) w W :=
  ⟨fun x hx => by
    rcases List.mem_cons.1 hx with rfl | hx
    · exact hr
    · exact h.1 x hx, h.2⟩
theorem St.first {l : List (Nat × List Value)} {w W W' : World} {vs : List Value} (h : St l w W) (hb : Below W.heap.size W W') (hP : RowAt W.heap.size vs W') : St ((W.heap.size, vs) :: l) w W' := (h.keep hb).add hP
theorem St.pushAt {l : List (Nat × List Value)} {w W W' W2 : World} {vs : List Value} (h : St l w W) (hb : Below W.heap.size W W') (hP : RowAt W.heap.size vs W2) (hS : StoredAt W.heap.size W' W2) : St ((W.heap.size, vs) :: l) w W2 :=
  St.add ⟨fun x hx => hS.row ((h.keep hb).1 x hx) (h.ne x hx), hS.below (h.keep hb).2 h.2.size⟩ hP
theorem St.stored {l : List (Nat × List Value)} {w W W2 : World} {b : Nat} (h : St l w W) (hne : ∀ x ∈ l, b ≠ x.1) (hB : w.heap.size ≤ b) (hS : StoredAt b W W2) : St l w W2 :=
  ⟨fun x hx => hS.row (h.1 x hx) (hne x hx), hS.below h.2 hB⟩
theorem St.grown {l : List (Nat × List Value)} {w W W' : World} {row : Option Nat} (h : St l w W) (hg : W.grownBy W' row) (hne : ∀ x ∈ l, row ≠ some x.1) (hB : ∀ k, row = some k → w.heap.size ≤ k) : St l w W' :=
  ⟨fun x hx => RowAt.grown (h.1 x hx) hg (hne x hx), h.2.grown hg h.2.size hB⟩

/- Rows that the call owns. -/
section
variable {w w' : World} {base n size : Nat} {e : TypeId} {v : Value} {xs : List Value}
theorem own_heap (h : w.ownsRow base e size v n xs) (hb : ∀ g, v.ownBlock = some g → w'.heap[g]? = w.heap[g]?) : w'.ownsRow base e size v n xs := by
  refine ⟨h.1, ?_⟩
  rcases h.2 with h2 | ⟨g, cap, cur, rfl, h3, h4, h5⟩
  · exact .inl h2
  · exact .inr ⟨g, cap, cur, rfl, h3, by rw [hb g rfl]; exact h4, h5⟩
theorem own_keep (h : w.ownsRow base e size v n xs) (hb : Below w.heap.size w w') : w'.ownsRow base e size v n xs := own_heap h fun g hg => hb.block g (h.lt g hg).2
theorem own_grown {row : Option Nat} (h : w.ownsRow base e size v n xs) (hb : w.grownBy w' row) (hp : ∀ g, v.ownBlock = some g → row ≠ some g) : w'.ownsRow base e size v n xs :=
  own_heap h fun g hg => hb.block g (h.lt g hg).2 (fun e => hp g hg e.symm)
theorem own_storedNe {b : Nat} (h : w.ownsRow base e size v n xs) (hs : StoredAt b w w') (hne : ∀ g, v.ownBlock = some g → g ≠ b) : w'.ownsRow base e size v n xs := own_heap h fun g hg => hs.heap g fun e => hne g hg e.symm
theorem own_less (h : w.ownsRow base e size v n xs) : ∀ g, v.ownBlock = some g → g ≠ w.heap.size := fun g hg => Nat.ne_of_lt (h.lt g hg).2
theorem own_base {base' : Nat} (h : w.ownsRow base e size v n xs) (hb : base' ≤ base) : w.ownsRow base' e size v n xs := by
  refine ⟨h.1, ?_⟩
  rcases h.2 with h2 | ⟨g, cap, cur, rfl, h3, h4⟩
  · exact .inl h2
  · exact .inr ⟨g, cap, cur, rfl, Nat.le_trans hb h3, h4⟩
end
theorem row_cells {g : Nat} {cur : Array Value} {e : TypeId} {w : World} (h : w.heap[g]? = some (.cells cur e (0, 0))) : RowAt g cur.toList w := by
  refine ⟨?_, fun i v hi => ?_, fun i => ?_⟩
  · rcases Nat.lt_or_ge g w.heap.size with h1 | h1
    · exact h1
    · rw [Array.getElem?_eq_none h1] at h; cases h
  · unfold World.cell?
    simp only [h]
    simpa using hi
  · unfold World.frozen?
    simp [h]
theorem below_grownBy {w w' : World} (h : Below w.heap.size w w') (row : Option Nat) : w.grownBy w' row := ⟨h.os, h.tape, h.output, h.size, fun k hk _ => h.block k hk⟩
theorem grownBy_none_below {w w' : World} (h : w.grownBy w' none) : Below w.heap.size w w' := ⟨h.os, h.tape, h.output, h.size, fun k hk => h.block k hk (by simp)⟩
theorem cod_keep {p : Nat} {w w' : World} (h : Cod p w) (hb : Below w.heap.size w w') : Cod p w' := by
  obtain ⟨so, len, cap, at', h⟩ := h
  have hp := cell_lt h.slice
  refine ⟨so, len, cap, at', (hb.cell (p := ⟨p, 0, none⟩) hp).trans h.slice, (hb.cell (p := ⟨p, 1, none⟩) hp).trans h.at1, (hb.frozen (p := ⟨p, 1, none⟩) hp).trans h.free, h.le, h.small, fun i hi => ?_⟩
  obtain ⟨b, off, x, e, hne, hc, hx⟩ := h.bytes i hi
  exact ⟨b, off, x, e, hne, (hb.cell (p := ⟨b, off + i, none⟩) (cell_lt hc)).trans hc, hx⟩

/-- A slice that can be read: its elements' cells lie in old memory. -/
def Sl (v : Value) (k n : Nat) (xs : List Value) (w : World) : Prop :=
  n ≤ maxLen ∧ xs.length = n * k ∧ ((v = .slice none 0 0 ∧ n = 0) ∨ ∃ b off cap, v = .slice (some ⟨b, off, none⟩) n cap ∧ n ≤ cap ∧ b < w.heap.size ∧ ∀ i u, xs[i]? = some u → w.cell? ⟨b, off + i, none⟩ = some u)
theorem Sl.of_own {w : World} {base n k : Nat} {e : TypeId} {v : Value} {xs : List Value} (h : w.ownsRow base e k v n xs) : Sl v k n xs w := by
  refine ⟨?_, h.1, ?_⟩
  · rcases h.2 with ⟨_, rfl⟩ | ⟨g, cap, cur, _, _, _, h1, h2, _⟩
    · exact Nat.zero_le _
    · exact Nat.le_trans h1 h2
  · have h0 := h
    rcases h.2 with h2 | ⟨g, cap, cur, rfl, _, hg, h1, _⟩
    · exact .inl h2
    · refine .inr ⟨g, 0, cap, rfl, h1, (h0.lt g rfl).2, fun i u hu => ?_⟩
      have hi : i < n * k := by
        rcases Nat.lt_or_ge i xs.length with h3 | h3
        · rw [h0.1] at h3; exact h3
        · rw [List.getElem?_eq_none h3] at hu; cases hu
      rw [Nat.zero_add, h0.cellAt i hi]
      exact hu
theorem Sl.keep {v : Value} {k n : Nat} {xs : List Value} {w w' : World} (h : Sl v k n xs w) (hb : Below w.heap.size w w') : Sl v k n xs w' := by
  refine ⟨h.1, h.2.1, ?_⟩
  rcases h.2.2 with h2 | ⟨b, off, cap, rfl, h3, h4, h5⟩
  · exact .inl h2
  · exact .inr ⟨b, off, cap, rfl, h3, Nat.lt_of_lt_of_le h4 hb.size, fun i u hu => (hb.cell (p := ⟨b, off + i, none⟩) h4).trans (h5 i u hu)⟩
theorem Sl.drew {v : Value} {k n : Nat} {xs : List Value} {w : World} (h : Sl v k n xs w) : Sl v k n xs w.drew := h.keep (Below.refl _ _).drew
theorem Sl.nil (k : Nat) (w : World) : Sl (.slice none 0 0) k 0 [] w := ⟨Nat.zero_le _, by simp, .inl ⟨rfl, rfl⟩⟩
theorem Sl.form {v : Value} {k n : Nat} {xs : List Value} {w : World} (h : Sl v k n xs w) : ∃ so cap, v = .slice so n cap ∧ n ≤ cap := by
  rcases h.2.2 with ⟨rfl, rfl⟩ | ⟨b, off, cap, rfl, h3, _⟩
  · exact ⟨none, 0, rfl, Nat.le_refl _⟩
  · exact ⟨_, cap, rfl, h3⟩
end Go.Proofs.Ytikpchhhenonaaa.la
