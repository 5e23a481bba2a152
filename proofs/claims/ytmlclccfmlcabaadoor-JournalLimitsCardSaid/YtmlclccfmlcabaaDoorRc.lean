/- Append to a row of bytes of the call's own: where the new slice lies; as a step of a region that draws. Over any program. -/
import Derived.Test.YtmlclccfmlcabaaDoorRa
import Derived.Lib.AppendStr
import Derived.Maps.AppendAt
import Derived.Deep.RegionLaw
import Derived.Deep.AppendLies
import Derived.Deep.QuietTactic
import Derived.Laws.Strings
namespace Go.Proofs.YtmlclccfmlcabaaDoor.rc
open Go.ChangeShapes Go.WideShapes Go.ChangeAt Go.RowKit Go.Lib Go.Proofs.YtmlclccfmlcabaaDoor.ra Go.Proofs.YtmlclccfmlcabaaDoor.ya
variable {P : Program}
theorem strCells_append (a b : ByteArray) : strCells (a ++ b) = strCells a ++ strCells b := by
  simp [strCells, ByteArray.data_append]
theorem run_append_string_at (w : World) (base : Nat) (t u ty e : TypeId) (i : TypeInfo) (ht : P.underlying t = some (.slice e)) (hu : P.underlying u = some .string) (hi : P.info? e = some i) (hz : i.zero = some (.int .u8 0))
    (hsize : i.size = 1) (hby : i.bytes = 1)
    (v : Value) (n : Nat) (xs : List Value) (hown : w.ownsRow base e 1 v n xs) (s : ByteArray) (hbytes : n + s.size ≤ 140737488355328) (hbase : base ≤ w.heap.size) :
    ∃ v' w', (Builtin.append_ #[t, u] ty #[v, .string s]).run P w = .ok v' w' ∧ w'.ownsRow base e 1 v' (n + s.size) (xs ++ strCells s) ∧ w.grownBy w' v.ownBlock ∧ (v'.ownBlock = v.ownBlock ∨ v'.ownBlock = some w.heap.size) := by
  obtain ⟨v', w', hr, h2, h3, h4⟩ := run_append_own_string (P := P) w base t u ty e i ht hu hi hz hsize hby v n xs hown s (by unfold maxLen; omega) hbytes hbase
  refine ⟨v', w', hr, h2, h3, ?_⟩
  have hxl : xs.length = n := by simpa using hown.1
  rcases hown.2 with ⟨rfl, rfl⟩ | ⟨g, cap, cur, rfl, hbg, hg, hnc, hcm, hcs, htake⟩
  · by_cases hm : s.size = 0
    · exact .inl (by rw [h4.2 ⟨rfl, hm⟩])
    · have hr2 := run_append_nil_string (P := P) w t u ty e i (.int .u8 0) ht hu hi hz s (by omega) (by omega) (by rw [hby]; omega)
      rw [hr] at hr2
      injection hr2 with hv _
      exact .inr (by rw [hv]; rfl)
  · by_cases hroom : n + s.size ≤ cap
    · have hcs' : cur.size = cap := by simpa using hcs
      have hr2 := run_append_room_string (P := P) w t u ty e i ht hu hi hsize g n cap cur hg s hroom (by omega)
      rw [hr] at hr2
      injection hr2 with hv _
      exact .inl (by rw [hv]; rfl)
    · have holds : ∀ j u, xs[j]? = some u → w.cell? ((⟨g, 0, none⟩ : Addr).add j) = some u := hown.cells (g := g) rfl
      have hr2 := run_append_grow_string (P := P) w t u ty e i (.int .u8 0) ht hu hi hz ⟨g, 0, none⟩ n cap xs (by rw [hsize]; simpa using hxl) holds s (by omega) (by omega) (by rw [hby]; exact growslice_fits (by omega) (by omega))
      rw [hr] at hr2
      injection hr2 with hv _
      exact .inr (by rw [hv]; rfl)
theorem step_append_string {ops : Array Oper} {o : Oper} {a : Act} {w : World} {K : Act → World → Prop} {Q : Exit → Act → World → Prop} {E : Prop} (hgd : o.guard = none) (sl x : Operand) (t u : TypeId)
    (ho : o.op = .call { callee := .builtin .append, args := #[sl, x], argTypes := #[t, u] })
    (base : Nat) (e : TypeId) (i : TypeInfo) (ht : P.underlying t = some (.slice e)) (hu : P.underlying u = some .string) (hi : P.info? e = some i) (hz : i.zero = some (.int .u8 0))
    (hsize : i.size = 1) (hby : i.bytes = 1)
    (v : Value) (n : Nat) (xs : List Value) (hs : a.eval sl = v) (s : ByteArray) (hx : a.eval x = .string s) (hown : w.ownsRow base e 1 v n xs) (hbytes : n + s.size ≤ 140737488355328) (hbase : base ≤ w.heap.size)
    (h : ∀ v' w', w'.ownsRow base e 1 v' (n + s.size) (xs ++ strCells s) → w.grownBy w' v.ownBlock → (v'.ownBlock = v.ownBlock ∨ v'.ownBlock = some w.heap.size) → K (a.put o.dst v') w') :
    if Region.wanted o (yielded ops a.tmps) = true then Oper.wp P o a w K Q else E := by
  have hw : Region.wanted o (yielded ops a.tmps) = true := by simp [Region.wanted, hgd]
  rw [if_pos hw]
  obtain ⟨v', w', hr, h2, h3, h4⟩ := run_append_string_at (P := P) w base t u o.type e i ht hu hi hz hsize hby v n xs hown s hbytes hbase
  unfold Oper.wp execOp
  simp only [ho, resolve, invoke, builtin, Sem.run_bind, Sem.run_pure, Result.andThen_ok, List.map_toArray, List.map_cons, List.map_nil, hs, hx, hr]
  exact h v' w' h2 h3 h4
theorem wp_append_string {ops : Array Oper} {rest : List Oper} {o : Oper} {a : Act} {w : World} {Q : Exit → Act → World → Prop} (hgd : o.guard = none) (sl x : Operand) (t u : TypeId)
    (ho : o.op = .call { callee := .builtin .append, args := #[sl, x], argTypes := #[t, u] })
    (base : Nat) (e : TypeId) (i : TypeInfo) (ht : P.underlying t = some (.slice e)) (hu : P.underlying u = some .string) (hi : P.info? e = some i) (hz : i.zero = some (.int .u8 0))
    (hsize : i.size = 1) (hby : i.bytes = 1)
    (v : Value) (n : Nat) (xs : List Value) (hs : a.eval sl = v) (s : ByteArray) (hx : a.eval x = .string s) (hown : w.ownsRow base e 1 v n xs) (hbytes : n + s.size ≤ 140737488355328) (hbase : base ≤ w.heap.size)
    (h : ∀ v' w', w'.ownsRow base e 1 v' (n + s.size) (xs ++ strCells s) → w.grownBy w' v.ownBlock → (v'.ownBlock = v.ownBlock ∨ v'.ownBlock = some w.heap.size) → wpList P ops Q rest (a.put o.dst v') w') :
    wpList P ops Q (o :: rest) a w := wpList_plain hgd fun K hK => by
  have hw : Region.wanted o (yielded ops a.tmps) = true := by simp [Region.wanted, hgd]
  have := step_append_string (P := P) (ops := ops) (K := K) (Q := Q) (E := True) hgd sl x t u ho base e i ht hu hi hz hsize hby v n xs hs s hx hown hbytes hbase (fun v' w' a b c => hK _ _ (h v' w' a b c))
  rwa [if_pos hw] at this

/-- Only block B, the row of the slice v and new blocks have turned; the slice is now v', in the same row or a new one. -/
structure Moved (B : Nat) (v v' : Value) (w w' : World) : Prop where
  os : w'.os = w.os
  tape : w'.tape = w.tape
  output : w'.output = w.output
  size : w.heap.size ≤ w'.heap.size
  block : ∀ k, k < w.heap.size → k ≠ B → v.ownBlock ≠ some k → w'.heap[k]? = w.heap[k]?
  lies : v'.ownBlock = v.ownBlock ∨ ∃ g, v'.ownBlock = some g ∧ w.heap.size ≤ g
theorem Moved.refl (B : Nat) (v : Value) (w : World) : Moved B v v w w := ⟨rfl, rfl, rfl, Nat.le_refl _, fun _ _ _ _ => rfl, .inl rfl⟩
theorem Moved.trans {B : Nat} {v v1 v2 : Value} {w w1 w2 : World} (h : Moved B v v1 w w1) (k : Moved B v1 v2 w1 w2) : Moved B v v2 w w2 := by
  refine ⟨k.os.trans h.os, k.tape.trans h.tape, k.output.trans h.output, Nat.le_trans h.size k.size, fun i hi hB hv => ?_, ?_⟩
  · refine (k.block i (Nat.lt_of_lt_of_le hi h.size) hB (fun e => ?_)).trans (h.block i hi hB hv)
    rcases h.lies with e1 | ⟨g, e1, hg⟩
    · exact hv (e1.symm.trans e)
    · rw [e1] at e; injection e with e; omega
  · rcases k.lies with e2 | ⟨g, e2, hg⟩
    · rw [e2]; exact h.lies
    · exact .inr ⟨g, e2, Nat.le_trans h.size hg⟩
theorem Moved.of_below {B : Nat} {v : Value} {w w' : World} (h : Below w.heap.size w w') : Moved B v v w w' := ⟨h.os, h.tape, h.output, h.size, fun k hk _ _ => h.block k hk, .inl rfl⟩
theorem Moved.keep {B b : Nat} {v v' : Value} {vs : List Value} {w w' : World} (h : Moved B v v' w w') (hr : RowAt b vs w) (hne : b ≠ B) (hv : v.ownBlock ≠ some b) : RowAt b vs w' :=
  ⟨Nat.lt_of_lt_of_le hr.lt h.size, fun i u hi => (World.cell?_of_block (w := w) (a := ⟨b, i, none⟩) (h.block b hr.lt hne hv)).trans (hr.cells i u hi),
    fun i => (World.frozen?_of_block (w := w) (a := ⟨b, i, none⟩) (h.block b hr.lt hne hv)).trans (hr.free i)⟩
theorem own_ge {w : World} {base n : Nat} {e : TypeId} {v : Value} {xs : List Value} (h : w.ownsRow base e 1 v n xs) {k : Nat} (hk : v.ownBlock = some k) : base ≤ k ∧ k < w.heap.size := by
  rcases h.2 with ⟨rfl, _⟩ | ⟨g, cap, cur, rfl, hb, hg, _⟩
  · cases hk
  · simp only [Value.ownBlock, Option.some.injEq] at hk
    subst hk
    exact ⟨hb, by
      rcases Nat.lt_or_ge g w.heap.size with h1 | h1
      · exact h1
      · rw [Array.getElem?_eq_none h1] at hg; cases hg⟩
theorem Moved.below {B n : Nat} {e : TypeId} {v v' : Value} {xs : List Value} {w w' : World} (h : Moved B v v' w w') (ho : w.ownsRow (B + 1) e 1 v n xs) (hB : B ≤ w.heap.size) : Below B w w' :=
  ⟨h.os, h.tape, h.output, h.size, fun k hk => h.block k (by omega) (by omega) (fun e => by have := (own_ge ho e).1; omega)⟩
theorem Moved.grown {B : Nat} {v v' : Value} {w w' : World} (hg : w.grownBy w' v.ownBlock) (hl : v'.ownBlock = v.ownBlock ∨ v'.ownBlock = some w.heap.size) : Moved B v v' w w' :=
  ⟨hg.os, hg.tape, hg.output, hg.size, fun k hk _ hv => hg.block k hk (fun e => hv e.symm), hl.imp id fun e => ⟨_, e, Nat.le_refl _⟩⟩
theorem Moved.setB {B : Nat} {v v' : Value} {w w' : World} (h : Moved B v v' w w') (o : Nat) (u : Value) : Moved B v v' w (w'.setCell ⟨B, o, none⟩ u) :=
  ⟨h.os, h.tape, h.output, by rw [setCell_size]; exact h.size, fun k hk hB hv => by rw [Below.heap_setCell _ _ _ _ (by exact hB)]; exact h.block k hk hB hv, h.lies⟩
theorem Moved.drew {B : Nat} {v v' : Value} {w w' : World} (h : Moved B v v' w w') : Moved B v v' w w'.drew := ⟨h.os, h.tape, h.output, h.size, h.block, h.lies⟩
theorem Moved.drewN {B : Nat} {v v' : Value} {w w' : World} (h : Moved B v v' w w') (n : Nat) : Moved B v v' w (w'.drewN n) := ⟨h.os, h.tape, h.output, h.size, h.block, h.lies⟩
theorem own_setB {w : World} {B n : Nat} {e : TypeId} {v : Value} {xs : List Value} (h : w.ownsRow (B + 1) e 1 v n xs) (o : Nat) (u : Value) : (w.setCell ⟨B, o, none⟩ u).ownsRow (B + 1) e 1 v n xs := by
  refine ⟨h.1, h.2.imp id fun ⟨g, cap, cur, hv, hb, hg, r⟩ => ⟨g, cap, cur, hv, hb, ?_, r⟩⟩
  rw [Below.heap_setCell _ _ _ _ (by show g ≠ B; omega)]
  exact hg
theorem own_below {w w' : World} {B n : Nat} {e : TypeId} {v : Value} {xs : List Value} (h : w.ownsRow B e 1 v n xs) (hb : Below w.heap.size w w') : w'.ownsRow B e 1 v n xs := by
  refine ⟨h.1, ?_⟩
  rcases h.2 with hn | ⟨g, cap, cur, hv, hbb, hg, r⟩
  · exact .inl hn
  · have hlt : g < w.heap.size := by
      rcases Nat.lt_or_ge g w.heap.size with h1 | h1
      · exact h1
      · rw [Array.getElem?_eq_none h1] at hg; cases hg
    exact .inr ⟨g, cap, cur, hv, hbb, by rw [hb.block g hlt]; exact hg, r⟩
theorem own_drew {w : World} {B n : Nat} {e : TypeId} {v : Value} {xs : List Value} (h : w.ownsRow B e 1 v n xs) : w.drew.ownsRow B e 1 v n xs := h
theorem own_val {w : World} {B n : Nat} {e : TypeId} {v : Value} {xs : List Value} (h : w.ownsRow B e 1 v n xs) : ∃ so cap, v = .slice so n cap ∧ n ≤ cap := by
  rcases h.2 with ⟨rfl, h0⟩ | ⟨g, cap, cur, rfl, _, _, hn, _⟩
  · exact ⟨none, 0, by rw [h0], by omega⟩
  · exact ⟨_, cap, rfl, hn⟩
theorem grown_cellB {w w' : World} {B n : Nat} {e : TypeId} {v : Value} {xs : List Value} (hg : w.grownBy w' v.ownBlock) (ho : w.ownsRow (B + 1) e 1 v n xs) (hB : B < w.heap.size) :
    w'.cell? ⟨B, 0, none⟩ = w.cell? ⟨B, 0, none⟩ ∧ w'.frozen? ⟨B, 0, none⟩ = w.frozen? ⟨B, 0, none⟩ := by
  have hb : w'.heap[B]? = w.heap[B]? := hg.block B hB (fun e => by have := (own_ge ho e.symm).1; omega)
  exact ⟨World.cell?_of_block (w := w) (a := ⟨B, 0, none⟩) hb, World.frozen?_of_block (w := w) (a := ⟨B, 0, none⟩) hb⟩
theorem below_undrew {w w' : World} (h : Below w.drew.heap.size w.drew w') : Below w.heap.size w w' := ⟨h.os, h.tape, h.output, h.size, h.block⟩
/-- Block B holds a slice of bytes of the call's own, whose bytes are l. -/
structure BytesAt (e : TypeId) (B : Nat) (v : Value) (l : ByteArray) (w : World) : Prop where
  cell : w.cell? ⟨B, 0, none⟩ = some v
  free : w.frozen? ⟨B, 0, none⟩ = false
  own : w.ownsRow (B + 1) e 1 v l.size (strCells l)
theorem BytesAt.lt {e : TypeId} {B : Nat} {v : Value} {l : ByteArray} {w : World} (h : BytesAt e B v l w) : B < w.heap.size := World.block_lt_of_cell? w _ h.cell
theorem BytesAt.keep {e : TypeId} {B : Nat} {v : Value} {l : ByteArray} {w w' : World} (h : BytesAt e B v l w) (hb : Below w.heap.size w w') : BytesAt e B v l w' :=
  ⟨(hb.cell (p := ⟨B, 0, none⟩) h.lt).trans h.cell, (hb.frozen (p := ⟨B, 0, none⟩) h.lt).trans h.free, own_below h.own hb⟩
/-- The bytes of such a slice, at an index. -/
theorem BytesAt.val {e : TypeId} {B : Nat} {v : Value} {l : ByteArray} {w : World} (h : BytesAt e B v l w) : ∃ so cap, v = .slice so l.size cap ∧ l.size ≤ cap := by
  rcases h.own.2 with ⟨rfl, h0⟩ | ⟨g, cap, cur, rfl, _, _, hn, _⟩
  · exact ⟨none, 0, by rw [h0], by omega⟩
  · exact ⟨_, cap, rfl, hn⟩
/-- A new slice is stored in block B. -/
theorem BytesAt.stored {e : TypeId} {B : Nat} {v v' : Value} {l r : ByteArray} {w' : World} (hown : w'.ownsRow (B + 1) e 1 v' (l.size + r.size) (strCells l ++ strCells r)) (hc : w'.cell? ⟨B, 0, none⟩ = some v) (hf : w'.frozen? ⟨B, 0, none⟩ = false) :
    BytesAt e B v' (l ++ r) (w'.setCell ⟨B, 0, none⟩ v') :=
  ⟨World.cell?_setCell_same (h := hc) .., by rw [World.frozen?_setCell]; exact hf, by rw [ByteArray.size_append, strCells_append]; exact own_setB hown 0 v'⟩
/-- A quiet call in a region that draws. -/
theorem quiet_add_left {f : FuncId} {args : Array Value} {w : World} {a n : Nat} {v : Value}
    (h : Calls P f args (w.drewN (a + n)) fun e w' => e = .returned v ∧ w.drewN (a + n) = w') :
    Calls P f args (w.drewN (a + n)) fun e w'' => e = .returned v ∧ ∃ m, w'' = w.drewN (a + m) :=
  h.mono fun _ _ ⟨he, hm⟩ => ⟨he, n, hm.symm⟩
theorem quiet_left {f : FuncId} {args : Array Value} {w : World} {n : Nat} {v : Value}
    (h : Calls P f args (w.drewN n) fun e w' => e = .returned v ∧ w.drewN n = w') : Calls P f args (w.drewN n) fun e w'' => e = .returned v ∧ ∃ m, w'' = w.drewN m :=
  h.mono fun _ _ ⟨he, hm⟩ => ⟨he, n, hm.symm⟩
theorem _root_.Go.RowKit.Below.drewN {B : Nat} {a w : World} (h : Below B a w) (n : Nat) : Below B a (w.drewN n) := ⟨h.os, h.tape, h.output, h.size, h.block⟩
/-- Two texts are equal, as the walk says it. -/
theorem eqL_iff (a b : ByteArray) : (a.toList == b.toList) = true ↔ a = b := by
  rw [beq_iff_eq, ByteArray.toList_eq, ByteArray.toList_eq]
  constructor
  · intro h
    apply ByteArray.ext
    exact Array.toList_inj.1 h
  · rintro rfl; rfl
theorem eqL_yes {a b : ByteArray} (h : a = b) : (a.toList == b.toList) = true := (eqL_iff a b).2 h
theorem eqL_no {a b : ByteArray} (h : a ≠ b) : (a.toList == b.toList) = false := by
  rw [← Bool.not_eq_true, eqL_iff]; exact h
theorem neL_yes {a b : ByteArray} (h : a ≠ b) : (a.toList != b.toList) = true := by rw [bne, eqL_no h]; rfl
theorem neL_no {a b : ByteArray} (h : a = b) : (a.toList != b.toList) = false := by rw [bne, eqL_yes h]; rfl
end Go.Proofs.YtmlclccfmlcabaaDoor.rc
