/- Struct and array variables as lists of cells: what lies in a block from its head on; loads, stores, new ones, results. Over any program. -/
import Derived.Test.YtmlclccfmlcabaaDoorYa
import Derived.WalkKit
import Derived.ProofKit
import Derived.Lib.Hide
import Derived.Deep.MidRow
import Derived.Deep.WholeRow
import Derived.Deep.Upon
import Derived.Laws.Rows
import Derived.Laws.AppendOwn
import Derived.Laws.OwnMore
import Derived.Deep.Draws
namespace Go.Proofs.YtmlclccfmlcabaaDoor.ra
open Go.ChangeShapes Go.WideShapes Go.ChangeAt Go.RowKit Go.Proofs.YtmlclccfmlcabaaDoor.ya
variable {P : Program}
/-- Block b holds these cells from its head on, and none of it is frozen. -/
structure RowAt (b : Nat) (vs : List Value) (w : World) : Prop where
  lt : b < w.heap.size
  cells : ∀ i v, vs[i]? = some v → w.cell? ⟨b, i, none⟩ = some v
  free : ∀ i, w.frozen? ⟨b, i, none⟩ = false
theorem RowAt.newA (c : Array Value) (w : World) (t : TypeId) : RowAt w.heap.size c.toList (w.alloc (.cells c t)) := by
  refine ⟨by simp, fun i v hi => ?_, fun i => World.frozen?_alloc_new ..⟩
  have h2 : (w.alloc (.cells c t)).heap[w.heap.size]? = some (.cells c t) := by simp [World.alloc, -World.alloc_eq]
  unfold World.cell?
  simp only [h2]
  simpa using hi
theorem RowAt.new (vs : List Value) (w : World) (t : TypeId) : RowAt w.heap.size vs (w.alloc (.cells vs.toArray t)) := RowAt.newA vs.toArray w t
theorem RowAt.below {b B : Nat} {vs : List Value} {w w' : World} (h : RowAt b vs w) (hb : Below B w w') (hB : b < B) : RowAt b vs w' :=
  ⟨Nat.lt_of_lt_of_le h.lt hb.size, fun i v hi => (hb.cell (p := ⟨b, i, none⟩) hB).trans (h.cells i v hi), fun i => (hb.frozen (p := ⟨b, i, none⟩) hB).trans (h.free i)⟩
theorem RowAt.keep {b : Nat} {vs : List Value} {w w' : World} (h : RowAt b vs w) (hb : Below w.heap.size w w') : RowAt b vs w' := h.below hb h.lt
theorem RowAt.alloc {b : Nat} {vs : List Value} {w : World} (h : RowAt b vs w) (o : Obj) : RowAt b vs (w.alloc o) := h.keep ((Below.refl _ _).alloc (Nat.le_refl _) _)
theorem RowAt.drew {b : Nat} {vs : List Value} {w : World} (h : RowAt b vs w) : RowAt b vs w.drew := ⟨h.lt, h.cells, h.free⟩
theorem RowAt.drewN {b : Nat} {vs : List Value} {w : World} (h : RowAt b vs w) (n : Nat) : RowAt b vs (w.drewN n) := ⟨h.lt, h.cells, h.free⟩
theorem RowAt.grown {b : Nat} {vs : List Value} {w w' : World} {row : Option Nat} (h : RowAt b vs w) (hg : w.grownBy w' row) (hne : row ≠ some b) : RowAt b vs w' :=
  ⟨Nat.lt_of_lt_of_le h.lt hg.size, fun i v hi => (World.cell?_of_block (w := w) (a := ⟨b, i, none⟩) (hg.block b h.lt (fun e => hne e.symm))).trans (h.cells i v hi),
    fun i => (World.frozen?_of_block (w := w) (a := ⟨b, i, none⟩) (hg.block b h.lt (fun e => hne e.symm))).trans (h.free i)⟩
theorem setCell_size (w : World) (a : Addr) (v : Value) : (w.setCell a v).heap.size = w.heap.size := by simp [World.setCell]
theorem RowAt.set {b : Nat} {vs : List Value} {w : World} (h : RowAt b vs w) (i : Nat) (hi : i < vs.length) (v : Value) : RowAt b (vs.set i v) (w.setCell ⟨b, i, none⟩ v) := by
  refine ⟨by rw [setCell_size]; exact h.lt, fun k u hk => ?_, fun k => by rw [World.frozen?_setCell]; exact h.free k⟩
  by_cases e : k = i
  · subst e
    rw [List.getElem?_set_self (by omega)] at hk
    injection hk with hk
    subst hk
    exact World.cell?_setCell_same (h := h.cells k _ (List.getElem?_eq_getElem hi)) ..
  · rw [List.getElem?_set_ne (by omega)] at hk
    rw [World.cell?_setCell_other (h := fun e' => e (by injection e' with _ e' _; exact e'.symm))]
    exact h.cells k u hk
theorem RowAt.setOther {b : Nat} {vs : List Value} {w : World} (h : RowAt b vs w) {a : Addr} (hne : a.block ≠ b) (v : Value) : RowAt b vs (w.setCell a v) :=
  ⟨by rw [setCell_size]; exact h.lt, fun k u hk => by
    rw [World.cell?_setCell_other (h := fun e' => hne (by rw [e']))]
    exact h.cells k u hk, fun k => by rw [World.frozen?_setCell]; exact h.free k⟩
theorem setCells_size (b : Nat) : ∀ (us : List Value) (o : Nat) (w : World), (w.setCells b o us).heap.size = w.heap.size
  | [], _, _ => rfl
  | u :: r, o, w => by rw [World.setCells, setCells_size b r, setCell_size]
theorem below_setCells {B : Nat} {a : World} (b : Nat) (hB : B ≤ b) : ∀ (us : List Value) (o : Nat) (w : World), Below B a w → Below B a (w.setCells b o us)
  | [], _, _, h => h
  | u :: r, o, w, h => by
    rw [World.setCells]
    exact below_setCells b hB r (o + 1) _ (h.setCell hB u)
/-- The list with some cells from place o on replaced. -/
def splice : List Value → Nat → List Value → List Value
  | vs, _, [] => vs
  | vs, o, u :: r => splice (vs.set o u) (o + 1) r
theorem splice_length : ∀ (us vs : List Value) (o : Nat), (splice vs o us).length = vs.length
  | [], _, _ => rfl
  | u :: r, vs, o => by rw [splice, splice_length r, List.length_set]
theorem RowAt.setCells {b : Nat} : ∀ (us : List Value) {vs : List Value} {w : World} (o : Nat), RowAt b vs w → o + us.length ≤ vs.length → RowAt b (splice vs o us) (w.setCells b o us)
  | [], _, _, _, h, _ => h
  | u :: r, vs, w, o, h, hl => by
    rw [splice, World.setCells]
    simp only [List.length_cons] at hl
    exact RowAt.setCells r (o + 1) (h.set o (by omega) u) (by rw [List.length_set]; omega)
theorem RowAt.setCellsOther {b b' : Nat} (hne : b' ≠ b) : ∀ (us : List Value) {vs : List Value} {w : World} (o : Nat), RowAt b vs w → RowAt b vs (w.setCells b' o us)
  | [], _, _, _, h => h
  | u :: r, vs, w, o, h => by
    rw [World.setCells]
    exact RowAt.setCellsOther hne r (o + 1) (h.setOther hne u)
theorem splice_get_out : ∀ (us vs : List Value) (o i : Nat), i < o ∨ o + us.length ≤ i → (splice vs o us)[i]? = vs[i]?
  | [], _, _, _, _ => rfl
  | u :: r, vs, o, i, h => by
    simp only [List.length_cons] at h
    rw [splice, splice_get_out r _ (o + 1) i (by omega), List.getElem?_set_ne (by omega)]
theorem splice_get_in : ∀ (us vs : List Value) (o i : Nat), i < us.length → o + us.length ≤ vs.length → (splice vs o us)[o + i]? = us[i]?
  | u :: r, vs, o, 0, _, hl => by
    simp only [List.length_cons] at hl
    rw [splice]
    show (splice (vs.set o u) (o + 1) r)[o]? = some u
    rw [splice_get_out r _ (o + 1) o (by omega), List.getElem?_set_self (by omega)]
  | u :: r, vs, o, i + 1, hi, hl => by
    simp only [List.length_cons] at hi hl
    rw [splice, show o + (i + 1) = o + 1 + i from by omega, splice_get_in r _ (o + 1) i (by omega) (by rw [List.length_set]; omega)]; rfl
theorem splice_all (us vs : List Value) (h : us.length = vs.length) : splice vs 0 us = us := by
  apply List.ext_getElem?
  intro i
  by_cases hi : i < us.length
  · have := splice_get_in us vs 0 i hi (by omega)
    rwa [Nat.zero_add] at this
  · rw [List.getElem?_eq_none (by rw [splice_length]; omega), List.getElem?_eq_none (by omega)]

theorem RowAt.there {b : Nat} {vs : List Value} {w : World} (h : RowAt b vs w) (o n : Nat) (ho : o + n ≤ vs.length) : w.there b o n := fun j hj =>
  ⟨by rw [h.cells (o + j) _ (List.getElem?_eq_getElem (by omega))]; rfl, h.free _⟩
theorem RowAt.range {b : Nat} {vs us : List Value} {w : World} (h : RowAt b vs w) (o : Nat) (hu : ∀ j v, us[j]? = some v → vs[o + j]? = some v) : w.rangeAt b o us := fun j v hv => h.cells (o + j) v (hu j v hv)

/-- A load of several cells, guarded or not. -/
theorem wp_load {ops : Array Oper} {rest : List Oper} {o : Oper} {a : Act} {w : World} {Q : Exit → Act → World → Prop} {x : Operand} {b f : Nat} {vs : List Value} (us : List Value) (ty : TypeId) (d : TypeDesc) (h : RowAt b vs w)
    (hu : P.underlying ty = some d) (hd : d.isRow = true) (hi : (P.info? ty).map (·.size) = some us.length) (hp : ∀ j v, us[j]? = some v → vs[f + j]? = some v) (ho : o.op = .load ty x)
    (hx : a.eval x = .pointer (some ⟨b, f, none⟩)) (hgd : Region.wanted o (yielded ops a.tmps) = true) (hn : wpList P ops Q rest (a.put o.dst (.agg us.toArray)) w) : wpList P ops Q (o :: rest) a w :=
  wpList_step fun _ hK => by
    rw [if_pos hgd]
    exact wp_load_mid ty x ho b f hx us d (h.range f hp) hu hd hi (hK _ _ hn)
/-- A store of several cells. -/
theorem wp_store {ops : Array Oper} {rest : List Oper} {o : Oper} {a : Act} {w : World} {Q : Exit → Act → World → Prop} {x y : Operand} {b f : Nat} {vs : List Value} (us : List Value) (ty : TypeId) (h : RowAt b vs w)
    (hi : (P.info? ty).map (·.size) = some us.length) (h1 : us.all (·.oneCell') = true) (hl : f + us.length ≤ vs.length) (ho : o.op = .store ty x y)
    (hx : a.eval x = .pointer (some ⟨b, f, none⟩)) (hy : a.eval y = .agg us.toArray) (hgd : Region.wanted o (yielded ops a.tmps) = true) (hn : wpList P ops Q rest (a.put o.dst undef) (w.setCells b f us)) : wpList P ops Q (o :: rest) a w :=
  wpList_step fun _ hK => by
    rw [if_pos hgd]
    refine wp_store_mid ty x y ho b f us.toArray hx hy (h.there f _ (by simpa using hl)) (by simpa using hi) (by simpa using h1) (hK _ _ ?_)
    simpa using hn
/-- A new variable of several cells, each zero. -/
theorem wp_new {ops : Array Oper} {rest : List Oper} {o : Oper} {a : Act} {w : World} {Q : Exit → Act → World → Prop} (zs : List Value) (ty : TypeId) (hz : ∀ W : World, (zeroValue ty).run P W = .ok (.agg zs.toArray) W) (ho : o.op = .alloc ty)
    (hgd : Region.wanted o (yielded ops a.tmps) = true) (hn : wpList P ops Q rest (a.put o.dst (.pointer (some ⟨w.heap.size, 0, none⟩))) (w.alloc (.cells zs.toArray ty))) : wpList P ops Q (o :: rest) a w :=
  wpList_step fun _ hK => by
    rw [if_pos hgd]
    unfold Oper.wp execOp
    simp only [ho]
    simp [Instr.alloc, hz, newVar, newRow, Value.cells]
    exact hK _ _ hn
/-- One result, a variable of several cells; and such a one with a plain one beside it. -/
theorem res1 {fn : Func} {p : Tmp} {ty : TypeId} (h : fn.results = #[.cell p ty]) {tmps : Array Value} {w : World} {b : Nat} {vs : List Value} {d : TypeDesc} (hp : tmps.getD p undef = .pointer (some ⟨b, 0, none⟩)) (hr : RowAt b vs w)
    (hu : P.underlying ty = some d) (hd : d.isRow = true) (hi : (P.info? ty).map (·.size) = some vs.length) : (results fn tmps).run P w = .ok (.agg vs.toArray) w := by
  have hp' : tmps[p]?.getD undef = .pointer (some ⟨b, 0, none⟩) := by simpa using hp
  simp [results, h, hp', asAddr, run_loadVar_mid w b 0 ty vs d (hr.range 0 (fun j v hv => by rw [Nat.zero_add]; exact hv)) hu hd hi]
theorem res2 {fn : Func} {p q : Tmp} {ty : TypeId} (h : fn.results = #[.cell p ty, .tmp q]) {tmps : Array Value} {w : World} {b : Nat} {vs : List Value} {d : TypeDesc} (hp : tmps.getD p undef = .pointer (some ⟨b, 0, none⟩)) (hr : RowAt b vs w)
    (hu : P.underlying ty = some d) (hd : d.isRow = true) (hi : (P.info? ty).map (·.size) = some vs.length) : (results fn tmps).run P w = .ok (.tuple #[.agg vs.toArray, tmps.getD q undef]) w := by
  have hp' : tmps[p]?.getD undef = .pointer (some ⟨b, 0, none⟩) := by simpa using hp
  simp [results, h, hp', asAddr, run_loadVar_mid w b 0 ty vs d (hr.range 0 (fun j v hv => by rw [Nat.zero_add]; exact hv)) hu hd hi]
end Go.Proofs.YtmlclccfmlcabaaDoor.ra
