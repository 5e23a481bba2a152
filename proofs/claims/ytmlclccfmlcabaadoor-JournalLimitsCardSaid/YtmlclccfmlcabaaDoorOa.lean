/- Entries as plain data: their cells in memory; loads, stores, new ones; equality. -/
import Derived.Test.YtmlclccfmlcabaaDoorKj
import Derived.DeepKeys
import Derived.Laws.StructEq
namespace Go.Proofs.YtmlclccfmlcabaaDoor.oa
open Go.ChangeShapes Go.WideShapes Go.ChangeAt Go.RowKit Go.Proofs.YtmlclccfmlcabaaDoor.cx Go.Proofs.YtmlclccfmlcabaaDoor.ra Go.Proofs.YtmlclccfmlcabaaDoor.rb Go.Proofs.YtmlclccfmlcabaaDoor.rc Go.Proofs.YtmlclccfmlcabaaDoor.da Go.Proofs.YtmlclccfmlcabaaDoor.ea Go.Proofs.YtmlclccfmlcabaaDoor.eb Go.Proofs.YtmlclccfmlcabaaDoor.ed Go.Proofs.YtmlclccfmlcabaaDoor.fb Go.Proofs.YtmlclccfmlcabaaDoor.ka Go.Proofs.YtmlclccfmlcabaaDoor.kb Go.Proofs.YtmlclccfmlcabaaDoor.kg Go.Proofs.YtmlclccfmlcabaaDoor.kj

/-- An entry. -/
structure Ent where
  lsn : Int
  kind : Int
  tx : Int
  prevTx : Int
  prevPage : Int
  ref : Int
  change : Chg
  blob : ByteArray
def Ent.vals (e : Ent) : List Value := [.int .i64 e.lsn, .int .i64 e.kind, .int .i64 e.tx, .int .i64 e.prevTx, .int .i64 e.prevPage, .int .i64 e.ref, .int .i64 e.change.page, .int .i64 e.change.slot,
  .bool e.change.before.set, .string e.change.before.data, .bool e.change.after.set, .string e.change.after.data, .string e.blob]
def Ent.arr (e : Ent) : Array Value := e.vals.toArray
theorem evals_length (e : Ent) : e.vals.length = 13 := rfl
abbrev EnAt (b : Nat) (e : Ent) (w : World) : Prop := RowAt b e.vals w
theorem EnAt.all {b : Nat} {e : Ent} {w : World} (h : EnAt b e w) : w.cell? ⟨b, 0, none⟩ = some (.int .i64 e.lsn) ∧ w.cell? ⟨b, 1, none⟩ = some (.int .i64 e.kind) ∧ w.cell? ⟨b, 2, none⟩ = some (.int .i64 e.tx) ∧
    w.cell? ⟨b, 3, none⟩ = some (.int .i64 e.prevTx) ∧ w.cell? ⟨b, 4, none⟩ = some (.int .i64 e.prevPage) ∧ w.cell? ⟨b, 5, none⟩ = some (.int .i64 e.ref) ∧ w.cell? ⟨b, 6, none⟩ = some (.int .i64 e.change.page) ∧ w.cell? ⟨b, 7, none⟩ = some (.int .i64 e.change.slot) ∧
    w.cell? ⟨b, 8, none⟩ = some (.bool e.change.before.set) ∧ w.cell? ⟨b, 9, none⟩ = some (.string e.change.before.data) ∧ w.cell? ⟨b, 10, none⟩ = some (.bool e.change.after.set) ∧ w.cell? ⟨b, 11, none⟩ = some (.string e.change.after.data) ∧ w.cell? ⟨b, 12, none⟩ = some (.string e.blob) :=
  ⟨h.cells 0 _ rfl, h.cells 1 _ rfl, h.cells 2 _ rfl, h.cells 3 _ rfl, h.cells 4 _ rfl, h.cells 5 _ rfl, h.cells 6 _ rfl, h.cells 7 _ rfl, h.cells 8 _ rfl, h.cells 9 _ rfl, h.cells 10 _ rfl, h.cells 11 _ rfl, h.cells 12 _ rfl⟩
theorem info_ent : (Tryd.prog.info? 31).map (·.size) = some 13 := by kernel_rfl
theorem info_int1 : (Tryd.prog.info? 3).map (·.size) = some 1 := by kernel_rfl
theorem info_string1 : (Tryd.prog.info? 9).map (·.size) = some 1 := by kernel_rfl
theorem evals_one (e : Ent) : e.vals.all (·.oneCell') = true := rfl
def ent0 : Ent := ⟨0, 0, 0, 0, 0, 0, chg0, ⟨#[]⟩⟩
theorem zero_ent (W : World) : (zeroValue 31).run Tryd.prog W = .ok (.agg ent0.vals.toArray) W := by kernel_rfl
theorem StoredAt.grown {b : Nat} {w W : World} (h : StoredAt b w W) : w.grownBy W (some b) := by
  obtain ⟨f, us, rfl⟩ := h
  refine ⟨?_, ?_, ?_, by rw [setCells_size]; exact Nat.le_refl _, fun k hk hne => ?_⟩
  · have : ∀ (us : List Value) (o : Nat) (w : World), (w.setCells b o us).os = w.os := by
      intro us; induction us with
      | nil => intro o w; rfl
      | cons u r ih => intro o w; rw [World.setCells, ih]; rfl
    exact this us f w
  · have : ∀ (us : List Value) (o : Nat) (w : World), (w.setCells b o us).tape = w.tape := by
      intro us; induction us with
      | nil => intro o w; rfl
      | cons u r ih => intro o w; rw [World.setCells, ih]; rfl
    exact this us f w
  · have : ∀ (us : List Value) (o : Nat) (w : World), (w.setCells b o us).output = w.output := by
      intro us; induction us with
      | nil => intro o w; rfl
      | cons u r ih => intro o w; rw [World.setCells, ih]; rfl
    exact this us f w
  · have : ∀ (us : List Value) (o : Nat) (w : World), (w.setCells b o us).heap[k]? = w.heap[k]? := by
      intro us; induction us with
      | nil => intro o w; rfl
      | cons u r ih => intro o w; rw [World.setCells, ih, Below.heap_setCell _ _ _ _ (fun e => hne (by rw [e]))]
    exact this us f w
section
variable {ops : Array Oper} {rest : List Oper} {o : Oper} {a : Act} {w : World} {Q : Exit → Act → World → Prop} {x y : Operand} {b : Nat}
theorem wp_loadEnt (e : Ent) (hp : EnAt b e w) (ho : o.op = .load 31 x)
    (hx : a.eval x = .pointer (some ⟨b, 0, none⟩)) (hgd : Region.wanted o (yielded ops a.tmps) = true) (hn : wpList Tryd.prog ops Q rest (a.put o.dst (.agg e.arr)) w) : wpList Tryd.prog ops Q (o :: rest) a w :=
  wp_load e.vals _ _ hp Tryd.underlying31 rfl info_ent (fun j v hv => by rw [Nat.zero_add]; exact hv) ho hx hgd hn
theorem chg_in (e : Ent) : ∀ j v, e.change.vals[j]? = some v → e.vals[6 + j]? = some v := fun j v hv => by
  match j, hv with
  | 0, hv => exact hv
  | 1, hv => exact hv
  | 2, hv => exact hv
  | 3, hv => exact hv
  | 4, hv => exact hv
  | 5, hv => exact hv
  | j + 6, hv => cases hv
theorem before_in (e : Ent) : ∀ j v, e.change.before.vals[j]? = some v → e.vals[8 + j]? = some v := fun j v hv => by
  match j, hv with
  | 0, hv => exact hv
  | 1, hv => exact hv
  | j + 2, hv => cases hv
theorem after_in (e : Ent) : ∀ j v, e.change.after.vals[j]? = some v → e.vals[10 + j]? = some v := fun j v hv => by
  match j, hv with
  | 0, hv => exact hv
  | 1, hv => exact hv
  | j + 2, hv => cases hv
/-- The change of an entry; its cells. -/
theorem wp_loadChg6 (e : Ent) (hp : EnAt b e w) (ho : o.op = .load 29 x)
    (hx : a.eval x = .pointer (some ⟨b, 6, none⟩)) (hgd : Region.wanted o (yielded ops a.tmps) = true) (hn : wpList Tryd.prog ops Q rest (a.put o.dst (.agg e.change.arr)) w) : wpList Tryd.prog ops Q (o :: rest) a w :=
  wp_load e.change.vals _ _ hp Tryd.underlying29 rfl info_change (chg_in e) ho hx hgd hn
theorem wp_loadBefore (e : Ent) (hp : EnAt b e w) (ho : o.op = .load 27 x)
    (hx : a.eval x = .pointer (some ⟨b, 8, none⟩)) (hgd : Region.wanted o (yielded ops a.tmps) = true) (hn : wpList Tryd.prog ops Q rest (a.put o.dst (.agg #[.bool e.change.before.set, .string e.change.before.data])) w) : wpList Tryd.prog ops Q (o :: rest) a w :=
  wp_load e.change.before.vals _ _ hp Tryd.underlying27 rfl info_cell (before_in e) ho hx hgd hn
theorem wp_loadAfter (e : Ent) (hp : EnAt b e w) (ho : o.op = .load 27 x)
    (hx : a.eval x = .pointer (some ⟨b, 10, none⟩)) (hgd : Region.wanted o (yielded ops a.tmps) = true) (hn : wpList Tryd.prog ops Q rest (a.put o.dst (.agg #[.bool e.change.after.set, .string e.change.after.data])) w) : wpList Tryd.prog ops Q (o :: rest) a w :=
  wp_load e.change.after.vals _ _ hp Tryd.underlying27 rfl info_cell (after_in e) ho hx hgd hn
theorem wp_storeEntW {vs : List Value} (e : Ent) (hr : RowAt b vs w) (hl : vs.length = 13) (ho : o.op = .store 31 x y)
    (hx : a.eval x = .pointer (some ⟨b, 0, none⟩)) (hy : a.eval y = .agg e.arr) (hgd : Region.wanted o (yielded ops a.tmps) = true) (h : ∀ W, EnAt b e W → StoredAt b w W → wpList Tryd.prog ops Q rest (a.put o.dst undef) W) : wpList Tryd.prog ops Q (o :: rest) a w := by
  have hs := RowAt.setCells e.vals 0 hr (by rw [evals_length, hl]; exact Nat.le_refl _)
  rw [splice_all _ _ (by rw [evals_length, hl])] at hs
  exact wp_store e.vals _ hr info_ent (evals_one e) (by rw [evals_length, hl]; exact Nat.le_refl _) ho hx hy hgd (h _ hs ⟨_, _, rfl⟩)
theorem wp_storeChg6W (c : Chg) (e : Ent) (hr : EnAt b e w) (ho : o.op = .store 29 x y)
    (hx : a.eval x = .pointer (some ⟨b, 6, none⟩)) (hy : a.eval y = .agg c.arr) (hgd : Region.wanted o (yielded ops a.tmps) = true) (h : ∀ W, EnAt b { e with change := c } W → StoredAt b w W → wpList Tryd.prog ops Q rest (a.put o.dst undef) W) : wpList Tryd.prog ops Q (o :: rest) a w :=
  wp_store c.vals _ hr info_change (cvals_one c) (by rw [cvals_length, evals_length]; decide) ho hx hy hgd (h _ (RowAt.setCells c.vals 6 hr (by rw [cvals_length, evals_length]; decide)) ⟨_, _, rfl⟩)
theorem wp_boxW (vs : List Value) (ty : TypeId) (ho : o.op = .box ty x) (hx : a.eval x = .agg vs.toArray)
    (hgd : Region.wanted o (yielded ops a.tmps) = true) (h : ∀ W, RowAt w.heap.size vs W → Below w.heap.size w W → w.heap.size < W.heap.size → wpList Tryd.prog ops Q rest (a.put o.dst (.pointer (some ⟨w.heap.size, 0, none⟩))) W) : wpList Tryd.prog ops Q (o :: rest) a w :=
  wp_box vs ty ho hx hgd (h _ (RowAt.new vs w ty) ((Below.refl _ _).alloc (Nat.le_refl _) _) (by simp))
theorem wp_boxEntW (e : Ent) (ho : o.op = .box 31 x) (hx : a.eval x = .agg e.arr)
    (hgd : Region.wanted o (yielded ops a.tmps) = true) (h : ∀ W, EnAt w.heap.size e W → Below w.heap.size w W → w.heap.size < W.heap.size → wpList Tryd.prog ops Q rest (a.put o.dst (.pointer (some ⟨w.heap.size, 0, none⟩))) W) : wpList Tryd.prog ops Q (o :: rest) a w :=
  wp_boxW e.vals _ ho hx hgd h
theorem wp_newW (zs : List Value) (ty : TypeId) (hz : ∀ W : World, (zeroValue ty).run Tryd.prog W = .ok (.agg zs.toArray) W) (ho : o.op = .alloc ty)
    (hgd : Region.wanted o (yielded ops a.tmps) = true) (h : ∀ W, RowAt w.heap.size zs W → Below w.heap.size w W → w.heap.size < W.heap.size → wpList Tryd.prog ops Q rest (a.put o.dst (.pointer (some ⟨w.heap.size, 0, none⟩))) W) : wpList Tryd.prog ops Q (o :: rest) a w :=
  wp_new zs _ hz ho hgd (h _ (RowAt.new zs w ty) ((Below.refl _ _).alloc (Nat.le_refl _) _) (by simp))
theorem wp_newEntW (ho : o.op = .alloc 31)
    (hgd : Region.wanted o (yielded ops a.tmps) = true) (h : ∀ W, EnAt w.heap.size ent0 W → Below w.heap.size w W → w.heap.size < W.heap.size → wpList Tryd.prog ops Q rest (a.put o.dst (.pointer (some ⟨w.heap.size, 0, none⟩))) W) : wpList Tryd.prog ops Q (o :: rest) a w :=
  wp_newW ent0.vals _ zero_ent ho hgd h
theorem op_store1 {K : Act → World → Prop} {i : Nat} (ty : TypeId) (v : Value) (hv : v.cells = #[v]) (h1 : v.oneCell' = true) (hi : (Tryd.prog.info? ty).map (·.size) = some 1) (ht : w.there b i 1) (ho : o.op = .store ty x y)
    (hx : a.eval x = .pointer (some ⟨b, i, none⟩)) (hy : a.eval y = v) (h : ∀ W, W = w.setCells b i [v] → K (a.put o.dst undef) W) : o.wp Tryd.prog a w K Q := by
  have hst := run_storeCells_cells (P := Tryd.prog) b i [v] 0 w (fun j hj => by simpa using (ht j (by simpa using hj)).1) (fun j hj => by simpa using (ht j (by simpa using hj)).2) (fun u hu => by simp at hu; rw [hu]; exact h1)
  have hk := h _ rfl
  unfold Oper.wp execOp
  cases hq : Tryd.prog.info? ty with
  | none => simp [hq] at hi
  | some inf =>
    have hs : inf.size = 1 := by simpa [hq] using hi
    have hr : (storeVar ty ⟨b, i, none⟩ v).run Tryd.prog w = .ok () (w.setCells b i [v]) := by
      simp only [Nat.add_zero] at hst
      simp [storeVar, sizeOf, typeInfo, hq, hv, hs, hst]
    simp only [ho, hx, hy, Instr.storeAt, Instr.sureAddr, Sem.run_bind, Sem.run_pure, Result.andThen_ok, hr]
    exact hk
theorem wp_store1W {i : Nat} (ty : TypeId) (v : Value) (hv : v.cells = #[v]) (h1 : v.oneCell' = true) (hi : (Tryd.prog.info? ty).map (·.size) = some 1) (ht : w.there b i 1) (ho : o.op = .store ty x y)
    (hx : a.eval x = .pointer (some ⟨b, i, none⟩)) (hy : a.eval y = v) (hgd : Region.wanted o (yielded ops a.tmps) = true) (h : ∀ W, W = w.setCells b i [v] → wpList Tryd.prog ops Q rest (a.put o.dst undef) W) : wpList Tryd.prog ops Q (o :: rest) a w :=
  wpList_step fun _ hK => by
    rw [if_pos hgd]
    exact op_store1 ty v hv h1 hi ht ho hx hy fun W hW => hK _ _ (h W hW)
/-- A part of a variable, one cell, behind a letter. -/
theorem wp_storeFieldW {i : Nat} {vs : List Value} (ty : TypeId) (v : Value) (hv : v.cells = #[v]) (h1 : v.oneCell' = true) (hi : (Tryd.prog.info? ty).map (·.size) = some 1) (hr : RowAt b vs w) (hl : i < vs.length) (ho : o.op = .store ty x y)
    (hx : a.eval x = .pointer (some ⟨b, i, none⟩)) (hy : a.eval y = v) (hgd : Region.wanted o (yielded ops a.tmps) = true) (h : ∀ W, RowAt b (vs.set i v) W → StoredAt b w W → wpList Tryd.prog ops Q rest (a.put o.dst undef) W) : wpList Tryd.prog ops Q (o :: rest) a w :=
  wp_store1W ty v hv h1 hi (hr.there i 1 (by omega)) ho hx hy hgd fun W hW => by
    subst hW
    exact h _ (RowAt.setCells [v] i hr (by simp; omega)) ⟨_, _, rfl⟩
theorem op_storeField {K : Act → World → Prop} {i : Nat} {vs : List Value} (ty : TypeId) (v : Value) (hv : v.cells = #[v]) (h1 : v.oneCell' = true) (hi : (Tryd.prog.info? ty).map (·.size) = some 1) (hr : RowAt b vs w) (hl : i < vs.length) (ho : o.op = .store ty x y)
    (hx : a.eval x = .pointer (some ⟨b, i, none⟩)) (hy : a.eval y = v) (h : ∀ W, RowAt b (vs.set i v) W → StoredAt b w W → K (a.put o.dst undef) W) : o.wp Tryd.prog a w K Q :=
  op_store1 ty v hv h1 hi (hr.there i 1 (by omega)) ho hx hy fun W hW => by
    subst hW
    exact h _ (RowAt.setCells [v] i hr (by simp; omega)) ⟨_, _, rfl⟩
theorem op_storeEnt {K : Act → World → Prop} {vs : List Value} (e : Ent) (hr : RowAt b vs w) (hl : vs.length = 13) (ho : o.op = .store 31 x y)
    (hx : a.eval x = .pointer (some ⟨b, 0, none⟩)) (hy : a.eval y = .agg e.arr) (h : ∀ W, EnAt b e W → StoredAt b w W → K (a.put o.dst undef) W) : o.wp Tryd.prog a w K Q := by
  have hs := RowAt.setCells e.vals 0 hr (by rw [evals_length, hl]; exact Nat.le_refl _)
  rw [splice_all _ _ (by rw [evals_length, hl])] at hs
  exact wp_store_mid _ x y ho b 0 e.arr hx hy (hr.there 0 13 (by rw [hl]; exact Nat.le_refl _)) info_ent (by simpa [Ent.arr] using evals_one e) (h _ hs ⟨_, _, rfl⟩)
theorem op_newEnt {K : Act → World → Prop} (ho : o.op = .alloc 31)
    (h : ∀ W, EnAt w.heap.size ent0 W → Below w.heap.size w W → w.heap.size < W.heap.size → K (a.put o.dst (.pointer (some ⟨w.heap.size, 0, none⟩))) W) : o.wp Tryd.prog a w K Q := by
  have := h _ (RowAt.new ent0.vals w 31) ((Below.refl _ _).alloc (Nat.le_refl _) _) (by simp)
  unfold Oper.wp execOp
  simp only [ho]
  simp [Instr.alloc, newVar, newRow, Value.cells]
  exact this
end
theorem build_ent0 (W : World) : (Instr.build 31 #[]).run Tryd.prog W = .ok (.agg ent0.arr) W := by kernel_rfl
theorem build_ent (a b c d e f : Int) (g : Chg) (s : ByteArray) (W : World) : (Instr.build 31 #[(0, .int .i64 a), (1, .int .i64 b), (2, .int .i64 c), (3, .int .i64 d), (4, .int .i64 e), (5, .int .i64 f), (6, .agg g.arr), (7, .string s)]).run Tryd.prog W = .ok (.agg (Ent.arr ⟨a, b, c, d, e, f, g, s⟩)) W := by kernel_rfl
theorem build_ent2 (a b : Int) (W : World) : (Instr.build 31 #[(0, .int .i64 a), (1, .int .i64 b)]).run Tryd.prog W = .ok (.agg (Ent.arr ⟨a, b, 0, 0, 0, 0, chg0, ⟨#[]⟩⟩)) W := by kernel_rfl
theorem res_ent {fn : Func} {q : Tmp} (h : fn.results = #[.cell q 31]) {tmps : Array Value} {w : World} {b : Nat} {e : Ent} (hq : tmps.getD q undef = .pointer (some ⟨b, 0, none⟩)) (hr : EnAt b e w) :
    (results fn tmps).run Tryd.prog w = .ok (.agg e.arr) w := res1 h hq hr Tryd.underlying31 rfl info_ent
theorem res_entE {fn : Func} {q r : Tmp} (h : fn.results = #[.cell q 31, .tmp r]) {tmps : Array Value} {w : World} {b : Nat} {e : Ent} (hq : tmps.getD q undef = .pointer (some ⟨b, 0, none⟩)) (hr : EnAt b e w) :
    (results fn tmps).run Tryd.prog w = .ok (.tuple #[.agg e.arr, tmps.getD r undef]) w := res2 h hq hr Tryd.underlying31 rfl info_ent
/-- Equality. -/
def sameE (x y : Ent) : Bool := x.lsn == y.lsn && (x.kind == y.kind && (x.tx == y.tx && (x.prevTx == y.prevTx && (x.prevPage == y.prevPage && (x.ref == y.ref && (sameH x.change y.change && x.blob.toList == y.blob.toList))))))
theorem str_iff {s t : ByteArray} : (s.toList == t.toList) = true ↔ s = t := by
  simp only [beq_iff_eq, ByteArray.toList_eq]
  exact ⟨fun h => ByteArray.ext (by simpa using h), fun h => by rw [h]⟩
theorem sameE_iff {x y : Ent} : sameE x y = true ↔ x = y := by
  obtain ⟨a, b, c, d, e, f, g, s⟩ := x
  obtain ⟨a', b', c', d', e', f', g', s'⟩ := y
  unfold sameE
  simp only [Bool.and_eq_true, beq_iff_eq, Ent.mk.injEq, sameH_iff]
  have h := @str_iff s s'
  rw [beq_iff_eq] at h
  rw [h]
theorem sameE_self (x : Ent) : sameE x x = true := sameE_iff.2 rfl
theorem and_step {p : Prop} [Decidable p] {b z : Bool} {r : Result Bool} {W : World} (hb : (p ↔ b = true)) (h : r = .ok z W) : (if p then r else .ok false W) = .ok (b && z) W := by
  subst h
  cases b
  · rw [if_neg (fun hp => by cases hb.1 hp)]; rfl
  · rw [if_pos (hb.2 rfl)]; rfl
theorem and_last {p : Prop} [Decidable p] {b : Bool} {W : World} (hb : (p ↔ b = true)) : (if p then Result.ok true W else .ok false W) = .ok b W := by
  cases b
  · rw [if_neg (fun hp => by cases hb.1 hp)]
  · rw [if_pos (hb.2 rfl)]
theorem ent_eqIn (x y : Ent) (W : World) : (Op.equalIn 10000 31 (.agg x.arr) (.agg y.arr)).run Tryd.prog W = .ok (sameE x y) W := by
  obtain ⟨a, b, c, d, e, f, ⟨g1, g2, ⟨g3, g4⟩, ⟨g5, g6⟩⟩, s⟩ := x
  obtain ⟨a', b', c', d', e', f', ⟨g1', g2', ⟨g3', g4'⟩, ⟨g5', g6'⟩⟩, s'⟩ := y
  unfold sameE sameH sameC
  simp only [Ent.arr, Ent.vals, Bool.and_assoc]
  go_simp
  iterate 12 refine and_step beq_iff_eq.symm ?_
  exact and_last beq_iff_eq.symm
theorem ent_eql (c d : Ent) (W : World) : (binOp .eql 31 (.agg c.arr) (.agg d.arr)).run Tryd.prog W = .ok (.bool (sameE c d)) W := by
  rw [run_eql_struct, ent_eqIn]; rfl
theorem ent_neq (c d : Ent) (W : World) : (binOp .neq 31 (.agg c.arr) (.agg d.arr)).run Tryd.prog W = .ok (.bool (!sameE c d)) W := by
  rw [run_neq_struct, ent_eqIn]; rfl
end Go.Proofs.YtmlclccfmlcabaaDoor.oa
