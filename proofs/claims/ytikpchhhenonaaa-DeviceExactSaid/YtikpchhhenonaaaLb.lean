/- Devices and faults as plain data: their cells in memory; loads, stores, new ones; what the chapter asks. -/
import Derived.Test.YtikpchhhenonaaaLa
import Derived.Laws.StructEq
namespace Go.Proofs.Ytikpchhhenonaaa.lb
open Go.ChangeShapes Go.WideShapes Go.ChangeAt Go.RowKit Go.Proofs.Ytikpchhhenonaaa.cx Go.Proofs.Ytikpchhhenonaaa.ra Go.Proofs.Ytikpchhhenonaaa.la

structure Flt where
  kind : Int
  at' : Int
  page : Int
  target : Int
  byte : Int
  mask : Int
def Flt.vals (f : Flt) : List Value := [.int .i64 f.kind, .int .i64 f.at', .int .i64 f.page, .int .i64 f.target, .int .i64 f.byte, .int .u8 f.mask]
def Flt.arr (f : Flt) : Array Value := f.vals.toArray
structure Dev where
  pages : List ByteArray
  writes : Int
  unr : List Int
  dead : Bool
  faults : List Flt
def strL (l : List ByteArray) : List Value := l.map Value.string
def intL (l : List Int) : List Value := l.map (Value.int .i64)
def fltL (l : List Flt) : List Value := l.flatMap Flt.vals
theorem strL_length (l : List ByteArray) : (strL l).length = l.length * 1 := by simp [strL]
theorem intL_length (l : List Int) : (intL l).length = l.length * 1 := by simp [intL]
theorem fvals_length (f : Flt) : f.vals.length = 6 := rfl
theorem fltL_length : ∀ l : List Flt, (fltL l).length = l.length * 6
  | [] => rfl
  | c :: r => by
    have h := fltL_length r
    show (c.vals ++ fltL r).length = (r.length + 1) * 6
    rw [List.length_append, fvals_length, h]
    omega
theorem fltL_append (a b : List Flt) : fltL (a ++ b) = fltL a ++ fltL b := List.flatMap_append
theorem app_left {a : List Value} (b : List Value) {t : Nat} {v : Value} (h : a[t]? = some v) : (a ++ b)[t]? = some v := by
  rw [List.getElem?_append_left]
  · exact h
  · rcases Nat.lt_or_ge t a.length with h1 | h1
    · exact h1
    · rw [List.getElem?_eq_none h1] at h; cases h
theorem app_right {a : List Value} (b : List Value) {n t : Nat} (hn : a.length = n) : (a ++ b)[n + t]? = b[t]? := by
  subst hn
  rw [List.getElem?_append_right (by omega), Nat.add_sub_cancel_left]
theorem fltL_at : ∀ (cs : List Flt) (j : Nat) (c : Flt) (t : Nat) (v : Value), cs[j]? = some c → c.vals[t]? = some v → (fltL cs)[j * 6 + t]? = some v
  | [], j, c, t, v, h, _ => by simp at h
  | d :: r, 0, c, t, v, h, hv => by
    obtain rfl : d = c := by simpa using h
    show (d.vals ++ fltL r)[0 * 6 + t]? = some v
    rw [show 0 * 6 + t = t by omega]
    exact app_left _ hv
  | d :: r, j + 1, c, t, v, h, hv => by
    show (d.vals ++ fltL r)[(j + 1) * 6 + t]? = some v
    rw [show (j + 1) * 6 + t = 6 + (j * 6 + t) by omega, app_right _ (fvals_length d)]
    exact fltL_at r j c t v (by simpa using h) hv
theorem strL_one (l : List ByteArray) : ∀ u ∈ strL l, u.oneCell' = true := fun u hu => by
  obtain ⟨x, _, rfl⟩ := List.mem_map.1 hu; rfl
theorem intL_one (l : List Int) : ∀ u ∈ intL l, u.oneCell' = true := fun u hu => by
  obtain ⟨x, _, rfl⟩ := List.mem_map.1 hu; rfl
theorem fvals_one (f : Flt) : f.vals.all (·.oneCell') = true := rfl
theorem fltL_one (l : List Flt) : ∀ u ∈ fltL l, u.oneCell' = true := fun u hu => by
  obtain ⟨x, _, hx⟩ := List.mem_flatMap.1 hu
  exact List.all_eq_true.1 (fvals_one x) u hx
/-- The cells of a device, given its three lists as values. -/
def dvals (vp : Value) (n : Int) (vu : Value) (b : Bool) (vf : Value) : List Value := [vp, .int .i64 n, vu, .bool b, vf]
theorem dvals_length (vp : Value) (n : Int) (vu : Value) (b : Bool) (vf : Value) : (dvals vp n vu b vf).length = 5 := rfl
theorem _root_.Go.Proofs.Ytikpchhhenonaaa.ra.RowAt.all5 {b : Nat} {vp vu vf : Value} {n : Int} {d : Bool} {w : World} (h : RowAt b (dvals vp n vu d vf) w) : w.cell? ⟨b, 0, none⟩ = some vp ∧ w.cell? ⟨b, 1, none⟩ = some (.int .i64 n) ∧ w.cell? ⟨b, 2, none⟩ = some vu ∧
    w.cell? ⟨b, 3, none⟩ = some (.bool d) ∧ w.cell? ⟨b, 4, none⟩ = some vf :=
  ⟨h.cells 0 _ rfl, h.cells 1 _ rfl, h.cells 2 _ rfl, h.cells 3 _ rfl, h.cells 4 _ rfl⟩
theorem _root_.Go.Proofs.Ytikpchhhenonaaa.ra.RowAt.all6 {b : Nat} {f : Flt} {w : World} (h : RowAt b f.vals w) : w.cell? ⟨b, 0, none⟩ = some (.int .i64 f.kind) ∧ w.cell? ⟨b, 1, none⟩ = some (.int .i64 f.at') ∧ w.cell? ⟨b, 2, none⟩ = some (.int .i64 f.page) ∧
    w.cell? ⟨b, 3, none⟩ = some (.int .i64 f.target) ∧ w.cell? ⟨b, 4, none⟩ = some (.int .i64 f.byte) ∧ w.cell? ⟨b, 5, none⟩ = some (.int .u8 f.mask) :=
  ⟨h.cells 0 _ rfl, h.cells 1 _ rfl, h.cells 2 _ rfl, h.cells 3 _ rfl, h.cells 4 _ rfl, h.cells 5 _ rfl⟩
theorem info_dev : (Try.prog.info? 27).map (·.size) = some 5 := by kernel_rfl
theorem info_flt : (Try.prog.info? 29).map (·.size) = some 6 := by kernel_rfl
/-- A device value: a slice of slices and numbers. -/
def One (v : Value) : Prop := v.oneCell' = true
theorem one_slice (so : Option Addr) (n c : Nat) : One (.slice so n c) := rfl
theorem dvals_one {vp vu vf : Value} (n : Int) (b : Bool) (hp : One vp) (hu : One vu) (hf : One vf) : (dvals vp n vu b vf).all (·.oneCell') = true := by
  show (vp.oneCell' && (true && (vu.oneCell' && (true && (vf.oneCell' && true))))) = true
  simp only [One] at hp hu hf
  rw [hp, hu, hf]; rfl
section
variable {ops : Array Oper} {rest : List Oper} {o : Oper} {a : Act} {w : World} {Q : Exit → Act → World → Prop} {x y : Operand} {b : Nat}
theorem wp_loadDev (vp : Value) (n : Int) (vu : Value) (d : Bool) (vf : Value) (hp : RowAt b (dvals vp n vu d vf) w) (ho : o.op = .load 27 x)
    (hx : a.eval x = .pointer (some ⟨b, 0, none⟩)) (hgd : Region.wanted o (yielded ops a.tmps) = true) (hn : wpList Try.prog ops Q rest (a.put o.dst (.agg (dvals vp n vu d vf).toArray)) w) : wpList Try.prog ops Q (o :: rest) a w :=
  wp_load (dvals vp n vu d vf) _ _ hp Try.underlying27 rfl info_dev (fun j v hv => by rw [Nat.zero_add]; exact hv) ho hx hgd hn
theorem wp_loadFlt (f : Flt) (hp : RowAt b f.vals w) (ho : o.op = .load 29 x)
    (hx : a.eval x = .pointer (some ⟨b, 0, none⟩)) (hgd : Region.wanted o (yielded ops a.tmps) = true) (hn : wpList Try.prog ops Q rest (a.put o.dst (.agg f.arr)) w) : wpList Try.prog ops Q (o :: rest) a w :=
  wp_load f.vals _ _ hp Try.underlying29 rfl info_flt (fun j v hv => by rw [Nat.zero_add]; exact hv) ho hx hgd hn
theorem run_rowList (vs : List Value) (ty : TypeId) (d : TypeDesc) (off : Nat) (h : ∀ i u, vs[i]? = some u → w.cell? ⟨b, off + i, none⟩ = some u) (hu : Try.prog.underlying ty = some d) (hd : d.isRow = true) (hi : (Try.prog.info? ty).map (·.size) = some vs.length) (ho : o.op = .load ty x)
    (hx : a.eval x = .pointer (some ⟨b, off, none⟩)) (hgd : Region.wanted o (yielded ops a.tmps) = true) (hn : wpList Try.prog ops Q rest (a.put o.dst (.agg vs.toArray)) w) : wpList Try.prog ops Q (o :: rest) a w :=
  wpList_step fun _ hK => by
    rw [if_pos hgd]
    exact wp_load_mid ty x ho b off hx vs d (fun j v hv => h j v hv) hu hd hi (hK _ _ hn)
theorem wp_loadFltAt (f : Flt) (off : Nat) (h : ∀ i u, f.vals[i]? = some u → w.cell? ⟨b, off + i, none⟩ = some u) (ho : o.op = .load 29 x)
    (hx : a.eval x = .pointer (some ⟨b, off, none⟩)) (hgd : Region.wanted o (yielded ops a.tmps) = true) (hn : wpList Try.prog ops Q rest (a.put o.dst (.agg f.arr)) w) : wpList Try.prog ops Q (o :: rest) a w :=
  run_rowList f.vals _ _ off h Try.underlying29 rfl info_flt ho hx hgd hn
theorem wp_storeDevW {vs : List Value} (vp : Value) (n : Int) (vu : Value) (d : Bool) (vf : Value) (hp : One vp) (hu : One vu) (hf : One vf) (hr : RowAt b vs w) (hl : vs.length = 5) (ho : o.op = .store 27 x y)
    (hx : a.eval x = .pointer (some ⟨b, 0, none⟩)) (hy : a.eval y = .agg (dvals vp n vu d vf).toArray) (hgd : Region.wanted o (yielded ops a.tmps) = true)
    (h : ∀ W, RowAt b (dvals vp n vu d vf) W → StoredAt b w W → wpList Try.prog ops Q rest (a.put o.dst undef) W) : wpList Try.prog ops Q (o :: rest) a w := by
  have hs := RowAt.setCells (dvals vp n vu d vf) 0 hr (by rw [dvals_length, hl]; exact Nat.le_refl _)
  rw [splice_all _ _ (by rw [dvals_length, hl])] at hs
  exact wp_store _ _ hr info_dev (dvals_one n d hp hu hf) (by rw [dvals_length, hl]; exact Nat.le_refl _) ho hx hy hgd (h _ hs ⟨_, _, rfl⟩)
theorem wp_storeFltW {vs : List Value} (f : Flt) (hr : RowAt b vs w) (hl : vs.length = 6) (ho : o.op = .store 29 x y)
    (hx : a.eval x = .pointer (some ⟨b, 0, none⟩)) (hy : a.eval y = .agg f.arr) (hgd : Region.wanted o (yielded ops a.tmps) = true)
    (h : ∀ W, RowAt b f.vals W → StoredAt b w W → wpList Try.prog ops Q rest (a.put o.dst undef) W) : wpList Try.prog ops Q (o :: rest) a w := by
  have hs := RowAt.setCells f.vals 0 hr (by rw [fvals_length, hl]; exact Nat.le_refl _)
  rw [splice_all _ _ (by rw [fvals_length, hl])] at hs
  exact wp_store f.vals _ hr info_flt (fvals_one f) (by rw [fvals_length, hl]; exact Nat.le_refl _) ho hx hy hgd (h _ hs ⟨_, _, rfl⟩)
/-- A part of a variable, one cell. -/
theorem _root_.Go.Proofs.Ytikpchhhenonaaa.ra.RowAt.setAt {vs : List Value} (h : RowAt b vs w) (i : Nat) (hi : i < vs.length) (v : Value) : RowAt b (vs.set i v) (w.setCell ⟨b, i, none⟩ v) ∧ StoredAt b w (w.setCell ⟨b, i, none⟩ v) :=
  ⟨h.set i hi v, i, [v], rfl⟩
theorem wp_boxW (vs : List Value) (ty : TypeId) (ho : o.op = .box ty x) (hx : a.eval x = .agg vs.toArray)
    (hgd : Region.wanted o (yielded ops a.tmps) = true) (h : ∀ W, RowAt w.heap.size vs W → Below w.heap.size w W → w.heap.size < W.heap.size → wpList Try.prog ops Q rest (a.put o.dst (.pointer (some ⟨w.heap.size, 0, none⟩))) W) : wpList Try.prog ops Q (o :: rest) a w :=
  wpList_step fun _ hK => by
    rw [if_pos hgd]
    have hn := h _ (RowAt.new vs w ty) ((Below.refl _ _).alloc (Nat.le_refl _) _) (by simp)
    unfold Oper.wp execOp
    simp only [ho]
    simp [Instr.box, hx, newVar, newRow, Value.cells]
    exact hK _ _ hn
theorem op_store1 {K : Act → World → Prop} {i : Nat} (ty : TypeId) (v : Value) (hv : v.cells = #[v]) (h1 : v.oneCell' = true) (hi : (Try.prog.info? ty).map (·.size) = some 1) (ht : w.there b i 1) (ho : o.op = .store ty x y)
    (hx : a.eval x = .pointer (some ⟨b, i, none⟩)) (hy : a.eval y = v) (h : ∀ W, W = w.setCells b i [v] → K (a.put o.dst undef) W) : o.wp Try.prog a w K Q := by
  have hst := run_storeCells_cells (P := Try.prog) b i [v] 0 w (fun j hj => by simpa using (ht j (by simpa using hj)).1) (fun j hj => by simpa using (ht j (by simpa using hj)).2) (fun u hu => by simp at hu; rw [hu]; exact h1)
  have hk := h _ rfl
  unfold Oper.wp execOp
  cases hq : Try.prog.info? ty with
  | none => simp [hq] at hi
  | some inf =>
    have hs : inf.size = 1 := by simpa [hq] using hi
    have hr : (storeVar ty ⟨b, i, none⟩ v).run Try.prog w = .ok () (w.setCells b i [v]) := by
      simp only [Nat.add_zero] at hst
      simp [storeVar, sizeOf, typeInfo, hq, hv, hs, hst]
    simp only [ho, hx, hy, Instr.storeAt, Instr.sureAddr, Sem.run_bind, Sem.run_pure, Result.andThen_ok, hr]
    exact hk
theorem wp_store1W {i : Nat} (ty : TypeId) (v : Value) (hv : v.cells = #[v]) (h1 : v.oneCell' = true) (hi : (Try.prog.info? ty).map (·.size) = some 1) (ht : w.there b i 1) (ho : o.op = .store ty x y)
    (hx : a.eval x = .pointer (some ⟨b, i, none⟩)) (hy : a.eval y = v) (hgd : Region.wanted o (yielded ops a.tmps) = true) (h : ∀ W, W = w.setCells b i [v] → wpList Try.prog ops Q rest (a.put o.dst undef) W) : wpList Try.prog ops Q (o :: rest) a w :=
  wpList_step fun _ hK => by
    rw [if_pos hgd]
    exact op_store1 ty v hv h1 hi ht ho hx hy fun W hW => hK _ _ (h W hW)
/-- A part of a variable, one cell, behind a letter. -/
theorem wp_storeFieldW {i : Nat} {vs : List Value} (ty : TypeId) (v : Value) (hv : v.cells = #[v]) (h1 : v.oneCell' = true) (hi : (Try.prog.info? ty).map (·.size) = some 1) (hr : RowAt b vs w) (hl : i < vs.length) (ho : o.op = .store ty x y)
    (hx : a.eval x = .pointer (some ⟨b, i, none⟩)) (hy : a.eval y = v) (hgd : Region.wanted o (yielded ops a.tmps) = true) (h : ∀ W, RowAt b (vs.set i v) W → StoredAt b w W → wpList Try.prog ops Q rest (a.put o.dst undef) W) : wpList Try.prog ops Q (o :: rest) a w :=
  wp_store1W ty v hv h1 hi (hr.there i 1 (by omega)) ho hx hy hgd fun W hW => by
    subst hW
    exact h _ (RowAt.setCells [v] i hr (by simp; omega)) ⟨_, _, rfl⟩
theorem op_storeField {K : Act → World → Prop} {i : Nat} {vs : List Value} (ty : TypeId) (v : Value) (hv : v.cells = #[v]) (h1 : v.oneCell' = true) (hi : (Try.prog.info? ty).map (·.size) = some 1) (hr : RowAt b vs w) (hl : i < vs.length) (ho : o.op = .store ty x y)
    (hx : a.eval x = .pointer (some ⟨b, i, none⟩)) (hy : a.eval y = v) (h : ∀ W, RowAt b (vs.set i v) W → StoredAt b w W → K (a.put o.dst undef) W) : o.wp Try.prog a w K Q :=
  op_store1 ty v hv h1 hi (hr.there i 1 (by omega)) ho hx hy fun W hW => by
    subst hW
    exact h _ (RowAt.setCells [v] i hr (by simp; omega)) ⟨_, _, rfl⟩
theorem wp_box1W (v : Value) (ty : TypeId) (hv : v.cells = #[v]) (ho : o.op = .box ty x) (hx : a.eval x = v)
    (hgd : Region.wanted o (yielded ops a.tmps) = true) (h : ∀ W, RowAt w.heap.size [v] W → Below w.heap.size w W → w.heap.size < W.heap.size → wpList Try.prog ops Q rest (a.put o.dst (.pointer (some ⟨w.heap.size, 0, none⟩))) W) : wpList Try.prog ops Q (o :: rest) a w :=
  wpList_step fun _ hK => by
    rw [if_pos hgd]
    have hn := h _ (RowAt.new [v] w ty) ((Below.refl _ _).alloc (Nat.le_refl _) _) (by simp)
    unfold Oper.wp execOp
    simp only [ho]
    simp [Instr.box, hx, newVar, newRow, hv]
    exact hK _ _ hn
theorem info_int1 : (Try.prog.info? 3).map (·.size) = some 1 := by kernel_rfl
theorem info_bool1 : (Try.prog.info? 4).map (·.size) = some 1 := by kernel_rfl
theorem info_u81 : (Try.prog.info? 5).map (·.size) = some 1 := by kernel_rfl
theorem info_string1 : (Try.prog.info? 9).map (·.size) = some 1 := by kernel_rfl
theorem info_ints1 : (Try.prog.info? 24).map (·.size) = some 1 := by kernel_rfl
theorem info_strings1 : (Try.prog.info? 23).map (·.size) = some 1 := by kernel_rfl
theorem info_flts1 : (Try.prog.info? 25).map (·.size) = some 1 := by kernel_rfl
def nil3 : Value := .slice none 0 0
def dev0 : List Value := dvals nil3 0 nil3 false nil3
def flt0 : Flt := ⟨0, 0, 0, 0, 0, 0⟩
theorem zero_dev (W : World) : (zeroValue 27).run Try.prog W = .ok (.agg dev0.toArray) W := by kernel_rfl
theorem zero_flt (W : World) : (zeroValue 29).run Try.prog W = .ok (.agg flt0.vals.toArray) W := by kernel_rfl
theorem wp_newW (zs : List Value) (ty : TypeId) (hz : ∀ W : World, (zeroValue ty).run Try.prog W = .ok (.agg zs.toArray) W) (ho : o.op = .alloc ty)
    (hgd : Region.wanted o (yielded ops a.tmps) = true) (h : ∀ W, RowAt w.heap.size zs W → Below w.heap.size w W → w.heap.size < W.heap.size → wpList Try.prog ops Q rest (a.put o.dst (.pointer (some ⟨w.heap.size, 0, none⟩))) W) : wpList Try.prog ops Q (o :: rest) a w :=
  wp_new zs _ hz ho hgd (h _ (RowAt.new zs w ty) ((Below.refl _ _).alloc (Nat.le_refl _) _) (by simp))
end
theorem build_dev0 (W : World) : (Instr.build 27 #[]).run Try.prog W = .ok (.agg dev0.toArray) W := by kernel_rfl
theorem build_devP (so : Option Addr) (n c : Nat) (W : World) : (Instr.build 27 #[(0, .slice so n c)]).run Try.prog W = .ok (.agg (dvals (.slice so n c) 0 nil3 false nil3).toArray) W := by kernel_rfl
theorem res_dev {fn : Func} {q : Tmp} (h : fn.results = #[.cell q 27]) {tmps : Array Value} {w : World} {b : Nat} {vs : List Value} (hq : tmps.getD q undef = .pointer (some ⟨b, 0, none⟩)) (hr : RowAt b vs w) (hl : vs.length = 5) :
    (results fn tmps).run Try.prog w = .ok (.agg vs.toArray) w := res1 h hq hr Try.underlying27 rfl (by rw [hl]; exact info_dev)
theorem res_devE {fn : Func} {q r : Tmp} (h : fn.results = #[.cell q 27, .tmp r]) {tmps : Array Value} {w : World} {b : Nat} {vs : List Value} (hq : tmps.getD q undef = .pointer (some ⟨b, 0, none⟩)) (hr : RowAt b vs w) (hl : vs.length = 5) :
    (results fn tmps).run Try.prog w = .ok (.tuple #[.agg vs.toArray, tmps.getD r undef]) w := res2 h hq hr Try.underlying27 rfl (by rw [hl]; exact info_dev)
theorem res_flt {fn : Func} {q : Tmp} (h : fn.results = #[.cell q 29]) {tmps : Array Value} {w : World} {b : Nat} {f : Flt} (hq : tmps.getD q undef = .pointer (some ⟨b, 0, none⟩)) (hr : RowAt b f.vals w) :
    (results fn tmps).run Try.prog w = .ok (.agg f.arr) w := res1 h hq hr Try.underlying29 rfl info_flt
/-- Equality of faults. -/
def sameF (f g : Flt) : Bool := f.kind == g.kind && (f.at' == g.at' && (f.page == g.page && (f.target == g.target && (f.byte == g.byte && f.mask == g.mask))))
theorem sameF_iff {f g : Flt} : sameF f g = true ↔ f = g := by
  obtain ⟨a, b, c, d, e, m⟩ := f
  obtain ⟨a', b', c', d', e', m'⟩ := g
  unfold sameF
  simp only [Bool.and_eq_true, beq_iff_eq, Flt.mk.injEq]
theorem flt_eqIn (f g : Flt) (W : World) : (Op.equalIn 10000 29 (.agg f.arr) (.agg g.arr)).run Try.prog W = .ok (sameF f g) W := by
  obtain ⟨a, b, c, d, e, m⟩ := f
  obtain ⟨a', b', c', d', e', m'⟩ := g
  unfold sameF
  simp only [Flt.arr, Flt.vals]
  go_simp
  (repeat' split) <;> simp_all
theorem flt_eql (c d : Flt) (W : World) : (binOp .eql 29 (.agg c.arr) (.agg d.arr)).run Try.prog W = .ok (.bool (sameF c d)) W := by
  rw [run_eql_struct, flt_eqIn]; rfl
theorem flt_neq (c d : Flt) (W : World) : (binOp .neq 29 (.agg c.arr) (.agg d.arr)).run Try.prog W = .ok (.bool (!sameF c d)) W := by
  rw [run_neq_struct, flt_eqIn]; rfl
/-- A device value whose lists can be read. -/
def DevV (vs : List Value) (d : Dev) (w : World) : Prop := ∃ vp vu vf, vs = dvals vp d.writes vu d.dead vf ∧ Sl vp 1 d.pages.length (strL d.pages) w ∧ Sl vu 1 d.unr.length (intL d.unr) w ∧ Sl vf 6 d.faults.length (fltL d.faults) w
def noDev : Dev := ⟨[], 0, [], false, []⟩
theorem DevV.keep {vs : List Value} {d : Dev} {w w' : World} (h : DevV vs d w) (hb : Below w.heap.size w w') : DevV vs d w' := by
  obtain ⟨vp, vu, vf, h1, h2, h3, h4⟩ := h
  exact ⟨vp, vu, vf, h1, h2.keep hb, h3.keep hb, h4.keep hb⟩
theorem devV0 (w : World) : DevV dev0 noDev w := ⟨nil3, nil3, nil3, rfl, Sl.nil 1 w, Sl.nil 1 w, Sl.nil 6 w⟩
theorem DevV.length {vs : List Value} {d : Dev} {w : World} (h : DevV vs d w) : vs.length = 5 := by
  obtain ⟨vp, vu, vf, rfl, _⟩ := h; rfl
end Go.Proofs.Ytikpchhhenonaaa.lb
