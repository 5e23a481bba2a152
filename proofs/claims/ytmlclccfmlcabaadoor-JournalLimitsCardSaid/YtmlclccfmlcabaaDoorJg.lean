/- Steps of a walk over live variables (St), whatever their types are. -/
import Derived.Test.YtmlclccfmlcabaaDoorOs
import Derived.Laws.AppendOwn
namespace Go.Proofs.YtmlclccfmlcabaaDoor.jg
open Go.ChangeShapes Go.WideShapes Go.ChangeAt Go.RowKit Go.Proofs.YtmlclccfmlcabaaDoor.cx Go.Proofs.YtmlclccfmlcabaaDoor.ra Go.Proofs.YtmlclccfmlcabaaDoor.rb Go.Proofs.YtmlclccfmlcabaaDoor.rc Go.Proofs.YtmlclccfmlcabaaDoor.da Go.Proofs.YtmlclccfmlcabaaDoor.ea Go.Proofs.YtmlclccfmlcabaaDoor.eb Go.Proofs.YtmlclccfmlcabaaDoor.ed Go.Proofs.YtmlclccfmlcabaaDoor.fb Go.Proofs.YtmlclccfmlcabaaDoor.ka Go.Proofs.YtmlclccfmlcabaaDoor.kb Go.Proofs.YtmlclccfmlcabaaDoor.kg Go.Proofs.YtmlclccfmlcabaaDoor.kj Go.Proofs.YtmlclccfmlcabaaDoor.oa Go.Proofs.YtmlclccfmlcabaaDoor.os
set_option linter.unusedSimpArgs false

noncomputable def sizeN (ty : TypeId) : Nat := match Tryd.prog.info? ty with | some i => i.size | none => 0
noncomputable def rowB' (ty : TypeId) : Bool := (match Tryd.prog.underlying ty with | some d => d.isRow | none => false) && (Tryd.prog.info? ty).isSome
theorem sizeN_info {ty : TypeId} {n : Nat} (h : sizeN ty = n) (h0 : (Tryd.prog.info? ty).isSome = true) : (Tryd.prog.info? ty).map (·.size) = some n := by
  unfold sizeN at h
  cases hi : Tryd.prog.info? ty with
  | none => rw [hi] at h0; cases h0
  | some i => rw [hi] at h; simpa using h
def sizeTy (ty : TypeId) (n : Nat) : Prop := sizeN ty = n ∧ (Tryd.prog.info? ty).isSome = true
theorem sizeTy_mk {ty : TypeId} {n : Nat} (h1 : sizeN ty = n) (h2 : (Tryd.prog.info? ty).isSome = true) : sizeTy ty n := ⟨h1, h2⟩
theorem sizeTy_info {ty : TypeId} {n : Nat} (h : sizeTy ty n) : (Tryd.prog.info? ty).map (·.size) = some n := sizeN_info h.1 h.2
def rowTy (ty : TypeId) (n : Nat) : Prop := rowB' ty = true ∧ sizeN ty = n
theorem rowTy_row {ty : TypeId} {n : Nat} (h : rowTy ty n) : ∃ d, Tryd.prog.underlying ty = some d ∧ d.isRow = true ∧ (Tryd.prog.info? ty).map (·.size) = some n := by
  obtain ⟨h, h3⟩ := h
  unfold rowB' at h
  rw [Bool.and_eq_true] at h
  obtain ⟨h1, h2⟩ := h
  cases hu : Tryd.prog.underlying ty with
  | none => rw [hu] at h1; cases h1
  | some d => rw [hu] at h1; exact ⟨d, rfl, h1, sizeN_info h3 h2⟩
def sub? (us vs : List Value) (f : Nat) : Prop := ∀ j v, us[j]? = some v → vs[f + j]? = some v
theorem sub_all (vs : List Value) : sub? vs vs 0 := fun j v h => by rw [Nat.zero_add]; exact h
theorem sub_mid (a us c : List Value) : sub? us (a ++ (us ++ c)) a.length := fun j v h => by
  rw [List.getElem?_append_right (by omega), Nat.add_sub_cancel_left]
  rw [List.getElem?_append_left]
  · exact h
  · rcases Nat.lt_or_ge j us.length with h1 | h1
    · exact h1
    · rw [List.getElem?_eq_none h1] at h; cases h
noncomputable def oneTy (ty : TypeId) : Bool := match Tryd.prog.underlying ty with | some d => !d.isRow | none => false
theorem run_loadVar_one (w : World) (b o : Nat) (ty : TypeId) (v : Value) (hc : w.cell? ⟨b, o, none⟩ = some v) (hu : oneTy ty = true) : (loadVar ty ⟨b, o, none⟩).run Tryd.prog w = .ok v w := by
  unfold oneTy at hu
  cases hq : Tryd.prog.underlying ty with
  | none => rw [hq] at hu; cases hu
  | some d =>
    rw [hq] at hu
    have hagg : (isAgg ty).run Tryd.prog w = .ok false w := by
      unfold isAgg
      rw [Sem.run_bind, run_underlying hq w]
      cases d <;> simp_all
    simp only [loadVar, Sem.run_bind, hagg, Result.andThen_ok]
    go_simp
/-- These variables live, each in a block of its own that is new, and nothing of w has turned. -/
def Sw (L : List (Nat × List Value)) (w W : World) : Prop := St L w W ∧ (∀ x ∈ L, w.heap.size ≤ x.1) ∧ L.Pairwise (fun x y => x.1 ≠ y.1)
theorem sw_nil (w : World) : Sw [] w w := ⟨st_nil (Below.refl _ _), fun _ h => by (cases h), List.Pairwise.nil⟩
theorem Sw.st {L : List (Nat × List Value)} {w W : World} (h : Sw L w W) : St L w W := h.1
theorem Sw.below {L : List (Nat × List Value)} {w W : World} (h : Sw L w W) : Below w.heap.size w W := h.1.2
theorem Sw.size {L : List (Nat × List Value)} {w W : World} (h : Sw L w W) : w.heap.size ≤ W.heap.size := h.1.2.size
theorem Sw.keep {L : List (Nat × List Value)} {w W W' : World} (h : Sw L w W) (hb : Below W.heap.size W W') : Sw L w W' := ⟨h.1.keep hb, h.2⟩
theorem Sw.drew {L : List (Nat × List Value)} {w W : World} (h : Sw L w W) : Sw L w W.drew := ⟨h.1.drew, h.2⟩
theorem Sw.drewN {L : List (Nat × List Value)} {w W : World} (h : Sw L w W) (n : Nat) : Sw L w (W.drewN n) := ⟨h.1.drewN n, h.2⟩
theorem Sw.sub {L L' : List (Nat × List Value)} {w W : World} (h : Sw L w W) (hs : L'.Sublist L) : Sw L' w W := ⟨h.1.sub fun _ hx => hs.subset hx, fun x hx => h.2.1 x (hs.subset hx), h.2.2.sublist hs⟩
theorem Sw.first {L : List (Nat × List Value)} {w W W' : World} {vs : List Value} (h : Sw L w W) (hb : Below W.heap.size W W') (hP : RowAt W.heap.size vs W') : Sw ((W.heap.size, vs) :: L) w W' :=
  ⟨h.1.first hb hP, fun x hx => by
    rcases List.mem_cons.1 hx with rfl | hx
    · exact h.size
    · exact h.2.1 x hx, List.Pairwise.cons (fun x hx => h.1.ne x hx) h.2.2⟩
theorem Sw.row {L : List (Nat × List Value)} {w W : World} (h : Sw L w W) {i b : Nat} {vs : List Value} (hm : L[i]? = some (b, vs)) : RowAt b vs W := h.1.row (List.mem_of_getElem? hm)
theorem Sw.low {L : List (Nat × List Value)} {w W : World} (h : Sw L w W) {i b : Nat} {vs : List Value} (hm : L[i]? = some (b, vs)) : w.heap.size ≤ b := h.2.1 _ (List.mem_of_getElem? hm)
theorem Sw.put {L : List (Nat × List Value)} {w W W' : World} {i b : Nat} {vs us : List Value} (h : Sw L w W) (hm : L[i]? = some (b, vs)) (hS : StoredAt b W W') (hr : RowAt b us W') : Sw (L.set i (b, us)) w W' := by
  obtain ⟨hi, he⟩ := List.getElem?_eq_some_iff.1 hm
  have hlow := h.low hm
  refine ⟨⟨fun x hx => ?_, hS.below h.below hlow⟩, fun x hx => ?_, ?_⟩
  · obtain ⟨j, hj, hx⟩ := List.mem_iff_getElem.1 hx
    rw [List.getElem_set] at hx
    split at hx
    · subst hx; exact hr
    · rename_i hne
      subst hx
      refine hS.row (h.1.1 _ (List.getElem_mem _)) ?_
      have hp := List.pairwise_iff_getElem.1 h.2.2
      rw [List.length_set] at hj
      rcases Nat.lt_or_gt_of_ne hne with h1 | h1
      · have := hp i j hi hj h1; rw [he] at this; exact this
      · have := hp j i hj hi h1; rw [he] at this; exact this.symm
  · rcases List.mem_or_eq_of_mem_set hx with hx | rfl
    · exact h.2.1 x hx
    · exact hlow
  · rw [List.pairwise_iff_getElem]
    intro j k hj hk hjk
    rw [List.length_set] at hj hk
    have hp := List.pairwise_iff_getElem.1 h.2.2 j k hj hk hjk
    simp only [List.getElem_set]
    split
    · rename_i e; subst e
      rw [if_neg (by omega)]; rw [he] at hp; exact hp
    · split
      · rename_i e; subst e; rw [he] at hp; exact hp
      · exact hp
theorem Sw.tail {x : Nat × List Value} {L : List (Nat × List Value)} {w W : World} (h : Sw (x :: L) w W) : Sw L w W := h.sub (List.sublist_cons_self _ _)
theorem at0 {α : Type} {x : α} {l : List α} : (x :: l)[0]? = some x := rfl
theorem at1 {α : Type} {x a : α} {l : List α} : (a :: x :: l)[1]? = some x := rfl
theorem at2 {α : Type} {x a b : α} {l : List α} : (a :: b :: x :: l)[2]? = some x := rfl
theorem at3 {α : Type} {x a b c : α} {l : List α} : (a :: b :: c :: x :: l)[3]? = some x := rfl
theorem at4 {α : Type} {x a b c d : α} {l : List α} : (a :: b :: c :: d :: x :: l)[4]? = some x := rfl
theorem at5 {α : Type} {x a b c d e : α} {l : List α} : (a :: b :: c :: d :: e :: x :: l)[5]? = some x := rfl
section
variable {ops : Array Oper} {rest : List Oper} {o : Oper} {a : Act} {w W : World} {Q : Exit → Act → World → Prop} {K : Act → World → Prop} {x y : Operand} {b i : Nat} {L : List (Nat × List Value)}
/-- A variable for a parameter of several cells. -/
theorem wp_boxS (vs : List Value) {ty : TypeId} (HS : Hid (Sw L w W)) (ho : o.op = .box ty x) (hx : a.eval x = .agg vs.toArray)
    (hgd : Region.wanted o (yielded ops a.tmps) = true) (h : ∀ W', Hid (Sw ((W.heap.size, vs) :: L) w W') → W.heap.size < W'.heap.size → Below W.heap.size W W' → wpList Tryd.prog ops Q rest (a.put o.dst (.pointer (some ⟨W.heap.size, 0, none⟩))) W') : wpList Tryd.prog ops Q (o :: rest) a W :=
  wp_boxW vs ty ho hx hgd fun W' hP hb hz => h W' (Lib.hid (HS.out.first hb hP)) hz hb
/-- A new variable of several cells. -/
theorem wp_newS (zs : List Value) {ty : TypeId} (hz : ∀ W : World, (zeroValue ty).run Tryd.prog W = .ok (.agg zs.toArray) W) (HS : Hid (Sw L w W)) (ho : o.op = .alloc ty)
    (hgd : Region.wanted o (yielded ops a.tmps) = true) (h : ∀ W', Hid (Sw ((W.heap.size, zs) :: L) w W') → W.heap.size < W'.heap.size → Below W.heap.size W W' → wpList Tryd.prog ops Q rest (a.put o.dst (.pointer (some ⟨W.heap.size, 0, none⟩))) W') : wpList Tryd.prog ops Q (o :: rest) a W :=
  wp_newW zs ty hz ho hgd fun W' hP hb hz => h W' (Lib.hid (HS.out.first hb hP)) hz hb
theorem op_newS (zs : List Value) {ty : TypeId} (hz : ∀ W : World, (zeroValue ty).run Tryd.prog W = .ok (.agg zs.toArray) W) (HS : Sw L w W) (ho : o.op = .alloc ty)
    (h : ∀ W', Sw ((W.heap.size, zs) :: L) w W' → W.heap.size < W'.heap.size → Below W.heap.size W W' → K (a.put o.dst (.pointer (some ⟨W.heap.size, 0, none⟩))) W') : o.wp Tryd.prog a W K Q := by
  have hb : Below W.heap.size W (W.alloc (.cells zs.toArray ty)) := (Below.refl _ _).alloc (Nat.le_refl _) _
  have := h _ (HS.first hb (RowAt.new zs W ty)) (by simp) hb
  unfold Oper.wp execOp
  simp only [ho]
  simp [Instr.alloc, hz, newVar, newRow, Value.cells]
  exact this
/-- A load of several cells, and of one. -/
theorem wp_loadS {vs : List Value} (us : List Value) {ty : TypeId} {f : Nat} (HS : Hid (Sw L w W)) (ho : o.op = .load ty x) (hx : a.eval x = .pointer (some ⟨b, f, none⟩)) (hm : L[i]? = some (b, vs)) (hp : sub? us vs f) (hd : rowTy ty us.length)
    (hgd : Region.wanted o (yielded ops a.tmps) = true) (hn : wpList Tryd.prog ops Q rest (a.put o.dst (.agg us.toArray)) W) : wpList Tryd.prog ops Q (o :: rest) a W := by
  obtain ⟨d, h1, h2, h3⟩ := rowTy_row hd
  exact wp_load us ty d (HS.out.row hm) h1 h2 h3 hp ho hx hgd hn
theorem wp_load1S {vs : List Value} (v : Value) {ty : TypeId} {f : Nat} (HS : Hid (Sw L w W)) (ho : o.op = .load ty x) (hx : a.eval x = .pointer (some ⟨b, f, none⟩)) (hm : L[i]? = some (b, vs)) (hp : vs[f]? = some v) (hd : oneTy ty = true)
    (hgd : Region.wanted o (yielded ops a.tmps) = true) (hn : wpList Tryd.prog ops Q rest (a.put o.dst v) W) : wpList Tryd.prog ops Q (o :: rest) a W :=
  wpList_step fun _ hK => by
    rw [if_pos hgd]
    have hr := run_loadVar_one W b f ty v ((HS.out.row hm).cells f v hp) hd
    unfold Oper.wp execOp
    simp only [ho, hx, Instr.loadAt, Instr.sureAddr, Sem.run_bind, Sem.run_pure, Result.andThen_ok, hr]
    exact hK _ _ hn
theorem yields_loadS {vs : List Value} (us : List Value) {f : Nat} {ty : TypeId} (hgd : Region.wanted o (yielded ops a.tmps) = true) (ho : o.op = .load ty x) (hx : a.eval x = .pointer (some ⟨b, f, none⟩)) (hm : L[i]? = some (b, vs)) (hp : sub? us vs f) (hd : rowTy ty us.length) {v : Value} (hv : Value.agg us.toArray = v) : YieldsIf Tryd.prog ops (Sw L w) o v a := by
  subst hv
  obtain ⟨d, h1, h2, h3⟩ := rowTy_row hd
  exact yieldsIf_load_mid hgd ty x ho b f hx us d (fun W hW => RowAt.range (hW.row hm) f hp) h1 h2 h3
theorem yields_load1S {vs : List Value} (v : Value) {f : Nat} {ty : TypeId} (hgd : Region.wanted o (yielded ops a.tmps) = true) (ho : o.op = .load ty x) (hx : a.eval x = .pointer (some ⟨b, f, none⟩)) (hm : L[i]? = some (b, vs)) (hp : vs[f]? = some v) (hd : oneTy ty = true) : YieldsIf Tryd.prog ops (Sw L w) o v a :=
  .inl ⟨hgd, fun W hW => by
    have hr := run_loadVar_one W b f ty v ((hW.row hm).cells f v hp) hd
    unfold execOp
    simp only [ho, hx, Instr.loadAt, Instr.sureAddr, Sem.run_bind, Sem.run_pure, Result.andThen_ok, hr]⟩
/-- A load out of old memory: a cell that a slice leads to, and several. -/
theorem wp_load1O (v : Value) {ty : TypeId} {f : Nat} (hc : W.cell? ⟨b, f, none⟩ = some v) (ho : o.op = .load ty x) (hx : a.eval x = .pointer (some ⟨b, f, none⟩)) (hd : oneTy ty = true)
    (hgd : Region.wanted o (yielded ops a.tmps) = true) (hn : wpList Tryd.prog ops Q rest (a.put o.dst v) W) : wpList Tryd.prog ops Q (o :: rest) a W :=
  wpList_step fun _ hK => by
    rw [if_pos hgd]
    have hr := run_loadVar_one W b f ty v hc hd
    unfold Oper.wp execOp
    simp only [ho, hx, Instr.loadAt, Instr.sureAddr, Sem.run_bind, Sem.run_pure, Result.andThen_ok, hr]
    exact hK _ _ hn
theorem wp_loadO (us : List Value) {ty : TypeId} {f : Nat} (hc : ∀ i u, us[i]? = some u → W.cell? ⟨b, f + i, none⟩ = some u) (ho : o.op = .load ty x) (hx : a.eval x = .pointer (some ⟨b, f, none⟩)) (hd : rowTy ty us.length)
    (hgd : Region.wanted o (yielded ops a.tmps) = true) (hn : wpList Tryd.prog ops Q rest (a.put o.dst (.agg us.toArray)) W) : wpList Tryd.prog ops Q (o :: rest) a W := by
  obtain ⟨d, h1, h2, h3⟩ := rowTy_row hd
  exact wpList_step fun _ hK => by
    rw [if_pos hgd]
    exact wp_load_mid ty x ho b f hx us d hc h1 h2 h3 (hK _ _ hn)
theorem yields_loadO (us : List Value) {f : Nat} {ty : TypeId} (hgd : Region.wanted o (yielded ops a.tmps) = true) (ho : o.op = .load ty x) (hx : a.eval x = .pointer (some ⟨b, f, none⟩)) (hb : b < w.heap.size) (hc : ∀ i u, us[i]? = some u → w.cell? ⟨b, f + i, none⟩ = some u) (hd : rowTy ty us.length) {v : Value} (hv : Value.agg us.toArray = v) : YieldsIf Tryd.prog ops (Sw L w) o v a := by
  subst hv
  obtain ⟨d, h1, h2, h3⟩ := rowTy_row hd
  exact yieldsIf_load_mid hgd ty x ho b f hx us d (fun W hW i u hu => (hW.below.cell (p := ⟨b, f + i, none⟩) hb).trans (hc i u hu)) h1 h2 h3
theorem yields_load1O (v : Value) {f : Nat} {ty : TypeId} (hgd : Region.wanted o (yielded ops a.tmps) = true) (ho : o.op = .load ty x) (hx : a.eval x = .pointer (some ⟨b, f, none⟩)) (hb : b < w.heap.size) (hc : w.cell? ⟨b, f, none⟩ = some v) (hd : oneTy ty = true) {v' : Value} (hv : v = v') : YieldsIf Tryd.prog ops (Sw L w) o v' a :=
  hv ▸
  .inl ⟨hgd, fun W hW => by
    have hr := run_loadVar_one W b f ty v ((hW.below.cell (p := ⟨b, f, none⟩) hb).trans hc) hd
    unfold execOp
    simp only [ho, hx, Instr.loadAt, Instr.sureAddr, Sem.run_bind, Sem.run_pure, Result.andThen_ok, hr]⟩
/-- A store of a whole variable, and of one cell of it. -/
theorem op_storeS {vs : List Value} (us : List Value) {ty : TypeId} (HS : Sw L w W) (ho : o.op = .store ty x y) (hx : a.eval x = .pointer (some ⟨b, 0, none⟩)) (hy : a.eval y = .agg us.toArray) (hm : L[i]? = some (b, vs)) (hl : us.length = vs.length) (h1 : us.all (·.oneCell') = true) (hd : sizeTy ty us.length)
    (h : ∀ W', Sw (L.set i (b, us)) w W' → StoredAt b W W' → K (a.put o.dst undef) W') : o.wp Tryd.prog a W K Q := by
  have hr := HS.row hm
  have hs := RowAt.setCells us 0 hr (by omega)
  rw [splice_all _ _ hl] at hs
  exact wp_store_mid ty x y ho b 0 us.toArray hx hy (hr.there 0 _ (by simp; omega)) (by simpa using sizeTy_info hd) (by simpa using h1) (h _ (HS.put hm ⟨_, _, rfl⟩ hs) ⟨_, _, rfl⟩)
theorem wp_storeS {vs : List Value} (us : List Value) {ty : TypeId} (HS : Hid (Sw L w W)) (ho : o.op = .store ty x y) (hx : a.eval x = .pointer (some ⟨b, 0, none⟩)) (hy : a.eval y = .agg us.toArray) (hm : L[i]? = some (b, vs)) (hl : us.length = vs.length) (h1 : us.all (·.oneCell') = true) (hd : sizeTy ty us.length)
    (hgd : Region.wanted o (yielded ops a.tmps) = true) (h : ∀ W', Hid (Sw (L.set i (b, us)) w W') → StoredAt b W W' → wpList Tryd.prog ops Q rest (a.put o.dst undef) W') : wpList Tryd.prog ops Q (o :: rest) a W :=
  wpList_step fun _ hK => by
    rw [if_pos hgd]
    exact op_storeS us HS.out ho hx hy hm hl h1 hd fun W' h2 h3 => hK _ _ (h W' (Lib.hid h2) h3)
theorem op_storePartS {vs : List Value} (us : List Value) {ty : TypeId} {f : Nat} (HS : Sw L w W) (ho : o.op = .store ty x y) (hx : a.eval x = .pointer (some ⟨b, f, none⟩)) (hy : a.eval y = .agg us.toArray) (hm : L[i]? = some (b, vs)) (hl : f + us.length ≤ vs.length) (h1 : us.all (·.oneCell') = true) (hd : sizeTy ty us.length)
    (h : ∀ W', Sw (L.set i (b, splice vs f us)) w W' → StoredAt b W W' → K (a.put o.dst undef) W') : o.wp Tryd.prog a W K Q := by
  have hr := HS.row hm
  have hs := RowAt.setCells us f hr hl
  exact wp_store_mid ty x y ho b f us.toArray hx hy (hr.there f _ (by simp; omega)) (by simpa using sizeTy_info hd) (by simpa using h1) (h _ (HS.put hm ⟨_, _, rfl⟩ hs) ⟨_, _, rfl⟩)
theorem wp_storePartS {vs : List Value} (us : List Value) {ty : TypeId} {f : Nat} (HS : Hid (Sw L w W)) (ho : o.op = .store ty x y) (hx : a.eval x = .pointer (some ⟨b, f, none⟩)) (hy : a.eval y = .agg us.toArray) (hm : L[i]? = some (b, vs)) (hl : f + us.length ≤ vs.length) (h1 : us.all (·.oneCell') = true) (hd : sizeTy ty us.length)
    (hgd : Region.wanted o (yielded ops a.tmps) = true) (h : ∀ W', Hid (Sw (L.set i (b, splice vs f us)) w W') → StoredAt b W W' → wpList Tryd.prog ops Q rest (a.put o.dst undef) W') : wpList Tryd.prog ops Q (o :: rest) a W :=
  wpList_step fun _ hK => by
    rw [if_pos hgd]
    exact op_storePartS us HS.out ho hx hy hm hl h1 hd fun W' h2 h3 => hK _ _ (h W' (Lib.hid h2) h3)
theorem op_store1S {vs us : List Value} (v : Value) {ty : TypeId} {f : Nat} (HS : Sw L w W) (ho : o.op = .store ty x y) (hx : a.eval x = .pointer (some ⟨b, f, none⟩)) (hy : a.eval y = v) (hm : L[i]? = some (b, vs)) (hl : f < vs.length) (hU : vs.set f v = us) (hv : v.cells = #[v]) (h1 : v.oneCell' = true) (hd : sizeTy ty 1)
    (h : ∀ W', Sw (L.set i (b, us)) w W' → StoredAt b W W' → K (a.put o.dst undef) W') : o.wp Tryd.prog a W K Q :=
  op_storeField ty v hv h1 (sizeTy_info hd) (HS.row hm) hl ho hx hy fun W' hr hS => h W' (HS.put hm hS (hU ▸ hr)) hS
theorem wp_store1S {vs us : List Value} (v : Value) {ty : TypeId} {f : Nat} (HS : Hid (Sw L w W)) (ho : o.op = .store ty x y) (hx : a.eval x = .pointer (some ⟨b, f, none⟩)) (hy : a.eval y = v) (hm : L[i]? = some (b, vs)) (hl : f < vs.length) (hU : vs.set f v = us) (hv : v.cells = #[v]) (h1 : v.oneCell' = true) (hd : sizeTy ty 1)
    (hgd : Region.wanted o (yielded ops a.tmps) = true) (h : ∀ W', Hid (Sw (L.set i (b, us)) w W') → StoredAt b W W' → wpList Tryd.prog ops Q rest (a.put o.dst undef) W') : wpList Tryd.prog ops Q (o :: rest) a W :=
  wpList_step fun _ hK => by
    rw [if_pos hgd]
    exact op_store1S v HS.out ho hx hy hm hl hU hv h1 hd fun W' h2 h3 => hK _ _ (h W' (Lib.hid h2) h3)
end
/-- Results: a variable of several cells with two others beside it. -/
theorem res3 {fn : Func} {p q r : Tmp} {ty : TypeId} (h : fn.results = #[.cell p ty, .tmp q, .tmp r]) {tmps : Array Value} {w : World} {b : Nat} {vs : List Value} {d : TypeDesc} (hp : tmps.getD p undef = .pointer (some ⟨b, 0, none⟩)) (hr : RowAt b vs w)
    (hu : Tryd.prog.underlying ty = some d) (hd : d.isRow = true) (hi : (Tryd.prog.info? ty).map (·.size) = some vs.length) : (results fn tmps).run Tryd.prog w = .ok (.tuple #[.agg vs.toArray, tmps.getD q undef, tmps.getD r undef]) w := by
  have hp' : tmps[p]?.getD undef = .pointer (some ⟨b, 0, none⟩) := by simpa using hp
  simp [results, h, hp', asAddr, run_loadVar_mid w b 0 ty vs d (hr.range 0 (fun j v hv => by rw [Nat.zero_add]; exact hv)) hu hd hi]
theorem resS1 {fn : Func} {p : Tmp} {ty : TypeId} (h : fn.results = #[.cell p ty]) {tmps : Array Value} {w W : World} {b : Nat} {vs : List Value} {L : List (Nat × List Value)} (HS : Hid (Sw L w W)) (hp : tmps.getD p undef = .pointer (some ⟨b, 0, none⟩)) {i : Nat} (hm : L[i]? = some (b, vs)) (hd : rowTy ty vs.length) : (results fn tmps).run Tryd.prog W = .ok (.agg vs.toArray) W := by
  obtain ⟨d, h1, h2, h3⟩ := rowTy_row hd
  exact res1 h hp (HS.out.row hm) h1 h2 h3
theorem resS2 {fn : Func} {p q : Tmp} {ty : TypeId} (h : fn.results = #[.cell p ty, .tmp q]) {tmps : Array Value} {w W : World} {b : Nat} {vs : List Value} {L : List (Nat × List Value)} (HS : Hid (Sw L w W)) (hp : tmps.getD p undef = .pointer (some ⟨b, 0, none⟩)) {i : Nat} (hm : L[i]? = some (b, vs)) (hd : rowTy ty vs.length) : (results fn tmps).run Tryd.prog W = .ok (.tuple #[.agg vs.toArray, tmps.getD q undef]) W := by
  obtain ⟨d, h1, h2, h3⟩ := rowTy_row hd
  exact res2 h hp (HS.out.row hm) h1 h2 h3
theorem resS3 {fn : Func} {p q r : Tmp} {ty : TypeId} (h : fn.results = #[.cell p ty, .tmp q, .tmp r]) {tmps : Array Value} {w W : World} {b : Nat} {vs : List Value} {L : List (Nat × List Value)} (HS : Hid (Sw L w W)) (hp : tmps.getD p undef = .pointer (some ⟨b, 0, none⟩)) {i : Nat} (hm : L[i]? = some (b, vs)) (hd : rowTy ty vs.length) : (results fn tmps).run Tryd.prog W = .ok (.tuple #[.agg vs.toArray, tmps.getD q undef, tmps.getD r undef]) W := by
  obtain ⟨d, h1, h2, h3⟩ := rowTy_row hd
  exact res3 h hp (HS.out.row hm) h1 h2 h3
end Go.Proofs.YtmlclccfmlcabaaDoor.jg
