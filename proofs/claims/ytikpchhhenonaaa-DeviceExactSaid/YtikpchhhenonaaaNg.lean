/- The reference's Write: the errors; steps of the loops. -/
import Derived.Test.YtikpchhhenonaaaNe
import Derived.Test.YtikpchhhenonaaaNf
namespace Go.Proofs.Ytikpchhhenonaaa.ng
open Go.ChangeShapes Go.WideShapes Go.ChangeAt Go.RowKit Go.Proofs.Ytikpchhhenonaaa.cx Go.Proofs.Ytikpchhhenonaaa.ra Go.Proofs.Ytikpchhhenonaaa.la Go.Proofs.Ytikpchhhenonaaa.lb Go.Proofs.Ytikpchhhenonaaa.lc Go.Proofs.Ytikpchhhenonaaa.ld Go.Proofs.Ytikpchhhenonaaa.le Go.Proofs.Ytikpchhhenonaaa.lf Go.Proofs.Ytikpchhhenonaaa.lg Go.Proofs.Ytikpchhhenonaaa.lh Go.Proofs.Ytikpchhhenonaaa.li Go.Proofs.Ytikpchhhenonaaa.lj Go.Proofs.Ytikpchhhenonaaa.lk Go.Proofs.Ytikpchhhenonaaa.ll Go.Proofs.Ytikpchhhenonaaa.lm Go.Proofs.Ytikpchhhenonaaa.ln Go.Proofs.Ytikpchhhenonaaa.lo Go.Proofs.Ytikpchhhenonaaa.lp Go.Proofs.Ytikpchhhenonaaa.lq Go.Proofs.Ytikpchhhenonaaa.lr Go.Proofs.Ytikpchhhenonaaa.ls Go.Proofs.Ytikpchhhenonaaa.lt Go.Proofs.Ytikpchhhenonaaa.lu Go.Proofs.Ytikpchhhenonaaa.lv Go.Proofs.Ytikpchhhenonaaa.lw Go.Proofs.Ytikpchhhenonaaa.lx Go.Proofs.Ytikpchhhenonaaa.ly Go.Proofs.Ytikpchhhenonaaa.na Go.Proofs.Ytikpchhhenonaaa.nb Go.Proofs.Ytikpchhhenonaaa.nc Go.Proofs.Ytikpchhhenonaaa.nd Go.Proofs.Ytikpchhhenonaaa.ne Go.Proofs.Ytikpchhhenonaaa.nf
set_option linter.unusedSimpArgs false
set_option maxHeartbeats 4000000 in
set_option maxRecDepth 4000 in
theorem refWrite_e1 (vs : List Value) (d : Dev) (page : Int) (s : ByteArray) (n : Int) (hn : accessE d page = n) (h0 : n ≠ 0) (w : World) (h : DevV vs d w) (hf : FitsD d) :
    Calls Try.prog 21 #[.agg vs.toArray, .int .i64 page, .string s] w fun e w' => ∃ vs', e = .returned (.tuple #[.agg vs'.toArray, .int .i64 n]) ∧ DevV vs' noDev w' ∧ (∀ b, b ≤ w.heap.size → Lo b vs') ∧ Below w.heap.size w w' := by
  obtain ⟨sp, cp, su, cu, sf, cf, rfl, P, U, F⟩ := h.form
  have DV := Lib.hid h
  have HF := Lib.hid hf
  have HN := Lib.hid hn
  have hz : (n == 0) = false := by simpa using h0
  have bd := build_dev0
  clear h P U F hf hn h0
  go_enter Try.func21, Try.ntmps21
  go_wp2_with (first
    | (refine wp_boxW (dvals (.slice sp d.pages.length cp) d.writes (.slice su d.unr.length cu) d.dead (.slice sf d.faults.length cf)) _ rfl rfl rfl ?_; intro w0 hP hb0 hz0; have HB0 := Lib.hid hb0; have HD0 := Lib.hid hP; clear hP hb0)
    | (refine wp_newW dev0 _ zero_dev rfl rfl ?_; intro w1 hP hb1 hz1; have HB1 := Lib.hid (HB0.out.trans (hb1.mono HB0.out.size)); have HD1 := Lib.hid (HD0.out.keep hb1); have HR1 := Lib.hid hP; have HV1 := Lib.hid (DV.out.keep HB1.out); clear hP hb1 HD0 HB0)
    | (refine wp_loadDev _ _ _ _ _ HD1.out rfl rfl rfl ?_)
    | (go_at_call 45; (with_reducible refine (refUsable_b _ d _ n HN.out _ HV1.out HF.out).mono ?_); rintro e w2 ⟨rfl, hb2⟩; have hz2 := hb2.size; have HB2 := Lib.hid (HB1.out.trans (hb2.mono HB1.out.size)); have HD2 := Lib.hid (HD1.out.keep hb2); have HR2 := Lib.hid (HR1.out.keep hb2); have HV2 := Lib.hid (HV1.out.keep hb2); obtain ⟨a0, a1, a2, a3, a4⟩ := HD2.out.all5; clear hb2 HB1 HD1 HR1 HV1)
    | (refine wp_storeDevW nil3 0 nil3 false nil3 (one_slice ..) (one_slice ..) (one_slice ..) HR2.out rfl rfl rfl rfl rfl ?_; intro w9 hP hS; have HR9 := Lib.hid hP; have HB9 := Lib.hid (hS.below HB2.out (by omega)); clear hP hS))
  exact bodyPost_ret (res_devE rfl rfl HR9.out rfl) rfl ⟨_, rfl, devV0 _, fun b _ => lo_zero b, HB9.out⟩
set_option maxHeartbeats 4000000 in
set_option maxRecDepth 4000 in
theorem refWrite_e2 (vs : List Value) (d : Dev) (page : Int) (s : ByteArray) (hn : accessE d page = 0) (h0 : s.size ≠ 256) (w : World) (h : DevV vs d w) (hf : FitsD d) :
    Calls Try.prog 21 #[.agg vs.toArray, .int .i64 page, .string s] w fun e w' => ∃ vs', e = .returned (.tuple #[.agg vs'.toArray, .int .i64 2]) ∧ DevV vs' noDev w' ∧ (∀ b, b ≤ w.heap.size → Lo b vs') ∧ Below w.heap.size w w' := by
  obtain ⟨sp, cp, su, cu, sf, cf, rfl, P, U, F⟩ := h.form
  have DV := Lib.hid h
  have HF := Lib.hid hf
  have HN := Lib.hid hn
  have hz : ((s.size : Int) != 256) = true := by simp; omega
  have bd := build_dev0
  clear h P U F hf hn h0
  go_enter Try.func21, Try.ntmps21
  go_wp2_with (first
    | (refine wp_boxW (dvals (.slice sp d.pages.length cp) d.writes (.slice su d.unr.length cu) d.dead (.slice sf d.faults.length cf)) _ rfl rfl rfl ?_; intro w0 hP hb0 hz0; have HB0 := Lib.hid hb0; have HD0 := Lib.hid hP; clear hP hb0)
    | (refine wp_newW dev0 _ zero_dev rfl rfl ?_; intro w1 hP hb1 hz1; have HB1 := Lib.hid (HB0.out.trans (hb1.mono HB0.out.size)); have HD1 := Lib.hid (HD0.out.keep hb1); have HR1 := Lib.hid hP; have HV1 := Lib.hid (DV.out.keep HB1.out); clear hP hb1 HD0 HB0)
    | (refine wp_loadDev _ _ _ _ _ HD1.out rfl rfl rfl ?_)
    | (go_at_call 45; (with_reducible refine (refUsable_b _ d _ 0 HN.out _ HV1.out HF.out).mono ?_); rintro e w2 ⟨rfl, hb2⟩; have hz2 := hb2.size; have HB2 := Lib.hid (HB1.out.trans (hb2.mono HB1.out.size)); have HD2 := Lib.hid (HD1.out.keep hb2); have HR2 := Lib.hid (HR1.out.keep hb2); have HV2 := Lib.hid (HV1.out.keep hb2); obtain ⟨a0, a1, a2, a3, a4⟩ := HD2.out.all5; clear hb2 HB1 HD1 HR1 HV1)
    | (refine wp_storeDevW nil3 0 nil3 false nil3 (one_slice ..) (one_slice ..) (one_slice ..) HR2.out rfl rfl rfl rfl rfl ?_; intro w9 hP hS; have HR9 := Lib.hid hP; have HB9 := Lib.hid (hS.below HB2.out (by omega)); clear hP hS))
  exact bodyPost_ret (res_devE rfl rfl HR9.out rfl) rfl ⟨_, rfl, devV0 _, fun b _ => lo_zero b, HB9.out⟩
set_option maxHeartbeats 4000000 in
set_option maxRecDepth 4000 in
theorem refWrite_e3 (vs : List Value) (d : Dev) (page : Int) (s : ByteArray) (hn : accessE d page = 0) (hs : s.size = 256) (h0 : d.writes = 1099511627776) (w : World) (h : DevV vs d w) (hf : FitsD d) :
    Calls Try.prog 21 #[.agg vs.toArray, .int .i64 page, .string s] w fun e w' => ∃ vs', e = .returned (.tuple #[.agg vs'.toArray, .int .i64 21]) ∧ DevV vs' noDev w' ∧ (∀ b, b ≤ w.heap.size → Lo b vs') ∧ Below w.heap.size w w' := by
  obtain ⟨sp, cp, su, cu, sf, cf, rfl, P, U, F⟩ := h.form
  have DV := Lib.hid h
  have HF := Lib.hid hf
  have HN := Lib.hid hn
  have hz : ((s.size : Int) != 256) = false := by simp; omega
  have hy : (d.writes == 1099511627776) = true := by simpa using h0
  have bd := build_dev0
  clear h P U F hf hn h0 hs
  go_enter Try.func21, Try.ntmps21
  go_wp2_with (first
    | (refine wp_boxW (dvals (.slice sp d.pages.length cp) d.writes (.slice su d.unr.length cu) d.dead (.slice sf d.faults.length cf)) _ rfl rfl rfl ?_; intro w0 hP hb0 hz0; have HB0 := Lib.hid hb0; have HD0 := Lib.hid hP; clear hP hb0)
    | (refine wp_newW dev0 _ zero_dev rfl rfl ?_; intro w1 hP hb1 hz1; have HB1 := Lib.hid (HB0.out.trans (hb1.mono HB0.out.size)); have HD1 := Lib.hid (HD0.out.keep hb1); have HR1 := Lib.hid hP; have HV1 := Lib.hid (DV.out.keep HB1.out); clear hP hb1 HD0 HB0)
    | (refine wp_loadDev _ _ _ _ _ HD1.out rfl rfl rfl ?_)
    | (go_at_call 45; (with_reducible refine (refUsable_b _ d _ 0 HN.out _ HV1.out HF.out).mono ?_); rintro e w2 ⟨rfl, hb2⟩; have hz2 := hb2.size; have HB2 := Lib.hid (HB1.out.trans (hb2.mono HB1.out.size)); have HD2 := Lib.hid (HD1.out.keep hb2); have HR2 := Lib.hid (HR1.out.keep hb2); have HV2 := Lib.hid (HV1.out.keep hb2); obtain ⟨a0, a1, a2, a3, a4⟩ := HD2.out.all5; clear hb2 HB1 HD1 HR1 HV1)
    | (refine wp_storeDevW nil3 0 nil3 false nil3 (one_slice ..) (one_slice ..) (one_slice ..) HR2.out rfl rfl rfl rfl rfl ?_; intro w9 hP hS; have HR9 := Lib.hid hP; have HB9 := Lib.hid (hS.below HB2.out (by omega)); clear hP hS))
  exact bodyPost_ret (res_devE rfl rfl HR9.out rfl) rfl ⟨_, rfl, devV0 _, fun b _ => lo_zero b, HB9.out⟩

section
variable {o : Oper} {a : Act} {w : World} {Q : Exit → Act → World → Prop} {s x : Operand} {K : Act → World → Prop}
theorem op_buildF1 (f : Flt) (ho : o.op = .buildSlice 25 1 #[(0, x)]) (hx : a.eval x = .agg f.arr)
    (h : ∀ W, RowAt w.heap.size f.vals W → Below w.heap.size w W → w.heap.size < W.heap.size → K (a.put o.dst (.slice (some ⟨w.heap.size, 0, none⟩) 1 1)) W) : o.wp Try.prog a w K Q := by
  have hn := h _ (RowAt.new f.vals w 29) ((Below.refl _ _).alloc (Nat.le_refl _) _) (by simp)
  have hb := build_flt1 f w
  unfold Oper.wp execOp
  simp only [ho]
  simp only [List.map_toArray, List.map_cons, List.map_nil, hx, hb, Sem.run_bind, Result.andThen_ok, Sem.run_pure]
  exact hn
theorem op_appendF (base : Nat) (v : Value) (l : List Flt) (f : Flt) (T : Nat)
    (ho : o.op = .call { callee := .builtin .append, args := #[s, x], argTypes := #[25, 25] }) (hs : a.eval s = v) (hx : a.eval x = .slice (some ⟨T, 0, none⟩) 1 1)
    (hown : w.ownsRow base 29 6 v l.length (fltL l)) (hT : RowAt T f.vals w) (hn : l.length ≤ 1000) (hbase : base ≤ w.heap.size)
    (h : ∀ v' w', w'.ownsRow base 29 6 v' (l ++ [f]).length (fltL (l ++ [f])) → w.grownBy w' v.ownBlock → (∀ g, v'.ownBlock = some g → v.ownBlock = some g ∨ w.heap.size ≤ g) → K (a.put o.dst v') w') : o.wp Try.prog a w K Q := by
  obtain ⟨i, hi, h0, h1, h2⟩ := lc.info_flt
  refine wp_append_lies w s x 25 ho base 29 i (.agg flt0.vals.toArray) 6 48 Try.underlying25 hi h0 h1 h2 rfl (by decide) v l.length (fltL l) hs hown ⟨T, 0, none⟩ 1 1 f.vals hx rfl
    (fun j u hu => by rw [Addr.add_lit, Nat.zero_add]; exact hT.cells j u hu) (fun u hu => List.all_eq_true.1 (fvals_one f) u hu) (by decide) (by unfold maxLen; omega) (by omega) hbase w.heap.size rfl ?_
  intro g cap w' a1 a2 a3 _
  refine h _ _ ?_ a2 fun g' e => ?_
  · rw [List.length_append, fltL_append]
    have e : fltL [f] = f.vals := by simp [fltL]
    rw [e]
    exact a1
  · have e2 : g = g' := Option.some.inj e
    subst e2
    rcases a3 with a3 | a3
    · exact .inl a3
    · exact .inr (by omega)
theorem op_loadRow {y : Operand} {b : Nat} (vs : List Value) (hr : RowAt b vs w) (hl : vs.length = 5) (ho : o.op = .load 27 y)
    (hx : a.eval y = .pointer (some ⟨b, 0, none⟩)) (hn : K (a.put o.dst (.agg vs.toArray)) w) : o.wp Try.prog a w K Q :=
  wp_load_mid _ y ho b 0 hx vs _ (hr.range 0 (fun j v hv => by rw [Nat.zero_add]; exact hv)) Try.underlying27 rfl (by rw [hl]; exact info_dev) hn
theorem op_storeRow {y z : Operand} {b : Nat} {us : List Value} {vp vu vf : Value} {n : Int} {dd : Bool} (hp : One vp) (hu : One vu) (hf : One vf) (hr : RowAt b us w) (hl : us.length = 5) (ho : o.op = .store 27 y z)
    (hx : a.eval y = .pointer (some ⟨b, 0, none⟩)) (hy : a.eval z = .agg (dvals vp n vu dd vf).toArray) (hn : ∀ W, RowAt b (dvals vp n vu dd vf) W → StoredAt b w W → K (a.put o.dst undef) W) : o.wp Try.prog a w K Q := by
  have hs := RowAt.setCells (dvals vp n vu dd vf) 0 hr (by rw [dvals_length, hl]; exact Nat.le_refl _)
  rw [splice_all _ _ (by rw [dvals_length, hl])] at hs
  exact wp_store_mid _ y z ho b 0 _ hx hy (hr.there 0 5 (by rw [hl]; exact Nat.le_refl _)) info_dev (all_oneCell_toArray fun v hv => List.all_eq_true.1 (dvals_one n dd hp hu hf) v hv) (hn _ (by simpa using hs) ⟨0, dvals vp n vu dd vf, by simp⟩)
end
/-- Of the first j faults: those of this write, and the others. -/
def dueJ (d : Dev) (j : Nat) : List Flt := (d.faults.take j).filter fun f => !(f.at' != d.writes + 1)
def restJ (d : Dev) (j : Nat) : List Flt := (d.faults.take j).filter fun f => !(f.at' == d.writes + 1)
theorem dueJ_succ {d : Dev} {j : Nat} {x : Flt} (hx : d.faults[j]? = some x) : dueJ d (j + 1) = dueJ d j ++ (if x.at' == d.writes + 1 then [x] else []) := by
  unfold dueJ
  rw [List.take_add_one, hx, List.filter_append]
  congr 1
  cases h : (x.at' == d.writes + 1) <;> simp [bne, h]
theorem restJ_succ {d : Dev} {j : Nat} {x : Flt} (hx : d.faults[j]? = some x) : restJ d (j + 1) = restJ d j ++ (if x.at' == d.writes + 1 then [] else [x]) := by
  unfold restJ
  rw [List.take_add_one, hx, List.filter_append]
  congr 1
  cases h : (x.at' == d.writes + 1) <;> simp [h]
theorem dueJ_len (d : Dev) (j : Nat) : (dueJ d j).length ≤ d.faults.length := Nat.le_trans (List.length_filter_le ..) (by rw [List.length_take]; omega)
theorem restJ_len (d : Dev) (j : Nat) : (restJ d j).length ≤ d.faults.length := Nat.le_trans (List.length_filter_le ..) (by rw [List.length_take]; omega)
theorem dueJ_all (d : Dev) : dueJ d d.faults.length = dueF (countD d) := by unfold dueJ dueF countD; rw [List.take_length]
theorem restJ_all (d : Dev) : restJ d d.faults.length = restF (countD d) := by unfold restJ restF countD; rw [List.take_length]
/-- A list of faults that is only read. -/
structure N2 (base B : Nat) (vp vn : Value) (l : List Flt) (w : World) : Prop where
  own : w.ownsRow base 29 6 vn l.length (fltL l)
  nB : vn.ownBlock ≠ some B
  np : Apart vn vp
theorem N2.keep {base B : Nat} {vp vn : Value} {l : List Flt} {w w' : World} (h : N2 base B vp vn l w) (hb : Below w.heap.size w w') : N2 base B vp vn l w' := ⟨own_keep h.own hb, h.nB, h.np⟩
theorem N2.stored {base B : Nat} {vp vn : Value} {l : List Flt} {w w' : World} (h : N2 base B vp vn l w) (hs : StoredAt B w w') : N2 base B vp vn l w' := ⟨own_storedNe h.own hs (fun g e e' => h.nB (by rw [e, e'])), h.nB, h.np⟩
theorem N2.grown {base B : Nat} {vp vn : Value} {l : List Flt} {w w' : World} (h : N2 base B vp vn l w) (hg : w.grownBy w' vp.ownBlock) : N2 base B vp vn l w' := ⟨own_grown h.own hg (fun g e e2 => h.np g e e2), h.nB, h.np⟩
end Go.Proofs.Ytikpchhhenonaaa.ng
