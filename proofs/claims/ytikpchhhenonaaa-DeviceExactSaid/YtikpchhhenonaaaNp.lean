/- Replace, both; the draw Data. -/
import Derived.Test.YtikpchhhenonaaaNo
import Derived.Test.YtikpchhhenonaaaNj
namespace Go.Proofs.Ytikpchhhenonaaa.np
open Go.ChangeShapes Go.WideShapes Go.ChangeAt Go.RowKit Go.Proofs.Ytikpchhhenonaaa.cx Go.Proofs.Ytikpchhhenonaaa.ra Go.Proofs.Ytikpchhhenonaaa.la Go.Proofs.Ytikpchhhenonaaa.lb Go.Proofs.Ytikpchhhenonaaa.lc Go.Proofs.Ytikpchhhenonaaa.ld Go.Proofs.Ytikpchhhenonaaa.le Go.Proofs.Ytikpchhhenonaaa.lf Go.Proofs.Ytikpchhhenonaaa.lg Go.Proofs.Ytikpchhhenonaaa.lh Go.Proofs.Ytikpchhhenonaaa.li Go.Proofs.Ytikpchhhenonaaa.lj Go.Proofs.Ytikpchhhenonaaa.lk Go.Proofs.Ytikpchhhenonaaa.ll Go.Proofs.Ytikpchhhenonaaa.lm Go.Proofs.Ytikpchhhenonaaa.ln Go.Proofs.Ytikpchhhenonaaa.lo Go.Proofs.Ytikpchhhenonaaa.lp Go.Proofs.Ytikpchhhenonaaa.lq Go.Proofs.Ytikpchhhenonaaa.lr Go.Proofs.Ytikpchhhenonaaa.ls Go.Proofs.Ytikpchhhenonaaa.lt Go.Proofs.Ytikpchhhenonaaa.lu Go.Proofs.Ytikpchhhenonaaa.lv Go.Proofs.Ytikpchhhenonaaa.lw Go.Proofs.Ytikpchhhenonaaa.lx Go.Proofs.Ytikpchhhenonaaa.ly Go.Proofs.Ytikpchhhenonaaa.na Go.Proofs.Ytikpchhhenonaaa.nb Go.Proofs.Ytikpchhhenonaaa.nc Go.Proofs.Ytikpchhhenonaaa.nd Go.Proofs.Ytikpchhhenonaaa.ne Go.Proofs.Ytikpchhhenonaaa.nf Go.Proofs.Ytikpchhhenonaaa.ng Go.Proofs.Ytikpchhhenonaaa.nh Go.Proofs.Ytikpchhhenonaaa.nj Go.Proofs.Ytikpchhhenonaaa.no
set_option linter.unusedSimpArgs false
theorem cell_grown {w w' : World} {k b i : Nat} {v : Value} (h : w.cell? ⟨b, i, none⟩ = some v) (hg : w.grownBy w' (some k)) (hb : b < w.heap.size) (hk : b ≠ k) : w'.cell? ⟨b, i, none⟩ = some v :=
  (World.cell?_of_block (w := w) (a := ⟨b, i, none⟩) (hg.block b hb (fun e => hk (by injection e)))).trans h
section
variable {o : Oper} {a : Act} {w : World} {Q : Exit → Act → World → Prop} {s x : Operand} {K : Act → World → Prop}
theorem op_allF {so : Option Addr} {n cap : Nat} {xs : List Value} (ho : o.op = .call { callee := .builtin .append, args := #[s, x], argTypes := #[25, 25] }) (hs : a.eval s = .slice none 0 0) (hx : a.eval x = .slice so n cap)
    (H : Sl (.slice so n cap) 6 n xs w) (h1 : ∀ u ∈ xs, u.oneCell' = true) (hn : n ≤ 100000)
    (h : ∀ v' w', w'.ownsRow w.heap.size 29 6 v' n xs → Below w.heap.size w w' → K (a.put o.dst v') w') : o.wp Try.prog a w K Q := by
  obtain ⟨i, hi, hz, hsize, hby⟩ := lc.info_flt
  obtain ⟨_, hl, h3⟩ := H
  rcases h3 with ⟨e3, rfl⟩ | ⟨b, off, cap', e3, hcap, hb', hc⟩
  · obtain rfl : xs = [] := List.eq_nil_of_length_eq_zero (by omega)
    simp only [Value.slice.injEq, true_and] at e3
    obtain ⟨rfl, rfl⟩ := e3
    have hr : (Builtin.append_ #[25, 25] o.type #[.slice none 0 0, .slice none 0 0]).run Try.prog w = .ok (.slice none 0 0) w := by
      simp [Builtin.append_, run_underlying Try.underlying25, sizeOf, typeInfo, hi, Builtin.lenOf, run_firstCells_none, storeCells]
    unfold Oper.wp execOp
    simp only [ho, resolve, invoke, builtin, Sem.run_bind, Sem.run_pure, Result.andThen_ok, List.map_toArray, List.map_cons, List.map_nil, hs, hx, hr]
    exact h _ _ (World.ownsRow_nil _ _ _ _) (Below.refl _ _)
  · simp only [Value.slice.injEq, true_and] at e3
    obtain ⟨rfl, rfl⟩ := e3
    refine wp_append_own w s x 25 ho w.heap.size 29 i (.agg flt0.vals.toArray) 6 48 Try.underlying25 hi hz hsize hby rfl (by decide) (.slice none 0 0) 0 [] hs (World.ownsRow_nil _ _ _ _) ⟨b, off, none⟩ n cap xs hx hl
      (fun j u hu => by rw [Addr.add_lit]; exact hc j u hu) h1 (by rw [Nat.zero_add]; unfold maxLen; omega) (by rw [Nat.zero_add]; omega) (Nat.le_refl _) (fun v' w' hO hg _ => ?_)
    rw [Nat.zero_add, List.nil_append] at hO
    exact h v' w' hO (grownBy_none_below hg)
end
theorem build_devR (so sf : Option Addr) (n c m cf : Nat) (x : Int) (W : World) : (Instr.build 27 #[(0, .slice so n c), (1, .int .i64 x), (4, .slice sf m cf)]).run Try.prog W = .ok (.agg (dvals (.slice so n c) x nil3 false (.slice sf m cf)).toArray) W := by kernel_rfl
set_option maxHeartbeats 4000000 in
set_option maxRecDepth 4000 in
theorem refReplace_ok (vs : List Value) (d : Dev) (w : World) (h : DevV vs d w) (hf : FitsD d) (hv : validD d = true) :
    Calls Try.prog 30 #[.agg vs.toArray] w fun e w' => ∃ vs', e = .returned (.tuple #[.agg vs'.toArray, .int .i64 0]) ∧ DevV vs' ⟨blanks d.pages.length, d.writes, [], false, d.faults⟩ w' ∧ (∀ b, b ≤ w.heap.size → Lo b vs') ∧ Below w.heap.size w w' := by
  obtain ⟨sp, cp, su, cu, sf, cf, rfl, P, U, F⟩ := h.form
  have DV := Lib.hid h
  have HF := Lib.hid hf
  have IV := Lib.hid (valid_is hv)
  have L1 := Lib.hid (show 1 ≤ d.pages.length ∧ d.pages.length ≤ 1000 by have := IV.out.pages.1; omega)
  have L3 := Lib.hid (show d.faults.length ≤ 100000 by have := IV.out.faults.1; omega)
  have C1 := Lib.hid hv
  have bd := build_devR
  clear h P U F hf hv
  go_enter Try.func30, Try.ntmps30
  go_wp2_with (first
    | (refine wp_boxW (dvals (.slice sp d.pages.length cp) d.writes (.slice su d.unr.length cu) d.dead (.slice sf d.faults.length cf)) _ rfl rfl rfl ?_; intro w0 hP hb0 hz0; have HB0 := Lib.hid hb0; have HD0 := Lib.hid hP; clear hP hb0)
    | (refine wp_newW dev0 _ zero_dev rfl rfl ?_; intro w1 hP hb1 hz1; have HB1 := Lib.hid (HB0.out.trans (hb1.mono HB0.out.size)); have HD1 := Lib.hid (HD0.out.keep hb1); have HR1 := Lib.hid hP; have HV1 := Lib.hid (DV.out.keep HB1.out); clear hP hb1 HD0)
    | (refine wp_loadDev _ _ _ _ _ HD1.out rfl rfl rfl ?_)
    | (go_at_call 23; (with_reducible refine (refValid_b _ d true C1.out _ HV1.out HF.out).mono ?_); rintro e w2 ⟨rfl, hb2⟩; have HB2 := Lib.hid (HB1.out.trans (hb2.mono HB1.out.size)); have HD2 := Lib.hid (HD1.out.keep hb2); have HR2 := Lib.hid (HR1.out.keep hb2); have HV2 := Lib.hid (HV1.out.keep hb2); have HZ2 := Lib.hid (Nat.lt_of_lt_of_le hz1 hb2.size); clear hb2 HB1 HD1 HR1 HV1))
  obtain ⟨a0, a1, a2, a3, a4⟩ := HD2.out.all5
  have VD := Lib.hid (HV2.out.keep (Below.refl _ _).drew)
  have RD := Lib.hid HR2.out.drew
  refine wp_region_held_drew (S := fun W => St [] w W ∧ W.cell? ⟨w.heap.size, 0, none⟩ = some (.slice sp d.pages.length cp) ∧ W.cell? ⟨w.heap.size, 1, none⟩ = some (.int .i64 d.writes) ∧ W.cell? ⟨w.heap.size, 4, none⟩ = some (.slice sf d.faults.length cf)) (by kernel_rfl) ⟨(st_nil HB2.out).drew, a0, a1, a4⟩ (fun hHeld => ?_)
  clear a0 a1 a2 a3 a4 HB2 HD2 HR2 HV2
  refine wpAnyH_take (i := 0) (v := ?_) rfl (by kernel_rfl) (by kernel_rfl) (by kernel_rfl) (fun _ _ _ h => h) (Or.inl ⟨by rfl, ?_⟩) (by assumption) ?_
  rotate_left
  · (intro W hSW; obtain ⟨_, hsw0, hsw1, hsw2⟩ := hSW; go_simp; try with_reducible rfl)
  try simp only [Act.put, List.getElem_toArray, List.getElem_cons_zero, List.getElem_cons_succ, List.setIfInBounds_toArray, List.set_cons_zero, List.set_cons_succ]
  refine wpAnyH_take (i := 1) (v := ?_) rfl (by kernel_rfl) (by kernel_rfl) (by kernel_rfl) (fun _ _ _ h => h) (Or.inl ⟨by rfl, ?_⟩) (by assumption) ?_
  rotate_left
  · (intro W hSW; obtain ⟨_, hsw0, hsw1, hsw2⟩ := hSW; go_simp; try with_reducible rfl)
  try simp only [Act.put, List.getElem_toArray, List.getElem_cons_zero, List.getElem_cons_succ, List.setIfInBounds_toArray, List.set_cons_zero, List.set_cons_succ]
  refine wpAnyH_take (i := 2) (v := ?_) rfl (by kernel_rfl) (by kernel_rfl) (by kernel_rfl) (fun _ _ _ h => h) (Or.inl ⟨by rfl, ?_⟩) (by assumption) ?_
  rotate_left
  · (intro W hSW; obtain ⟨_, hsw0, hsw1, hsw2⟩ := hSW; go_simp; try with_reducible rfl)
  try simp only [Act.put, List.getElem_toArray, List.getElem_cons_zero, List.getElem_cons_succ, List.setIfInBounds_toArray, List.set_cons_zero, List.set_cons_succ]
  refine wpAnyH_take (i := 4) (v := ?_) rfl (by kernel_rfl) (by kernel_rfl) (by kernel_rfl) (fun _ _ _ h => h) (Or.inl ⟨by rfl, ?_⟩) (by assumption) ?_
  rotate_left
  · (intro W hSW; obtain ⟨_, hsw0, hsw1, hsw2⟩ := hSW; go_simp; try with_reducible rfl)
  try simp only [Act.put, List.getElem_toArray, List.getElem_cons_zero, List.getElem_cons_succ, List.setIfInBounds_toArray, List.set_cons_zero, List.set_cons_succ]
  refine wpAnyH_take (i := 5) (v := ?_) rfl (by kernel_rfl) (by kernel_rfl) (by kernel_rfl) (fun _ _ _ h => h) (Or.inl ⟨by rfl, ?_⟩) (by assumption) ?_
  rotate_left
  · (intro W hSW; obtain ⟨_, hsw0, hsw1, hsw2⟩ := hSW; go_simp; try with_reducible rfl)
  try simp only [Act.put, List.getElem_toArray, List.getElem_cons_zero, List.getElem_cons_succ, List.setIfInBounds_toArray, List.set_cons_zero, List.set_cons_succ]
  refine wpAnyH_take (i := 6) (v := ?_) rfl (by kernel_rfl) (by kernel_rfl) (by kernel_rfl) (fun _ _ _ h => h) (Or.inl ⟨by rfl, ?_⟩) (by assumption) ?_
  rotate_left
  · (intro W hSW; obtain ⟨_, hsw0, hsw1, hsw2⟩ := hSW; go_simp; try with_reducible rfl)
  try simp only [Act.put, List.getElem_toArray, List.getElem_cons_zero, List.getElem_cons_succ, List.setIfInBounds_toArray, List.set_cons_zero, List.set_cons_succ]
  refine wpAnyH_take (i := 7) (v := ?_) rfl (by kernel_rfl) (by kernel_rfl) (by kernel_rfl) (fun _ _ _ h => h) (Or.inl ⟨by rfl, ?_⟩) (by assumption) ?_
  rotate_left
  · (intro W hSW; obtain ⟨_, hsw0, hsw1, hsw2⟩ := hSW; go_simp; try with_reducible rfl)
  try simp only [Act.put, List.getElem_toArray, List.getElem_cons_zero, List.getElem_cons_succ, List.setIfInBounds_toArray, List.set_cons_zero, List.set_cons_succ]
  refine wpAnyH_ready (rs := [3]) (by kernel_rfl) (by simp) (AllReadyH.cons rfl (fun K hK => ?_) AllReadyH.nil)
  go_simp
  go_wp2_with (go_at_call 36; refine (refBlanks_any d.pages.length _ L1.out.2).mono ?_; rintro e w3 ⟨v, rfl, hO, hb⟩; obtain ⟨sv, cv, rfl, _⟩ := (Sl.of_own hO).form)
  have O3 := Lib.hid hO
  have V3 := Lib.hid (VD.out.keep hb)
  have R3 := Lib.hid (RD.out.keep hb)
  have Z3 := Lib.hid hb.size
  refine hK.out _ _ ⟨hHeld.1.keep hb, (hb.cell (cell_lt hHeld.2.1)).trans hHeld.2.1, (hb.cell (cell_lt hHeld.2.2.1)).trans hHeld.2.2.1, (hb.cell (cell_lt hHeld.2.2.2)).trans hHeld.2.2.2⟩ (fun hH3 => ?_)
  clear hK K hb hO VD RD
  try simp only [Act.put, List.getElem_toArray, List.getElem_cons_zero, List.getElem_cons_succ, List.setIfInBounds_toArray, List.set_cons_zero, List.set_cons_succ]
  refine wpAnyH_ready (rs := [8]) (by kernel_rfl) (by simp) (AllReadyH.cons rfl (fun K hK => ?_) AllReadyH.nil)
  simp only [List.getElem_toArray, List.getElem_cons_zero, List.getElem_cons_succ]
  rw [if_pos (by rfl)]
  have SF3 : Sl (.slice sf d.faults.length cf) 6 d.faults.length (fltL d.faults) w3 := by
    obtain ⟨_, _, _, e, _, _, h3⟩ := V3.out
    have := congrArg (fun l : List Value => l[4]?) e
    have e4 := Option.some.inj this
    rw [e4]
    exact h3
  with_reducible refine op_allF (by rfl) ?_ ?_ SF3 (fltL_one _) L3.out (fun v4 w4 hO hb => ?_)
  · rfl
  · rfl
  clear SF3
  obtain ⟨sf4, cf4, rfl, _⟩ := (Sl.of_own hO).form
  have O4 := Lib.hid (own_keep O3.out hb)
  have F4 := Lib.hid hO
  have R4 := Lib.hid (R3.out.keep hb)
  have K4 := Lib.hid (fun g e => (O3.out.lt g e).1)
  refine hK.out _ _ ⟨hH3.1.keep hb, (hb.cell (cell_lt hH3.2.1)).trans hH3.2.1, (hb.cell (cell_lt hH3.2.2.1)).trans hH3.2.2.1, (hb.cell (cell_lt hH3.2.2.2)).trans hH3.2.2.2⟩ (fun hH4 => ?_)
  clear hK K hb hO R3
  try simp only [Act.put, List.getElem_toArray, List.getElem_cons_zero, List.getElem_cons_succ, List.setIfInBounds_toArray, List.set_cons_zero, List.set_cons_succ]
  refine wpAnyH_take (i := 9) (v := ?_) rfl (by kernel_rfl) (by kernel_rfl) (by kernel_rfl) (fun _ _ _ h => h) (Or.inl ⟨by rfl, ?_⟩) (by assumption) ?_
  rotate_left
  · (intro W hSW; obtain ⟨_, hsw0, hsw1, hsw2⟩ := hSW; go_simp; try with_reducible rfl)
  try simp only [Act.put, List.getElem_toArray, List.getElem_cons_zero, List.getElem_cons_succ, List.setIfInBounds_toArray, List.set_cons_zero, List.set_cons_succ]
  refine wpAnyH_ready (rs := [10]) (by kernel_rfl) (by simp) (AllReadyH.cons rfl (fun K hK => ?_) AllReadyH.nil)
  have V4 : Hid (DevV (dvals (.slice sv d.pages.length cv) d.writes nil3 false (.slice sf4 d.faults.length cf4)) ⟨blanks d.pages.length, d.writes, [], false, d.faults⟩ w4) := Lib.hid ⟨_, nil3, _, rfl, (show (blanks d.pages.length).length = d.pages.length by simp [blanks]).symm ▸ Sl.of_own O4.out, Sl.nil 1 w4, Sl.of_own F4.out⟩
  simp only [List.getElem_toArray, List.getElem_cons_zero, List.getElem_cons_succ]
  rw [if_pos (by rfl)]
  have hd0 : dev0.length = 5 := rfl
  with_reducible refine op_storeV V4.out R4.out hd0 (by rfl) ?_ ?_ (fun W5 hP hS => ?_)
  · rfl
  · rfl
  have hne : w.heap.size ≠ w0.heap.size := Nat.ne_of_lt hz0
  have R5 := Lib.hid hP
  have N1 : Hid (∀ g, (Value.slice sv d.pages.length cv).ownBlock = some g → w0.heap.size < g) := Lib.hid fun g e => Nat.lt_of_lt_of_le HZ2.out (O4.out.lt g e).1
  have N2 : Hid (∀ g, (Value.slice sf4 d.faults.length cf4).ownBlock = some g → w0.heap.size < g) := Lib.hid fun g e => Nat.lt_of_lt_of_le HZ2.out (Nat.le_trans Z3.out (F4.out.lt g e).1)
  have V5 : Hid (DevV (dvals (.slice sv d.pages.length cv) d.writes nil3 false (.slice sf4 d.faults.length cf4)) ⟨blanks d.pages.length, d.writes, [], false, d.faults⟩ W5) := Lib.hid (devV_stored V4.out hS (fun v hv e => by
    simp only [dvals, List.mem_cons, List.not_mem_nil, or_false] at hv
    rcases hv with rfl | rfl | rfl | rfl | rfl
    · exact Nat.lt_irrefl _ (N1.out _ e)
    · cases e
    · cases e
    · cases e
    · exact Nat.lt_irrefl _ (N2.out _ e)))
  refine hK.out _ _ ⟨hH4.1.stored (fun _ hx => by cases hx) (Nat.le_of_lt hz0) hS, cell_grown hH4.2.1 (stored_grown hS) (cell_lt hH4.2.1) hne, cell_grown hH4.2.2.1 (stored_grown hS) (cell_lt hH4.2.2.1) hne, cell_grown hH4.2.2.2 (stored_grown hS) (cell_lt hH4.2.2.2) hne⟩ (fun hH5 => ?_)
  clear hK K
  try simp only [Act.put, List.getElem_toArray, List.getElem_cons_zero, List.getElem_cons_succ, List.setIfInBounds_toArray, List.set_cons_zero, List.set_cons_succ]
  refine wpAnyH_take (i := 11) (v := ?_) rfl (by kernel_rfl) (by kernel_rfl) (by kernel_rfl) (fun _ _ _ h => h) (Or.inl ⟨by rfl, ?_⟩) (by assumption) ?_
  rotate_left
  · (intro W hSW; obtain ⟨_, hsw0, hsw1, hsw2⟩ := hSW; go_simp; try with_reducible rfl)
  try simp only [Act.put, List.getElem_toArray, List.getElem_cons_zero, List.getElem_cons_succ, List.setIfInBounds_toArray, List.set_cons_zero, List.set_cons_succ]
  refine wpAnyH_done (by kernel_rfl) ?_ _
  go_wp2_with fail
  refine bodyPost_ret (res_devE rfl rfl R5.out rfl) rfl ⟨_, rfl, V5.out, fun b hb => lo_dvals (fun g e => by have := N1.out g e; omega) (fun _ h => by cases h) (fun g e => by have := N2.out g e; omega), hH5.1.2⟩
set_option maxHeartbeats 4000000 in
set_option maxRecDepth 4000 in
theorem refReplace_err (vs : List Value) (d : Dev) (w : World) (h : DevV vs d w) (hf : FitsD d) (hv : validD d = false) :
    Calls Try.prog 30 #[.agg vs.toArray] w fun e w' => ∃ vs', e = .returned (.tuple #[.agg vs'.toArray, .int .i64 15]) ∧ DevV vs' noDev w' ∧ (∀ b, b ≤ w.heap.size → Lo b vs') ∧ Below w.heap.size w w' := by
  obtain ⟨sp, cp, su, cu, sf, cf, rfl, P, U, F⟩ := h.form
  have DV := Lib.hid h
  have HF := Lib.hid hf
  have C1 := Lib.hid hv
  have bd := build_dev0
  clear h P U F hf hv
  go_enter Try.func30, Try.ntmps30
  go_wp2_with (first
    | (refine wp_boxW (dvals (.slice sp d.pages.length cp) d.writes (.slice su d.unr.length cu) d.dead (.slice sf d.faults.length cf)) _ rfl rfl rfl ?_; intro w0 hP hb0 hz0; have HB0 := Lib.hid hb0; have HD0 := Lib.hid hP; clear hP hb0)
    | (refine wp_newW dev0 _ zero_dev rfl rfl ?_; intro w1 hP hb1 hz1; have HB1 := Lib.hid (HB0.out.trans (hb1.mono HB0.out.size)); have HD1 := Lib.hid (HD0.out.keep hb1); have HR1 := Lib.hid hP; have HV1 := Lib.hid (DV.out.keep HB1.out); clear hP hb1 HD0 HB0)
    | (refine wp_loadDev _ _ _ _ _ HD1.out rfl rfl rfl ?_)
    | (go_at_call 23; (with_reducible refine (refValid_b _ d false C1.out _ HV1.out HF.out).mono ?_); rintro e w2 ⟨rfl, hb2⟩; have HB2 := Lib.hid (HB1.out.trans (hb2.mono HB1.out.size)); have HR2 := Lib.hid (HR1.out.keep hb2); clear hb2 HB1 HD1 HR1 HV1)
    | (refine wp_storeDevW nil3 0 nil3 false nil3 (one_slice ..) (one_slice ..) (one_slice ..) HR2.out rfl rfl rfl rfl rfl ?_; intro w9 hP hS; have HR9 := Lib.hid hP; have HB9 := Lib.hid (hS.below HB2.out (by omega)); clear hP hS))
  exact bodyPost_ret (res_devE rfl rfl HR9.out rfl) rfl ⟨_, rfl, devV0 _, fun b _ => lo_zero b, HB9.out⟩
set_option maxHeartbeats 4000000 in
set_option maxRecDepth 4000 in
theorem replace_err (vs : List Value) (d : Dev) (w : World) (h : DevV vs d w) (hf : FitsD d) (hv : validD d = false) :
    Calls Try.prog 29 #[.agg vs.toArray] w fun e w' => ∃ vs', e = .returned (.tuple #[.agg vs'.toArray, .int .i64 15]) ∧ DevV vs' noDev w' ∧ (∀ b, b ≤ w.heap.size → Lo b vs') ∧ Below w.heap.size w w' := by
  obtain ⟨sp, cp, su, cu, sf, cf, rfl, P, U, F⟩ := h.form
  have DV := Lib.hid h
  have HF := Lib.hid hf
  have C1 := Lib.hid hv
  have bd := build_dev0
  clear h P U F hf hv
  go_enter Try.func29, Try.ntmps29
  go_wp2_with (first
    | (refine wp_boxW (dvals (.slice sp d.pages.length cp) d.writes (.slice su d.unr.length cu) d.dead (.slice sf d.faults.length cf)) _ rfl rfl rfl ?_; intro w0 hP hb0 hz0; have HB0 := Lib.hid hb0; have HD0 := Lib.hid hP; clear hP hb0)
    | (refine wp_newW dev0 _ zero_dev rfl rfl ?_; intro w1 hP hb1 hz1; have HB1 := Lib.hid (HB0.out.trans (hb1.mono HB0.out.size)); have HD1 := Lib.hid (HD0.out.keep hb1); have HR1 := Lib.hid hP; have HV1 := Lib.hid (DV.out.keep HB1.out); clear hP hb1 HD0 HB0)
    | (refine wp_loadDev _ _ _ _ _ HD1.out rfl rfl rfl ?_)
    | (go_at_call 22; (with_reducible refine (valid_b _ d false C1.out _ HV1.out HF.out).mono ?_); rintro e w2 ⟨rfl, hb2⟩; have HB2 := Lib.hid (HB1.out.trans (hb2.mono HB1.out.size)); have HR2 := Lib.hid (HR1.out.keep hb2); clear hb2 HB1 HD1 HR1 HV1)
    | (refine wp_storeDevW nil3 0 nil3 false nil3 (one_slice ..) (one_slice ..) (one_slice ..) HR2.out rfl rfl rfl rfl rfl ?_; intro w9 hP hS; have HR9 := Lib.hid hP; have HB9 := Lib.hid (hS.below HB2.out (by omega)); clear hP hS))
  exact bodyPost_ret (res_devE rfl rfl HR9.out rfl) rfl ⟨_, rfl, devV0 _, fun b _ => lo_zero b, HB9.out⟩
end Go.Proofs.Ytikpchhhenonaaa.np
