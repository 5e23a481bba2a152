/- odd. -/
import Derived.Test.YtikpchhhenonaaaNr
import Derived.Test.YtikpchhhenonaaaNq
namespace Go.Proofs.Ytikpchhhenonaaa.ns
open Go.ChangeShapes Go.WideShapes Go.ChangeAt Go.RowKit Go.Proofs.Ytikpchhhenonaaa.cx Go.Proofs.Ytikpchhhenonaaa.ra Go.Proofs.Ytikpchhhenonaaa.la Go.Proofs.Ytikpchhhenonaaa.lb Go.Proofs.Ytikpchhhenonaaa.lc Go.Proofs.Ytikpchhhenonaaa.ld Go.Proofs.Ytikpchhhenonaaa.le Go.Proofs.Ytikpchhhenonaaa.lf Go.Proofs.Ytikpchhhenonaaa.lg Go.Proofs.Ytikpchhhenonaaa.lh Go.Proofs.Ytikpchhhenonaaa.li Go.Proofs.Ytikpchhhenonaaa.lj Go.Proofs.Ytikpchhhenonaaa.lk Go.Proofs.Ytikpchhhenonaaa.ll Go.Proofs.Ytikpchhhenonaaa.lm Go.Proofs.Ytikpchhhenonaaa.ln Go.Proofs.Ytikpchhhenonaaa.lo Go.Proofs.Ytikpchhhenonaaa.lp Go.Proofs.Ytikpchhhenonaaa.lq Go.Proofs.Ytikpchhhenonaaa.lr Go.Proofs.Ytikpchhhenonaaa.ls Go.Proofs.Ytikpchhhenonaaa.lt Go.Proofs.Ytikpchhhenonaaa.lu Go.Proofs.Ytikpchhhenonaaa.lv Go.Proofs.Ytikpchhhenonaaa.lw Go.Proofs.Ytikpchhhenonaaa.lx Go.Proofs.Ytikpchhhenonaaa.ly Go.Proofs.Ytikpchhhenonaaa.na Go.Proofs.Ytikpchhhenonaaa.nc Go.Proofs.Ytikpchhhenonaaa.nd Go.Proofs.Ytikpchhhenonaaa.ne Go.Proofs.Ytikpchhhenonaaa.nf Go.Proofs.Ytikpchhhenonaaa.ng Go.Proofs.Ytikpchhhenonaaa.nj Go.Proofs.Ytikpchhhenonaaa.nk Go.Proofs.Ytikpchhhenonaaa.nq Go.Proofs.Ytikpchhhenonaaa.nr
set_option linter.unusedSimpArgs false
section
variable {o : Oper} {a : Act} {w : World} {Q : Exit → Act → World → Prop} {s x : Operand} {K : Act → World → Prop}
theorem op_buildS (n : ByteArray) (ho : o.op = .buildSlice 23 1 #[(0, x)]) (hx : a.eval x = .string n)
    (h : ∀ W, RowAt w.heap.size [.string n] W → Below w.heap.size w W → w.heap.size < W.heap.size → K (a.put o.dst (.slice (some ⟨w.heap.size, 0, none⟩) 1 1)) W) : o.wp Try.prog a w K Q := by
  have hn := h _ (RowAt.new [.string n] w 9) ((Below.refl _ _).alloc (Nat.le_refl _) _) (by simp)
  have hb := build_str1 n w
  unfold Oper.wp execOp
  simp only [ho]
  simp only [List.map_toArray, List.map_cons, List.map_nil, hx, hb, Sem.run_bind, Result.andThen_ok, Sem.run_pure]
  exact hn
theorem op_appendS (base : Nat) (v : Value) (l : List ByteArray) (n : ByteArray) (T : Nat)
    (ho : o.op = .call { callee := .builtin .append, args := #[s, x], argTypes := #[23, 23] }) (hs : a.eval s = v) (hx : a.eval x = .slice (some ⟨T, 0, none⟩) 1 1)
    (hown : w.ownsRow base 9 1 v l.length (strL l)) (hT : RowAt T [.string n] w) (hn : l.length ≤ 1000) (hbase : base ≤ w.heap.size)
    (h : ∀ v' w', w'.ownsRow base 9 1 v' (l ++ [n]).length (strL (l ++ [n])) → w.grownBy w' v.ownBlock → (∀ g, v'.ownBlock = some g → v.ownBlock = some g ∨ w.heap.size ≤ g) → K (a.put o.dst v') w') : o.wp Try.prog a w K Q := by
  obtain ⟨i, hi, h0, h1, h2⟩ := lc.info_str
  refine wp_append_lies w s x 23 ho base 9 i (.string ByteArray.empty) 1 16 Try.underlying23 hi h0 h1 h2 rfl (by decide) v l.length (strL l) hs hown ⟨T, 0, none⟩ 1 1 [.string n] hx rfl
    (fun j u hu => by rw [Addr.add_lit, Nat.zero_add]; exact hT.cells j u hu) (fun u hu => by simp at hu; rw [hu]; rfl) (by decide) (by unfold maxLen; omega) (by omega) hbase w.heap.size rfl ?_
  intro g cap w' a1 a2 a3 _
  refine h _ _ ?_ a2 fun g' e => ?_
  · rw [List.length_append, show strL (l ++ [n]) = strL l ++ [.string n] by simp [strL]]
    exact a1
  · have e2 : g = g' := Option.some.inj e
    subst e2
    rcases a3 with a3 | a3
    · exact .inl a3
    · exact .inr (by omega)
theorem op_buildI (n : Int) (ho : o.op = .buildSlice 24 1 #[(0, x)]) (hx : a.eval x = .int .i64 n)
    (h : ∀ W, RowAt w.heap.size [.int .i64 n] W → Below w.heap.size w W → w.heap.size < W.heap.size → K (a.put o.dst (.slice (some ⟨w.heap.size, 0, none⟩) 1 1)) W) : o.wp Try.prog a w K Q := by
  have hn := h _ (RowAt.new [.int .i64 n] w 3) ((Below.refl _ _).alloc (Nat.le_refl _) _) (by simp)
  have hb := nc.build_int1 n w
  unfold Oper.wp execOp
  simp only [ho]
  simp only [List.map_toArray, List.map_cons, List.map_nil, hx, hb, Sem.run_bind, Result.andThen_ok, Sem.run_pure]
  exact hn
theorem op_appendI (base : Nat) (v : Value) (l : List Int) (n : Int) (T : Nat)
    (ho : o.op = .call { callee := .builtin .append, args := #[s, x], argTypes := #[24, 24] }) (hs : a.eval s = v) (hx : a.eval x = .slice (some ⟨T, 0, none⟩) 1 1)
    (hown : w.ownsRow base 3 1 v l.length (intL l)) (hT : RowAt T [.int .i64 n] w) (hn : l.length ≤ 1000) (hbase : base ≤ w.heap.size)
    (h : ∀ v' w', w'.ownsRow base 3 1 v' (l ++ [n]).length (intL (l ++ [n])) → w.grownBy w' v.ownBlock → (∀ g, v'.ownBlock = some g → v.ownBlock = some g ∨ w.heap.size ≤ g) → K (a.put o.dst v') w') : o.wp Try.prog a w K Q := by
  obtain ⟨i, hi, h0, h1, h2⟩ := nc.info_int
  refine wp_append_lies w s x 24 ho base 3 i (.int .i64 0) 1 8 Try.underlying24 hi h0 h1 h2 rfl (by decide) v l.length (intL l) hs hown ⟨T, 0, none⟩ 1 1 [.int .i64 n] hx rfl
    (fun j u hu => by rw [Addr.add_lit, Nat.zero_add]; exact hT.cells j u hu) (fun u hu => by simp at hu; rw [hu]; rfl) (by decide) (by unfold maxLen; omega) (by omega) hbase w.heap.size rfl ?_
  intro g cap w' a1 a2 a3 _
  refine h _ _ ?_ a2 fun g' e => ?_
  · rw [List.length_append, show intL (l ++ [n]) = intL l ++ [.int .i64 n] by simp [intL]]
    exact a1
  · have e2 : g = g' := Option.some.inj e
    subst e2
    rcases a3 with a3 | a3
    · exact .inl a3
    · exact .inr (by omega)
end
/-- The list of pages has grown; then it is stored. -/
theorem ro_pages {base B : Nat} {vp vu vf vp' : Value} {d : Dev} {w w' : World} {l : List ByteArray} (h : RO base B vp vu vf d w) (hg : w.grownBy w' vp.ownBlock) (hO : w'.ownsRow base 9 1 vp' l.length (strL l)) (hb : ∀ g, vp'.ownBlock = some g → vp.ownBlock = some g ∨ w.heap.size ≤ g) :
    RowAt B (dvals vp d.writes vu d.dead vf) w' ∧ ∀ w4, StoredAt B w' w4 → RowAt B (dvals vp' d.writes vu d.dead vf) w4 → RO base B vp' vu vf { d with pages := l } w4 := by
  have hb2 : ∀ g, g < w.heap.size → vp.ownBlock ≠ some g → vp'.ownBlock ≠ some g := fun g h1 h2 e => by
    rcases hb g e with h3 | h3
    · exact h2 h3
    · omega
  have hBl := h.row.lt
  refine ⟨h.row.grown hg h.pB, fun w4 hs hr4 => ?_⟩
  have hfB : vp'.ownBlock ≠ some B := hb2 B hBl h.pB
  exact ⟨hr4, own_storedNe hO hs (fun g e e' => hfB (by rw [e, e'])), own_storedNe (own_grown h.unr hg (fun g e e2 => h.pu g e2 e)) hs (fun g e e' => h.uB (by rw [e, e'])),
    own_storedNe (own_grown h.faults hg (fun g e e2 => h.pf g e2 e)) hs (fun g e e' => h.fB (by rw [e, e'])), hfB, h.uB, h.fB, fun g e e2 => hb2 g (h.unr.lt g e2).2 (fun e3 => h.pu g e3 e2) e, fun g e e2 => hb2 g (h.faults.lt g e2).2 (fun e3 => h.pf g e3 e2) e, h.uf, h.bB⟩
/-- The list of unr has grown; then it is stored. -/
theorem ro_unr {base B : Nat} {vp vu vf vu' : Value} {d : Dev} {w w' : World} {l : List Int} (h : RO base B vp vu vf d w) (hg : w.grownBy w' vu.ownBlock) (hO : w'.ownsRow base 3 1 vu' l.length (intL l)) (hb : ∀ g, vu'.ownBlock = some g → vu.ownBlock = some g ∨ w.heap.size ≤ g) :
    RowAt B (dvals vp d.writes vu d.dead vf) w' ∧ ∀ w4, StoredAt B w' w4 → RowAt B (dvals vp d.writes vu' d.dead vf) w4 → RO base B vp vu' vf { d with unr := l } w4 := by
  have hb2 : ∀ g, g < w.heap.size → vu.ownBlock ≠ some g → vu'.ownBlock ≠ some g := fun g h1 h2 e => by
    rcases hb g e with h3 | h3
    · exact h2 h3
    · omega
  have hBl := h.row.lt
  refine ⟨h.row.grown hg h.uB, fun w4 hs hr4 => ?_⟩
  have hfB : vu'.ownBlock ≠ some B := hb2 B hBl h.uB
  exact ⟨hr4, own_storedNe (own_grown h.pages hg (fun g e e2 => h.pu g e e2)) hs (fun g e e' => h.pB (by rw [e, e'])), own_storedNe hO hs (fun g e e' => hfB (by rw [e, e'])),
    own_storedNe (own_grown h.faults hg (fun g e e2 => h.uf g e2 e)) hs (fun g e e' => h.fB (by rw [e, e'])), h.pB, hfB, h.fB, fun g e => hb2 g (h.pages.lt g e).2 (h.pu g e), h.pf, fun g e e2 => hb2 g (h.faults.lt g e2).2 (fun e3 => h.uf g e3 e2) e, h.bB⟩
theorem fits_more {d : Dev} {x : ByteArray} (h : FitsD d) (hx : x.size ≤ 1000) : FitsD { d with pages := d.pages ++ [x] } := fun s hs => by
  rcases List.mem_append.1 hs with h1 | h1
  · exact h s h1
  · obtain rfl : s = x := by simpa using h1
    omega
/-- How many faults a device variable has. -/
def fLen (b : Nat) (w : World) : Nat := match w.cell? ⟨b, 4, none⟩ with
  | some (.slice _ n _) => n
  | _ => 0
theorem fLen_is {base B : Nat} {vp vu vf : Value} {d : Dev} {w : World} (h : RO base B vp vu vf d w) : fLen B w = d.faults.length := by
  obtain ⟨sf, cf, e, _⟩ := (Sl.of_own h.faults).form
  unfold fLen
  rw [h.row.cells 4 vf rfl, e]
/-- What odd gives. -/
abbrev FitA (d : Dev) : Prop := FitsD d ∧ d.pages.length ≤ 64
abbrev FitB (d : Dev) : Prop := FitsD d ∧ d.pages.length ≤ 1000
theorem fitB {d : Dev} (h : FitA d) : FitB d := ⟨h.1, Nat.le_trans h.2 (by decide)⟩
theorem fits_moreB {d : Dev} {x : ByteArray} (h : FitA d) (hx : x.size ≤ 1000) : FitB { d with pages := d.pages ++ [x] } := ⟨fits_more h.1 hx, by
  show (d.pages ++ [x]).length ≤ 1000
  have := h.2
  simp
  omega⟩
def OddL (p : Nat) (w : World) (e : Ending) (w' : World) : Prop := ∃ (vs : List Value) (D : Dev), e = .returned (.agg vs.toArray) ∧ DevV vs D w' ∧ FitsD D ∧ D.pages.length ≤ 1000 ∧ Lo w.heap.size vs ∧ (∃ m', CodL p m' w') ∧ w.grownBy w' (some p)
set_option maxHeartbeats 16000000 in
set_option maxRecDepth 4000 in
theorem odd_any (xc m : Nat) (vs : List Value) (D : Dev) (w : World) (hC : CodL xc m w) (h : DevV vs D w) (hI : DInv D) : Calls Try.prog 16 #[.pointer (some ⟨xc, 0, none⟩), .agg vs.toArray] w (OddL xc w) := by
  obtain ⟨sp, cp, su, cu, sf, cf, rfl, _⟩ := h.form
  have DVV := Lib.hid h
  have CC := Lib.hid hC
  have hxc := codL_lt hC
  have HFD : Hid (FitA D) := Lib.hid ⟨hI.fits, hI.pages.2⟩
  have LP := Lib.hid (show D.pages.length ≤ 1000 by have := hI.pages.2; omega)
  have LU := Lib.hid (show D.unr.length ≤ 1000 by have := hI.unr; omega)
  have LF := Lib.hid (show D.faults.length ≤ 1000 by have := hI.faults; omega)
  have HPL : Hid ((D.pages.length : Int) ≤ 1000000) := Lib.hid (by have := hI.pages.2; omega)
  have L200 := Lib.hid hI.faults
  clear h hC hI
  go_enter Try.func16, Try.ntmps16
  go_upto_block 0 with (first
    | (refine wp_boxW (dvals (.slice sp D.pages.length cp) D.writes (.slice su D.unr.length cu) D.dead (.slice sf D.faults.length cf)) _ rfl rfl rfl ?_; intro w0 hP hb0 hz0; have HD0 := Lib.hid hP; have HV0 := Lib.hid (DVV.out.keep hb0); have C0 := Lib.hid (codL_keep CC.out hb0); have G0 := Lib.hid (grownBy_below (grownBy_refl w (some xc)) hb0); clear hP hb0 CC)
    | (refine wp_newW dev0 _ zero_dev rfl rfl ?_; intro w1 hP hb1 hz1; have Q1 := Lib.hid hP; have HD1 := Lib.hid (HD0.out.keep hb1); have HV1 := Lib.hid (HV0.out.keep hb1); have C1 := Lib.hid (codL_keep C0.out hb1); have G1 := Lib.hid (grownBy_below G0.out hb1); clear hP hb1 HD0 HV0 C0 G0)
    | (refine wp_loadDev _ _ _ _ _ HD1.out rfl rfl rfl ?_)
    | (go_at_call 37; refine (refCopy_any _ D _ HV1.out LP.out LU.out LF.out).mono ?_; rintro e w2 ⟨vp, vu, vf, rfl, o1, o2, o3, p1, p2, p3, hb⟩; have hz2 := hb.size; have HD2 := Lib.hid (HD1.out.keep hb); have Q2 := Lib.hid (Q1.out.keep hb); have C2 := Lib.hid (codL_keep C1.out hb); have G2 := Lib.hid (grownBy_below G1.out hb); have O1 := Lib.hid o1; have O2 := Lib.hid o2; have O3 := Lib.hid o3; have A1 := Lib.hid p1; have A2 := Lib.hid p2; have A3 := Lib.hid p3; clear o1 o2 o3 p1 p2 p3 hb HD1 HV1 Q1 C1 G1)
    | (refine wp_storeDevW vp D.writes vu D.dead vf (one_own O1.out) (one_own O2.out) (one_own O3.out) HD2.out rfl rfl rfl rfl rfl ?_; intro w3 hP hS; have R3 : Hid (RO w.heap.size w.heap.size vp vu vf D w3) := Lib.hid ⟨hP, own_base (own_storedNe O1.out hS (fun g e => by have := (O1.out.lt g e).1; omega)) (by omega), own_base (own_storedNe O2.out hS (fun g e => by have := (O2.out.lt g e).1; omega)) (by omega), own_base (own_storedNe O3.out hS (fun g e => by have := (O3.out.lt g e).1; omega)) (by omega), fun e => by have := (O1.out.lt _ e).1; omega, fun e => by have := (O2.out.lt _ e).1; omega, fun e => by have := (O3.out.lt _ e).1; omega, A1.out, A2.out, A3.out, Nat.le_refl _⟩; have Q3 := Lib.hid (hS.row Q2.out (by omega)); have C3 := Lib.hid (codL_stored C2.out hS hxc); have G3 := Lib.hid (grown_newStored G2.out hS (Nat.le_refl _)); have NP : Hid (vp.ownBlock ≠ some w0.heap.size) := Lib.hid (fun e => by have := (O1.out.lt _ e).1; omega); have NU : Hid (vu.ownBlock ≠ some w0.heap.size) := Lib.hid (fun e => by have := (O2.out.lt _ e).1; omega); have NF : Hid (vf.ownBlock ≠ some w0.heap.size) := Lib.hid (fun e => by have := (O3.out.lt _ e).1; omega); clear hP hS O1 O2 O3 A1 A2 A3 HD2 Q2 C2 G2)
    | (go_at_call 17; refine (nextL_any xc _ 6 _ C3.out (by decide)).mono ?_; rintro e w4 ⟨r, rfl, hr0, hr1, _, ⟨m4, _, _, hC⟩, hg⟩; have R := Lib.hid (R3.out.grown hg (fun e => by have := Option.some.inj e; omega) (fun g e e2 => by have := (R3.out.pages.lt g e).1; have := Option.some.inj e2; omega) (fun g e e2 => by have := (R3.out.unr.lt g e).1; have := Option.some.inj e2; omega) (fun g e e2 => by have := (R3.out.faults.lt g e).1; have := Option.some.inj e2; omega)); have Q := Lib.hid (Q3.out.grown hg (fun e => by have := Option.some.inj e; omega)); have C := Lib.hid hC; have G := Lib.hid (grownBy_trans G3.out hg); clear hr1 hC hg R3 Q3 C3 G3))
  have KR : Hid (xc < w.heap.size ∧ w.heap.size < w0.heap.size) := Lib.hid ⟨hxc, hz0⟩
  generalize w0.heap.size = rb at *
  go_cut [3] from 9 to 66 (fun s3 wx => s3 = .pointer (some ⟨w.heap.size, 0, none⟩) ∧ ∃ (vp vu vf : Value) (D' : Dev) (m' : Nat), RO w.heap.size w.heap.size vp vu vf D' wx ∧ FitB D' ∧ (vp.ownBlock ≠ some rb ∧ vu.ownBlock ≠ some rb ∧ vf.ownBlock ≠ some rb) ∧ RowAt rb dev0 wx ∧ CodL xc m' wx ∧ w.grownBy wx (some xc))
  case first =>
    by_cases k0 : r = 0
    · subst k0
      go_upto_region 4 with fail
      refine wp_region_held_drew (S := fun W => True) (by kernel_rfl) trivial (fun hHeld => ?_)
      refine wpAnyH_take (i := 0) (v := ?_) rfl (by kernel_rfl) (by kernel_rfl) (by kernel_rfl) (fun _ _ _ h => h) (Or.inl ⟨by rfl, ?_⟩) (by assumption) ?_
      rotate_left
      · (intro W hSW; go_simp; try with_reducible rfl)
      try simp only [Act.put, List.getElem_toArray, List.getElem_cons_zero, List.getElem_cons_succ, List.setIfInBounds_toArray, List.set_cons_zero, List.set_cons_succ]
      refine wpAnyH_take (i := 2) (v := ?_) rfl (by kernel_rfl) (by kernel_rfl) (by kernel_rfl) (fun _ _ _ h => h) (Or.inl ⟨by rfl, ?_⟩) (by assumption) ?_
      rotate_left
      · (intro W hSW; go_simp; try with_reducible rfl)
      try simp only [Act.put, List.getElem_toArray, List.getElem_cons_zero, List.getElem_cons_succ, List.setIfInBounds_toArray, List.set_cons_zero, List.set_cons_succ]
      have f4_1 := Lib.hid (R.out.keep (Below.refl _ _).drew)
      have f4_2 := Lib.hid (codL_keep C.out (Below.refl _ _).drew)
      have f4_3 := Lib.hid (grownBy_below G.out (Below.refl _ _).drew)
      have f4_4 := Lib.hid (Q.out.drew)
      refine wpAnyH_ready (rs := [1, 3]) (by kernel_rfl) (by simp) (AllReadyH.cons rfl (fun K hK => ?_) (AllReadyH.cons rfl (fun K hK => ?_) AllReadyH.nil))
      · have v4_5 := f4_1.out.row.cells 0 _ rfl
        go_simp
        refine hK.out _ _ hHeld (fun hH4_6 => ?_)
        clear hK K
        try simp only [Act.put, List.getElem_toArray, List.getElem_cons_zero, List.getElem_cons_succ, List.setIfInBounds_toArray, List.set_cons_zero, List.set_cons_succ]
        clear v4_5
        refine wpAnyH_ready (rs := [3]) (by kernel_rfl) (by simp) (AllReadyH.cons rfl (fun K hK => ?_) AllReadyH.nil)
        · go_simp
          go_wp2_with (go_at_call 19; (with_reducible refine (data_any xc _ _ f4_2.out).mono ?_); rintro e W4_8 ⟨x4_11, rfl, hsz, ⟨_, _, hC4_10⟩, hg4_9⟩)
          have f4_12 := Lib.hid (f4_1.out.grown hg4_9 (fun e => by have := Option.some.inj e; have := KR.out; omega) (fun g e e2 => by have := (f4_1.out.pages.lt g e).1; have := Option.some.inj e2; have := KR.out; omega) (fun g e e2 => by have := (f4_1.out.unr.lt g e).1; have := Option.some.inj e2; have := KR.out; omega) (fun g e e2 => by have := (f4_1.out.faults.lt g e).1; have := Option.some.inj e2; have := KR.out; omega))
          have f4_13 := Lib.hid (hC4_10)
          have f4_14 := Lib.hid (grownBy_trans f4_3.out hg4_9)
          have f4_15 := Lib.hid (f4_4.out.grown hg4_9 (fun e => by have := Option.some.inj e; have := KR.out; omega))
          have f4_16 := Lib.hid hsz
          clear hsz
          refine hK.out _ _ trivial (fun hH4_7 => ?_)
          clear hK K
          try simp only [Act.put, List.getElem_toArray, List.getElem_cons_zero, List.getElem_cons_succ, List.setIfInBounds_toArray, List.set_cons_zero, List.set_cons_succ]
          refine wpAnyH_ready (rs := [4]) (by kernel_rfl) (by simp) (AllReadyH.cons rfl (fun K hK => ?_) AllReadyH.nil)
          · simp only [List.getElem_toArray, List.getElem_cons_zero, List.getElem_cons_succ]
            rw [if_pos (by rfl)]
            with_reducible refine op_buildS x4_11 (by rfl) ?_ (fun W4_18 hP4_19 hb4_20 _ => ?_)
            · rfl
            have f4_21 := Lib.hid (f4_12.out.keep hb4_20)
            have f4_22 := Lib.hid (codL_keep f4_13.out hb4_20)
            have f4_23 := Lib.hid (grownBy_below f4_14.out hb4_20)
            have f4_24 := Lib.hid (f4_15.out.keep hb4_20)
            have f4_25 := Lib.hid (hP4_19)
            refine hK.out _ _ trivial (fun hH4_17 => ?_)
            clear hK K
            try simp only [Act.put, List.getElem_toArray, List.getElem_cons_zero, List.getElem_cons_succ, List.setIfInBounds_toArray, List.set_cons_zero, List.set_cons_succ]
            refine wpAnyH_ready (rs := [5]) (by kernel_rfl) (by simp) (AllReadyH.cons rfl (fun K hK => ?_) AllReadyH.nil)
            simp only [List.getElem_toArray, List.getElem_cons_zero, List.getElem_cons_succ]
            rw [if_pos (by rfl)]
            with_reducible refine op_appendS w.heap.size _ D.pages x4_11 _ (by rfl) ?_ ?_ f4_21.out.pages f4_25.out LP.out (Nat.le_of_lt (Nat.lt_of_lt_of_le f4_21.out.row.lt (Nat.le_refl _))) (fun v4_27 W4_26 hO4_28 hg4_29 hb4_30 => ?_)
            · rfl
            · rfl
            have oc4_37 : v4_27.oneCell' = true := one_own hO4_28
            have f4_35 := Lib.hid (ro_pages f4_21.out hg4_29 hO4_28 hb4_30)
            have f4_32 := Lib.hid (codL_grown f4_22.out hg4_29 (fun k e => by have := (f4_21.out.pages.lt k e).1; have := KR.out; omega))
            have f4_33 := Lib.hid (grown_step f4_23.out hg4_29 (fun k e => (f4_21.out.pages.lt k e).1))
            have f4_36 := Lib.hid (hO4_28)
            have f4_34 := Lib.hid (f4_24.out.grown hg4_29 NP.out)
            have f4_38 : Hid (v4_27.ownBlock ≠ some rb) := Lib.hid (fun e => by have hq := f4_24.out.lt; rcases hb4_30 _ e with h | h; exact NP.out h; omega)
            refine hK.out _ _ trivial (fun hH4_31 => ?_)
            clear hK K
            try simp only [Act.put, List.getElem_toArray, List.getElem_cons_zero, List.getElem_cons_succ, List.setIfInBounds_toArray, List.set_cons_zero, List.set_cons_succ]
            refine wpAnyH_take (i := 6) (v := ?_) rfl (by kernel_rfl) (by kernel_rfl) (by kernel_rfl) (fun _ _ _ h => h) (Or.inl ⟨by rfl, ?_⟩) (by assumption) ?_
            rotate_left
            · (intro W hSW; go_simp; try with_reducible rfl)
            try simp only [Act.put, List.getElem_toArray, List.getElem_cons_zero, List.getElem_cons_succ, List.setIfInBounds_toArray, List.set_cons_zero, List.set_cons_succ]
            refine wpAnyH_ready (rs := [7]) (by kernel_rfl) (by simp) (AllReadyH.cons rfl (fun K hK => ?_) AllReadyH.nil)
            simp only [List.getElem_toArray, List.getElem_cons_zero, List.getElem_cons_succ]
            rw [if_pos (by rfl)]
            with_reducible refine op_storeField (i := 0) 23 v4_27 (cells_own f4_36.out) oc4_37 info_strings1 f4_35.out.1 (by rw [dvals_length]; decide) (by rfl) ?_ ?_ (fun W4_39 hP4_40 hS4_41 => ?_)
            · rfl
            · rfl
            have f4_43 := Lib.hid (f4_35.out.2 W4_39 hS4_41 hP4_40)
            have f4_44 := Lib.hid (codL_stored f4_32.out hS4_41 (by have := KR.out; omega))
            have f4_45 := Lib.hid (grown_newStored f4_33.out hS4_41 (Nat.le_refl _))
            have f4_46 := Lib.hid (hS4_41.row f4_34.out (by have := KR.out; omega))
            refine hK.out _ _ trivial (fun hH4_42 => ?_)
            clear hK K
            try simp only [Act.put, List.getElem_toArray, List.getElem_cons_zero, List.getElem_cons_succ, List.setIfInBounds_toArray, List.set_cons_zero, List.set_cons_succ]
            refine wpAnyH_done (by kernel_rfl) ?_ _
            go_wp2_with fail
            go_meet
            exact ⟨rfl, _, _, _, _, _, f4_43.out, fits_moreB HFD.out f4_16.out, ⟨f4_38.out, NU.out, NF.out⟩, f4_46.out, f4_44.out, f4_45.out⟩
      · go_simp
        go_wp2_with (go_at_call 19; (with_reducible refine (data_any xc _ _ f4_2.out).mono ?_); rintro e W4_48 ⟨x4_51, rfl, hsz, ⟨_, _, hC4_50⟩, hg4_49⟩)
        have f4_52 := Lib.hid (f4_1.out.grown hg4_49 (fun e => by have := Option.some.inj e; have := KR.out; omega) (fun g e e2 => by have := (f4_1.out.pages.lt g e).1; have := Option.some.inj e2; have := KR.out; omega) (fun g e e2 => by have := (f4_1.out.unr.lt g e).1; have := Option.some.inj e2; have := KR.out; omega) (fun g e e2 => by have := (f4_1.out.faults.lt g e).1; have := Option.some.inj e2; have := KR.out; omega))
        have f4_53 := Lib.hid (hC4_50)
        have f4_54 := Lib.hid (grownBy_trans f4_3.out hg4_49)
        have f4_55 := Lib.hid (f4_4.out.grown hg4_49 (fun e => by have := Option.some.inj e; have := KR.out; omega))
        have f4_56 := Lib.hid hsz
        clear hsz
        refine hK.out _ _ trivial (fun hH4_47 => ?_)
        clear hK K
        try simp only [Act.put, List.getElem_toArray, List.getElem_cons_zero, List.getElem_cons_succ, List.setIfInBounds_toArray, List.set_cons_zero, List.set_cons_succ]
        refine wpAnyH_ready (rs := [1, 4]) (by kernel_rfl) (by simp) (AllReadyH.cons rfl (fun K hK => ?_) (AllReadyH.cons rfl (fun K hK => ?_) AllReadyH.nil))
        · have v4_57 := f4_52.out.row.cells 0 _ rfl
          go_simp
          refine hK.out _ _ hH4_47 (fun hH4_58 => ?_)
          clear hK K
          try simp only [Act.put, List.getElem_toArray, List.getElem_cons_zero, List.getElem_cons_succ, List.setIfInBounds_toArray, List.set_cons_zero, List.set_cons_succ]
          clear v4_57
          refine wpAnyH_ready (rs := [4]) (by kernel_rfl) (by simp) (AllReadyH.cons rfl (fun K hK => ?_) AllReadyH.nil)
          · simp only [List.getElem_toArray, List.getElem_cons_zero, List.getElem_cons_succ]
            rw [if_pos (by rfl)]
            with_reducible refine op_buildS x4_51 (by rfl) ?_ (fun W4_60 hP4_61 hb4_62 _ => ?_)
            · rfl
            have f4_63 := Lib.hid (f4_52.out.keep hb4_62)
            have f4_64 := Lib.hid (codL_keep f4_53.out hb4_62)
            have f4_65 := Lib.hid (grownBy_below f4_54.out hb4_62)
            have f4_66 := Lib.hid (f4_55.out.keep hb4_62)
            have f4_67 := Lib.hid (hP4_61)
            refine hK.out _ _ trivial (fun hH4_59 => ?_)
            clear hK K
            try simp only [Act.put, List.getElem_toArray, List.getElem_cons_zero, List.getElem_cons_succ, List.setIfInBounds_toArray, List.set_cons_zero, List.set_cons_succ]
            refine wpAnyH_ready (rs := [5]) (by kernel_rfl) (by simp) (AllReadyH.cons rfl (fun K hK => ?_) AllReadyH.nil)
            simp only [List.getElem_toArray, List.getElem_cons_zero, List.getElem_cons_succ]
            rw [if_pos (by rfl)]
            with_reducible refine op_appendS w.heap.size _ D.pages x4_51 _ (by rfl) ?_ ?_ f4_63.out.pages f4_67.out LP.out (Nat.le_of_lt (Nat.lt_of_lt_of_le f4_63.out.row.lt (Nat.le_refl _))) (fun v4_69 W4_68 hO4_70 hg4_71 hb4_72 => ?_)
            · rfl
            · rfl
            have oc4_79 : v4_69.oneCell' = true := one_own hO4_70
            have f4_77 := Lib.hid (ro_pages f4_63.out hg4_71 hO4_70 hb4_72)
            have f4_74 := Lib.hid (codL_grown f4_64.out hg4_71 (fun k e => by have := (f4_63.out.pages.lt k e).1; have := KR.out; omega))
            have f4_75 := Lib.hid (grown_step f4_65.out hg4_71 (fun k e => (f4_63.out.pages.lt k e).1))
            have f4_78 := Lib.hid (hO4_70)
            have f4_76 := Lib.hid (f4_66.out.grown hg4_71 NP.out)
            have f4_80 : Hid (v4_69.ownBlock ≠ some rb) := Lib.hid (fun e => by have hq := f4_66.out.lt; rcases hb4_72 _ e with h | h; exact NP.out h; omega)
            refine hK.out _ _ trivial (fun hH4_73 => ?_)
            clear hK K
            try simp only [Act.put, List.getElem_toArray, List.getElem_cons_zero, List.getElem_cons_succ, List.setIfInBounds_toArray, List.set_cons_zero, List.set_cons_succ]
            refine wpAnyH_take (i := 6) (v := ?_) rfl (by kernel_rfl) (by kernel_rfl) (by kernel_rfl) (fun _ _ _ h => h) (Or.inl ⟨by rfl, ?_⟩) (by assumption) ?_
            rotate_left
            · (intro W hSW; go_simp; try with_reducible rfl)
            try simp only [Act.put, List.getElem_toArray, List.getElem_cons_zero, List.getElem_cons_succ, List.setIfInBounds_toArray, List.set_cons_zero, List.set_cons_succ]
            refine wpAnyH_ready (rs := [7]) (by kernel_rfl) (by simp) (AllReadyH.cons rfl (fun K hK => ?_) AllReadyH.nil)
            simp only [List.getElem_toArray, List.getElem_cons_zero, List.getElem_cons_succ]
            rw [if_pos (by rfl)]
            with_reducible refine op_storeField (i := 0) 23 v4_69 (cells_own f4_78.out) oc4_79 info_strings1 f4_77.out.1 (by rw [dvals_length]; decide) (by rfl) ?_ ?_ (fun W4_81 hP4_82 hS4_83 => ?_)
            · rfl
            · rfl
            have f4_85 := Lib.hid (f4_77.out.2 W4_81 hS4_83 hP4_82)
            have f4_86 := Lib.hid (codL_stored f4_74.out hS4_83 (by have := KR.out; omega))
            have f4_87 := Lib.hid (grown_newStored f4_75.out hS4_83 (Nat.le_refl _))
            have f4_88 := Lib.hid (hS4_83.row f4_76.out (by have := KR.out; omega))
            refine hK.out _ _ trivial (fun hH4_84 => ?_)
            clear hK K
            try simp only [Act.put, List.getElem_toArray, List.getElem_cons_zero, List.getElem_cons_succ, List.setIfInBounds_toArray, List.set_cons_zero, List.set_cons_succ]
            refine wpAnyH_done (by kernel_rfl) ?_ _
            go_wp2_with fail
            go_meet
            exact ⟨rfl, _, _, _, _, _, f4_85.out, fits_moreB HFD.out f4_56.out, ⟨f4_80.out, NU.out, NF.out⟩, f4_88.out, f4_86.out, f4_87.out⟩
        · simp only [List.getElem_toArray, List.getElem_cons_zero, List.getElem_cons_succ]
          rw [if_pos (by rfl)]
          with_reducible refine op_buildS x4_51 (by rfl) ?_ (fun W4_90 hP4_91 hb4_92 _ => ?_)
          · rfl
          have f4_93 := Lib.hid (f4_52.out.keep hb4_92)
          have f4_94 := Lib.hid (codL_keep f4_53.out hb4_92)
          have f4_95 := Lib.hid (grownBy_below f4_54.out hb4_92)
          have f4_96 := Lib.hid (f4_55.out.keep hb4_92)
          have f4_97 := Lib.hid (hP4_91)
          refine hK.out _ _ trivial (fun hH4_89 => ?_)
          clear hK K
          try simp only [Act.put, List.getElem_toArray, List.getElem_cons_zero, List.getElem_cons_succ, List.setIfInBounds_toArray, List.set_cons_zero, List.set_cons_succ]
          refine wpAnyH_ready (rs := [1]) (by kernel_rfl) (by simp) (AllReadyH.cons rfl (fun K hK => ?_) AllReadyH.nil)
          · have v4_98 := f4_93.out.row.cells 0 _ rfl
            go_simp
            refine hK.out _ _ hH4_89 (fun hH4_99 => ?_)
            clear hK K
            try simp only [Act.put, List.getElem_toArray, List.getElem_cons_zero, List.getElem_cons_succ, List.setIfInBounds_toArray, List.set_cons_zero, List.set_cons_succ]
            clear v4_98
            refine wpAnyH_ready (rs := [5]) (by kernel_rfl) (by simp) (AllReadyH.cons rfl (fun K hK => ?_) AllReadyH.nil)
            simp only [List.getElem_toArray, List.getElem_cons_zero, List.getElem_cons_succ]
            rw [if_pos (by rfl)]
            with_reducible refine op_appendS w.heap.size _ D.pages x4_51 _ (by rfl) ?_ ?_ f4_93.out.pages f4_97.out LP.out (Nat.le_of_lt (Nat.lt_of_lt_of_le f4_93.out.row.lt (Nat.le_refl _))) (fun v4_101 W4_100 hO4_102 hg4_103 hb4_104 => ?_)
            · rfl
            · rfl
            have oc4_111 : v4_101.oneCell' = true := one_own hO4_102
            have f4_109 := Lib.hid (ro_pages f4_93.out hg4_103 hO4_102 hb4_104)
            have f4_106 := Lib.hid (codL_grown f4_94.out hg4_103 (fun k e => by have := (f4_93.out.pages.lt k e).1; have := KR.out; omega))
            have f4_107 := Lib.hid (grown_step f4_95.out hg4_103 (fun k e => (f4_93.out.pages.lt k e).1))
            have f4_110 := Lib.hid (hO4_102)
            have f4_108 := Lib.hid (f4_96.out.grown hg4_103 NP.out)
            have f4_112 : Hid (v4_101.ownBlock ≠ some rb) := Lib.hid (fun e => by have hq := f4_96.out.lt; rcases hb4_104 _ e with h | h; exact NP.out h; omega)
            refine hK.out _ _ trivial (fun hH4_105 => ?_)
            clear hK K
            try simp only [Act.put, List.getElem_toArray, List.getElem_cons_zero, List.getElem_cons_succ, List.setIfInBounds_toArray, List.set_cons_zero, List.set_cons_succ]
            refine wpAnyH_take (i := 6) (v := ?_) rfl (by kernel_rfl) (by kernel_rfl) (by kernel_rfl) (fun _ _ _ h => h) (Or.inl ⟨by rfl, ?_⟩) (by assumption) ?_
            rotate_left
            · (intro W hSW; go_simp; try with_reducible rfl)
            try simp only [Act.put, List.getElem_toArray, List.getElem_cons_zero, List.getElem_cons_succ, List.setIfInBounds_toArray, List.set_cons_zero, List.set_cons_succ]
            refine wpAnyH_ready (rs := [7]) (by kernel_rfl) (by simp) (AllReadyH.cons rfl (fun K hK => ?_) AllReadyH.nil)
            simp only [List.getElem_toArray, List.getElem_cons_zero, List.getElem_cons_succ]
            rw [if_pos (by rfl)]
            with_reducible refine op_storeField (i := 0) 23 v4_101 (cells_own f4_110.out) oc4_111 info_strings1 f4_109.out.1 (by rw [dvals_length]; decide) (by rfl) ?_ ?_ (fun W4_113 hP4_114 hS4_115 => ?_)
            · rfl
            · rfl
            have f4_117 := Lib.hid (f4_109.out.2 W4_113 hS4_115 hP4_114)
            have f4_118 := Lib.hid (codL_stored f4_106.out hS4_115 (by have := KR.out; omega))
            have f4_119 := Lib.hid (grown_newStored f4_107.out hS4_115 (Nat.le_refl _))
            have f4_120 := Lib.hid (hS4_115.row f4_108.out (by have := KR.out; omega))
            refine hK.out _ _ trivial (fun hH4_116 => ?_)
            clear hK K
            try simp only [Act.put, List.getElem_toArray, List.getElem_cons_zero, List.getElem_cons_succ, List.setIfInBounds_toArray, List.set_cons_zero, List.set_cons_succ]
            refine wpAnyH_done (by kernel_rfl) ?_ _
            go_wp2_with fail
            go_meet
            exact ⟨rfl, _, _, _, _, _, f4_117.out, fits_moreB HFD.out f4_56.out, ⟨f4_112.out, NU.out, NF.out⟩, f4_120.out, f4_118.out, f4_119.out⟩
    by_cases k1 : r = 1
    · subst k1
      go_wp2_with (first
        | (go_at_call 38; refine (int_any xc _ _ C.out).mono ?_; rintro e w5 ⟨x, rfl, ⟨m5, _, hC⟩, hg⟩; have R5 := Lib.hid (R.out.grown hg (fun e => by have := Option.some.inj e; have := KR.out; omega) (fun g e e2 => by have := (R.out.pages.lt g e).1; have := Option.some.inj e2; have := KR.out; omega) (fun g e e2 => by have := (R.out.unr.lt g e).1; have := Option.some.inj e2; have := KR.out; omega) (fun g e e2 => by have := (R.out.faults.lt g e).1; have := Option.some.inj e2; have := KR.out; omega)); have Q5 := Lib.hid (Q.out.grown hg (fun e => by have := Option.some.inj e; have := KR.out; omega)); have C5 := Lib.hid hC; have G5 := Lib.hid (grownBy_trans G.out hg); clear hC hg R Q C G)
        | (refine wp_storeFieldW 3 (.int .i64 x) rfl rfl info_int1 R5.out.row (by rw [dvals_length]; decide) rfl rfl rfl rfl ?_; intro w6 hP hS; have R6 : Hid (RO w.heap.size w.heap.size vp vu vf { D with writes := x } w6) := Lib.hid (R5.out.setRow (n := x) (b := D.dead) hS hP rfl); have Q6 := Lib.hid (hS.row Q5.out (by have := KR.out; omega)); have C6 := Lib.hid (codL_stored C5.out hS KR.out.1); have G6 := Lib.hid (grown_newStored G5.out hS (Nat.le_refl _)); clear hP hS))
      go_meet
      exact ⟨rfl, _, _, _, _, _, R6.out, fitB HFD.out, ⟨NP.out, NU.out, NF.out⟩, Q6.out, C6.out, G6.out⟩
    by_cases k2 : r = 2
    · subst k2
      go_upto_region 8 with fail
      refine wp_region_held_drew (S := fun W => True) (by kernel_rfl) trivial (fun hHeld => ?_)
      refine wpAnyH_take (i := 0) (v := ?_) rfl (by kernel_rfl) (by kernel_rfl) (by kernel_rfl) (fun _ _ _ h => h) (Or.inl ⟨by rfl, ?_⟩) (by assumption) ?_
      rotate_left
      · (intro W hSW; go_simp; try with_reducible rfl)
      try simp only [Act.put, List.getElem_toArray, List.getElem_cons_zero, List.getElem_cons_succ, List.setIfInBounds_toArray, List.set_cons_zero, List.set_cons_succ]
      refine wpAnyH_take (i := 2) (v := ?_) rfl (by kernel_rfl) (by kernel_rfl) (by kernel_rfl) (fun _ _ _ h => h) (Or.inl ⟨by rfl, ?_⟩) (by assumption) ?_
      rotate_left
      · (intro W hSW; go_simp; try with_reducible rfl)
      try simp only [Act.put, List.getElem_toArray, List.getElem_cons_zero, List.getElem_cons_succ, List.setIfInBounds_toArray, List.set_cons_zero, List.set_cons_succ]
      have f8_1 := Lib.hid (R.out.keep (Below.refl _ _).drew)
      have f8_2 := Lib.hid (codL_keep C.out (Below.refl _ _).drew)
      have f8_3 := Lib.hid (grownBy_below G.out (Below.refl _ _).drew)
      have f8_4 := Lib.hid (Q.out.drew)
      refine wpAnyH_ready (rs := [1, 3]) (by kernel_rfl) (by simp) (AllReadyH.cons rfl (fun K hK => ?_) (AllReadyH.cons rfl (fun K hK => ?_) AllReadyH.nil))
      · have v8_5 := f8_1.out.row.cells 2 _ rfl
        go_simp
        refine hK.out _ _ hHeld (fun hH8_6 => ?_)
        clear hK K
        try simp only [Act.put, List.getElem_toArray, List.getElem_cons_zero, List.getElem_cons_succ, List.setIfInBounds_toArray, List.set_cons_zero, List.set_cons_succ]
        clear v8_5
        refine wpAnyH_ready (rs := [3]) (by kernel_rfl) (by simp) (AllReadyH.cons rfl (fun K hK => ?_) AllReadyH.nil)
        · go_simp
          go_wp2_with (go_at_call 17; (with_reducible refine (nextL_any xc _ 5 _ f8_2.out (by decide)).mono ?_); rintro e W8_8 ⟨x8_11, rfl, _, _, _, ⟨_, _, _, hC8_10⟩, hg8_9⟩)
          have f8_12 := Lib.hid (f8_1.out.grown hg8_9 (fun e => by have := Option.some.inj e; have := KR.out; omega) (fun g e e2 => by have := (f8_1.out.pages.lt g e).1; have := Option.some.inj e2; have := KR.out; omega) (fun g e e2 => by have := (f8_1.out.unr.lt g e).1; have := Option.some.inj e2; have := KR.out; omega) (fun g e e2 => by have := (f8_1.out.faults.lt g e).1; have := Option.some.inj e2; have := KR.out; omega))
          have f8_13 := Lib.hid (hC8_10)
          have f8_14 := Lib.hid (grownBy_trans f8_3.out hg8_9)
          have f8_15 := Lib.hid (f8_4.out.grown hg8_9 (fun e => by have := Option.some.inj e; have := KR.out; omega))
          refine hK.out _ _ trivial (fun hH8_7 => ?_)
          clear hK K
          try simp only [Act.put, List.getElem_toArray, List.getElem_cons_zero, List.getElem_cons_succ, List.setIfInBounds_toArray, List.set_cons_zero, List.set_cons_succ]
          refine wpAnyH_ready (rs := [4]) (by kernel_rfl) (by simp) (AllReadyH.cons rfl (fun K hK => ?_) AllReadyH.nil)
          · simp only [List.getElem_toArray, List.getElem_cons_zero, List.getElem_cons_succ]
            rw [if_pos (by rfl)]
            with_reducible refine op_buildI x8_11 (by rfl) ?_ (fun W8_17 hP8_18 hb8_19 _ => ?_)
            · rfl
            have f8_20 := Lib.hid (f8_12.out.keep hb8_19)
            have f8_21 := Lib.hid (codL_keep f8_13.out hb8_19)
            have f8_22 := Lib.hid (grownBy_below f8_14.out hb8_19)
            have f8_23 := Lib.hid (f8_15.out.keep hb8_19)
            have f8_24 := Lib.hid (hP8_18)
            refine hK.out _ _ trivial (fun hH8_16 => ?_)
            clear hK K
            try simp only [Act.put, List.getElem_toArray, List.getElem_cons_zero, List.getElem_cons_succ, List.setIfInBounds_toArray, List.set_cons_zero, List.set_cons_succ]
            refine wpAnyH_ready (rs := [5]) (by kernel_rfl) (by simp) (AllReadyH.cons rfl (fun K hK => ?_) AllReadyH.nil)
            simp only [List.getElem_toArray, List.getElem_cons_zero, List.getElem_cons_succ]
            rw [if_pos (by rfl)]
            with_reducible refine op_appendI w.heap.size _ D.unr x8_11 _ (by rfl) ?_ ?_ f8_20.out.unr f8_24.out LU.out (Nat.le_of_lt (Nat.lt_of_lt_of_le f8_20.out.row.lt (Nat.le_refl _))) (fun v8_26 W8_25 hO8_27 hg8_28 hb8_29 => ?_)
            · rfl
            · rfl
            have oc8_36 : v8_26.oneCell' = true := one_own hO8_27
            have f8_34 := Lib.hid (ro_unr f8_20.out hg8_28 hO8_27 hb8_29)
            have f8_31 := Lib.hid (codL_grown f8_21.out hg8_28 (fun k e => by have := (f8_20.out.unr.lt k e).1; have := KR.out; omega))
            have f8_32 := Lib.hid (grown_step f8_22.out hg8_28 (fun k e => (f8_20.out.unr.lt k e).1))
            have f8_35 := Lib.hid (hO8_27)
            have f8_33 := Lib.hid (f8_23.out.grown hg8_28 NU.out)
            have f8_37 : Hid (v8_26.ownBlock ≠ some rb) := Lib.hid (fun e => by have hq := f8_23.out.lt; rcases hb8_29 _ e with h | h; exact NU.out h; omega)
            refine hK.out _ _ trivial (fun hH8_30 => ?_)
            clear hK K
            try simp only [Act.put, List.getElem_toArray, List.getElem_cons_zero, List.getElem_cons_succ, List.setIfInBounds_toArray, List.set_cons_zero, List.set_cons_succ]
            refine wpAnyH_take (i := 6) (v := ?_) rfl (by kernel_rfl) (by kernel_rfl) (by kernel_rfl) (fun _ _ _ h => h) (Or.inl ⟨by rfl, ?_⟩) (by assumption) ?_
            rotate_left
            · (intro W hSW; go_simp; try with_reducible rfl)
            try simp only [Act.put, List.getElem_toArray, List.getElem_cons_zero, List.getElem_cons_succ, List.setIfInBounds_toArray, List.set_cons_zero, List.set_cons_succ]
            refine wpAnyH_ready (rs := [7]) (by kernel_rfl) (by simp) (AllReadyH.cons rfl (fun K hK => ?_) AllReadyH.nil)
            simp only [List.getElem_toArray, List.getElem_cons_zero, List.getElem_cons_succ]
            rw [if_pos (by rfl)]
            with_reducible refine op_storeField (i := 2) 24 v8_26 (cells_own f8_35.out) oc8_36 info_ints1 f8_34.out.1 (by rw [dvals_length]; decide) (by rfl) ?_ ?_ (fun W8_38 hP8_39 hS8_40 => ?_)
            · rfl
            · rfl
            have f8_42 := Lib.hid (f8_34.out.2 W8_38 hS8_40 hP8_39)
            have f8_43 := Lib.hid (codL_stored f8_31.out hS8_40 (by have := KR.out; omega))
            have f8_44 := Lib.hid (grown_newStored f8_32.out hS8_40 (Nat.le_refl _))
            have f8_45 := Lib.hid (hS8_40.row f8_33.out (by have := KR.out; omega))
            refine hK.out _ _ trivial (fun hH8_41 => ?_)
            clear hK K
            try simp only [Act.put, List.getElem_toArray, List.getElem_cons_zero, List.getElem_cons_succ, List.setIfInBounds_toArray, List.set_cons_zero, List.set_cons_succ]
            refine wpAnyH_done (by kernel_rfl) ?_ _
            go_wp2_with fail
            go_meet
            exact ⟨rfl, _, _, _, _, _, f8_42.out, fitB HFD.out, ⟨NP.out, f8_37.out, NF.out⟩, f8_45.out, f8_43.out, f8_44.out⟩
      · go_simp
        go_wp2_with (go_at_call 17; (with_reducible refine (nextL_any xc _ 5 _ f8_2.out (by decide)).mono ?_); rintro e W8_47 ⟨x8_50, rfl, _, _, _, ⟨_, _, _, hC8_49⟩, hg8_48⟩)
        have f8_51 := Lib.hid (f8_1.out.grown hg8_48 (fun e => by have := Option.some.inj e; have := KR.out; omega) (fun g e e2 => by have := (f8_1.out.pages.lt g e).1; have := Option.some.inj e2; have := KR.out; omega) (fun g e e2 => by have := (f8_1.out.unr.lt g e).1; have := Option.some.inj e2; have := KR.out; omega) (fun g e e2 => by have := (f8_1.out.faults.lt g e).1; have := Option.some.inj e2; have := KR.out; omega))
        have f8_52 := Lib.hid (hC8_49)
        have f8_53 := Lib.hid (grownBy_trans f8_3.out hg8_48)
        have f8_54 := Lib.hid (f8_4.out.grown hg8_48 (fun e => by have := Option.some.inj e; have := KR.out; omega))
        refine hK.out _ _ trivial (fun hH8_46 => ?_)
        clear hK K
        try simp only [Act.put, List.getElem_toArray, List.getElem_cons_zero, List.getElem_cons_succ, List.setIfInBounds_toArray, List.set_cons_zero, List.set_cons_succ]
        refine wpAnyH_ready (rs := [1, 4]) (by kernel_rfl) (by simp) (AllReadyH.cons rfl (fun K hK => ?_) (AllReadyH.cons rfl (fun K hK => ?_) AllReadyH.nil))
        · have v8_55 := f8_51.out.row.cells 2 _ rfl
          go_simp
          refine hK.out _ _ hH8_46 (fun hH8_56 => ?_)
          clear hK K
          try simp only [Act.put, List.getElem_toArray, List.getElem_cons_zero, List.getElem_cons_succ, List.setIfInBounds_toArray, List.set_cons_zero, List.set_cons_succ]
          clear v8_55
          refine wpAnyH_ready (rs := [4]) (by kernel_rfl) (by simp) (AllReadyH.cons rfl (fun K hK => ?_) AllReadyH.nil)
          · simp only [List.getElem_toArray, List.getElem_cons_zero, List.getElem_cons_succ]
            rw [if_pos (by rfl)]
            with_reducible refine op_buildI x8_50 (by rfl) ?_ (fun W8_58 hP8_59 hb8_60 _ => ?_)
            · rfl
            have f8_61 := Lib.hid (f8_51.out.keep hb8_60)
            have f8_62 := Lib.hid (codL_keep f8_52.out hb8_60)
            have f8_63 := Lib.hid (grownBy_below f8_53.out hb8_60)
            have f8_64 := Lib.hid (f8_54.out.keep hb8_60)
            have f8_65 := Lib.hid (hP8_59)
            refine hK.out _ _ trivial (fun hH8_57 => ?_)
            clear hK K
            try simp only [Act.put, List.getElem_toArray, List.getElem_cons_zero, List.getElem_cons_succ, List.setIfInBounds_toArray, List.set_cons_zero, List.set_cons_succ]
            refine wpAnyH_ready (rs := [5]) (by kernel_rfl) (by simp) (AllReadyH.cons rfl (fun K hK => ?_) AllReadyH.nil)
            simp only [List.getElem_toArray, List.getElem_cons_zero, List.getElem_cons_succ]
            rw [if_pos (by rfl)]
            with_reducible refine op_appendI w.heap.size _ D.unr x8_50 _ (by rfl) ?_ ?_ f8_61.out.unr f8_65.out LU.out (Nat.le_of_lt (Nat.lt_of_lt_of_le f8_61.out.row.lt (Nat.le_refl _))) (fun v8_67 W8_66 hO8_68 hg8_69 hb8_70 => ?_)
            · rfl
            · rfl
            have oc8_77 : v8_67.oneCell' = true := one_own hO8_68
            have f8_75 := Lib.hid (ro_unr f8_61.out hg8_69 hO8_68 hb8_70)
            have f8_72 := Lib.hid (codL_grown f8_62.out hg8_69 (fun k e => by have := (f8_61.out.unr.lt k e).1; have := KR.out; omega))
            have f8_73 := Lib.hid (grown_step f8_63.out hg8_69 (fun k e => (f8_61.out.unr.lt k e).1))
            have f8_76 := Lib.hid (hO8_68)
            have f8_74 := Lib.hid (f8_64.out.grown hg8_69 NU.out)
            have f8_78 : Hid (v8_67.ownBlock ≠ some rb) := Lib.hid (fun e => by have hq := f8_64.out.lt; rcases hb8_70 _ e with h | h; exact NU.out h; omega)
            refine hK.out _ _ trivial (fun hH8_71 => ?_)
            clear hK K
            try simp only [Act.put, List.getElem_toArray, List.getElem_cons_zero, List.getElem_cons_succ, List.setIfInBounds_toArray, List.set_cons_zero, List.set_cons_succ]
            refine wpAnyH_take (i := 6) (v := ?_) rfl (by kernel_rfl) (by kernel_rfl) (by kernel_rfl) (fun _ _ _ h => h) (Or.inl ⟨by rfl, ?_⟩) (by assumption) ?_
            rotate_left
            · (intro W hSW; go_simp; try with_reducible rfl)
            try simp only [Act.put, List.getElem_toArray, List.getElem_cons_zero, List.getElem_cons_succ, List.setIfInBounds_toArray, List.set_cons_zero, List.set_cons_succ]
            refine wpAnyH_ready (rs := [7]) (by kernel_rfl) (by simp) (AllReadyH.cons rfl (fun K hK => ?_) AllReadyH.nil)
            simp only [List.getElem_toArray, List.getElem_cons_zero, List.getElem_cons_succ]
            rw [if_pos (by rfl)]
            with_reducible refine op_storeField (i := 2) 24 v8_67 (cells_own f8_76.out) oc8_77 info_ints1 f8_75.out.1 (by rw [dvals_length]; decide) (by rfl) ?_ ?_ (fun W8_79 hP8_80 hS8_81 => ?_)
            · rfl
            · rfl
            have f8_83 := Lib.hid (f8_75.out.2 W8_79 hS8_81 hP8_80)
            have f8_84 := Lib.hid (codL_stored f8_72.out hS8_81 (by have := KR.out; omega))
            have f8_85 := Lib.hid (grown_newStored f8_73.out hS8_81 (Nat.le_refl _))
            have f8_86 := Lib.hid (hS8_81.row f8_74.out (by have := KR.out; omega))
            refine hK.out _ _ trivial (fun hH8_82 => ?_)
            clear hK K
            try simp only [Act.put, List.getElem_toArray, List.getElem_cons_zero, List.getElem_cons_succ, List.setIfInBounds_toArray, List.set_cons_zero, List.set_cons_succ]
            refine wpAnyH_done (by kernel_rfl) ?_ _
            go_wp2_with fail
            go_meet
            exact ⟨rfl, _, _, _, _, _, f8_83.out, fitB HFD.out, ⟨NP.out, f8_78.out, NF.out⟩, f8_86.out, f8_84.out, f8_85.out⟩
        · simp only [List.getElem_toArray, List.getElem_cons_zero, List.getElem_cons_succ]
          rw [if_pos (by rfl)]
          with_reducible refine op_buildI x8_50 (by rfl) ?_ (fun W8_88 hP8_89 hb8_90 _ => ?_)
          · rfl
          have f8_91 := Lib.hid (f8_51.out.keep hb8_90)
          have f8_92 := Lib.hid (codL_keep f8_52.out hb8_90)
          have f8_93 := Lib.hid (grownBy_below f8_53.out hb8_90)
          have f8_94 := Lib.hid (f8_54.out.keep hb8_90)
          have f8_95 := Lib.hid (hP8_89)
          refine hK.out _ _ trivial (fun hH8_87 => ?_)
          clear hK K
          try simp only [Act.put, List.getElem_toArray, List.getElem_cons_zero, List.getElem_cons_succ, List.setIfInBounds_toArray, List.set_cons_zero, List.set_cons_succ]
          refine wpAnyH_ready (rs := [1]) (by kernel_rfl) (by simp) (AllReadyH.cons rfl (fun K hK => ?_) AllReadyH.nil)
          · have v8_96 := f8_91.out.row.cells 2 _ rfl
            go_simp
            refine hK.out _ _ hH8_87 (fun hH8_97 => ?_)
            clear hK K
            try simp only [Act.put, List.getElem_toArray, List.getElem_cons_zero, List.getElem_cons_succ, List.setIfInBounds_toArray, List.set_cons_zero, List.set_cons_succ]
            clear v8_96
            refine wpAnyH_ready (rs := [5]) (by kernel_rfl) (by simp) (AllReadyH.cons rfl (fun K hK => ?_) AllReadyH.nil)
            simp only [List.getElem_toArray, List.getElem_cons_zero, List.getElem_cons_succ]
            rw [if_pos (by rfl)]
            with_reducible refine op_appendI w.heap.size _ D.unr x8_50 _ (by rfl) ?_ ?_ f8_91.out.unr f8_95.out LU.out (Nat.le_of_lt (Nat.lt_of_lt_of_le f8_91.out.row.lt (Nat.le_refl _))) (fun v8_99 W8_98 hO8_100 hg8_101 hb8_102 => ?_)
            · rfl
            · rfl
            have oc8_109 : v8_99.oneCell' = true := one_own hO8_100
            have f8_107 := Lib.hid (ro_unr f8_91.out hg8_101 hO8_100 hb8_102)
            have f8_104 := Lib.hid (codL_grown f8_92.out hg8_101 (fun k e => by have := (f8_91.out.unr.lt k e).1; have := KR.out; omega))
            have f8_105 := Lib.hid (grown_step f8_93.out hg8_101 (fun k e => (f8_91.out.unr.lt k e).1))
            have f8_108 := Lib.hid (hO8_100)
            have f8_106 := Lib.hid (f8_94.out.grown hg8_101 NU.out)
            have f8_110 : Hid (v8_99.ownBlock ≠ some rb) := Lib.hid (fun e => by have hq := f8_94.out.lt; rcases hb8_102 _ e with h | h; exact NU.out h; omega)
            refine hK.out _ _ trivial (fun hH8_103 => ?_)
            clear hK K
            try simp only [Act.put, List.getElem_toArray, List.getElem_cons_zero, List.getElem_cons_succ, List.setIfInBounds_toArray, List.set_cons_zero, List.set_cons_succ]
            refine wpAnyH_take (i := 6) (v := ?_) rfl (by kernel_rfl) (by kernel_rfl) (by kernel_rfl) (fun _ _ _ h => h) (Or.inl ⟨by rfl, ?_⟩) (by assumption) ?_
            rotate_left
            · (intro W hSW; go_simp; try with_reducible rfl)
            try simp only [Act.put, List.getElem_toArray, List.getElem_cons_zero, List.getElem_cons_succ, List.setIfInBounds_toArray, List.set_cons_zero, List.set_cons_succ]
            refine wpAnyH_ready (rs := [7]) (by kernel_rfl) (by simp) (AllReadyH.cons rfl (fun K hK => ?_) AllReadyH.nil)
            simp only [List.getElem_toArray, List.getElem_cons_zero, List.getElem_cons_succ]
            rw [if_pos (by rfl)]
            with_reducible refine op_storeField (i := 2) 24 v8_99 (cells_own f8_108.out) oc8_109 info_ints1 f8_107.out.1 (by rw [dvals_length]; decide) (by rfl) ?_ ?_ (fun W8_111 hP8_112 hS8_113 => ?_)
            · rfl
            · rfl
            have f8_115 := Lib.hid (f8_107.out.2 W8_111 hS8_113 hP8_112)
            have f8_116 := Lib.hid (codL_stored f8_104.out hS8_113 (by have := KR.out; omega))
            have f8_117 := Lib.hid (grown_newStored f8_105.out hS8_113 (Nat.le_refl _))
            have f8_118 := Lib.hid (hS8_113.row f8_106.out (by have := KR.out; omega))
            refine hK.out _ _ trivial (fun hH8_114 => ?_)
            clear hK K
            try simp only [Act.put, List.getElem_toArray, List.getElem_cons_zero, List.getElem_cons_succ, List.setIfInBounds_toArray, List.set_cons_zero, List.set_cons_succ]
            refine wpAnyH_done (by kernel_rfl) ?_ _
            go_wp2_with fail
            go_meet
            exact ⟨rfl, _, _, _, _, _, f8_115.out, fitB HFD.out, ⟨NP.out, f8_110.out, NF.out⟩, f8_118.out, f8_116.out, f8_117.out⟩
    by_cases k3 : r = 3
    · subst k3
      obtain ⟨a0, a1, a2, a3, a4⟩ := R.out.row.all5
      go_wp2_with (refine wp_storeFieldW 4 (.bool (!D.dead)) rfl rfl info_bool1 R.out.row (by rw [dvals_length]; decide) rfl rfl rfl rfl ?_; intro w6 hP hS; have R6 : Hid (RO w.heap.size w.heap.size vp vu vf { D with dead := !D.dead } w6) := Lib.hid (R.out.setRow (n := D.writes) (b := !D.dead) hS hP rfl); have Q6 := Lib.hid (hS.row Q.out (by have := KR.out; omega)); have C6 := Lib.hid (codL_stored C.out hS KR.out.1); have G6 := Lib.hid (grown_newStored G.out hS (Nat.le_refl _)); clear hP hS a0 a1 a2 a3 a4)
      go_meet
      exact ⟨rfl, _, _, _, _, _, R6.out, fitB HFD.out, ⟨NP.out, NU.out, NF.out⟩, Q6.out, C6.out, G6.out⟩
    by_cases k4 : r = 4
    · subst k4
      obtain ⟨spp, cpp, hvp, _⟩ := (Sl.of_own R.out.pages).form
      subst hvp
      go_upto_region 12 with fail
      refine wp_region_held_drew (S := fun W => W.cell? ⟨w.heap.size, 0, none⟩ = some (.slice spp D.pages.length cpp) ∧ W.cell? ⟨w.heap.size, 1, none⟩ = some (.int .i64 D.writes)) (by kernel_rfl) ⟨R.out.row.cells 0 _ rfl, R.out.row.cells 1 _ rfl⟩ (fun hHeld => ?_)
      refine wpAnyH_take (i := 0) (v := ?_) rfl (by kernel_rfl) (by kernel_rfl) (by kernel_rfl) (fun _ _ _ h => h) (Or.inl ⟨by rfl, ?_⟩) (by assumption) ?_
      rotate_left
      · (intro W hSW; go_simp; try with_reducible rfl)
      try simp only [Act.put, List.getElem_toArray, List.getElem_cons_zero, List.getElem_cons_succ, List.setIfInBounds_toArray, List.set_cons_zero, List.set_cons_succ]
      refine wpAnyH_take (i := 2) (v := ?_) rfl (by kernel_rfl) (by kernel_rfl) (by kernel_rfl) (fun _ _ _ h => h) (Or.inl ⟨by rfl, ?_⟩) (by assumption) ?_
      rotate_left
      · (intro W hSW; go_simp; try with_reducible rfl)
      try simp only [Act.put, List.getElem_toArray, List.getElem_cons_zero, List.getElem_cons_succ, List.setIfInBounds_toArray, List.set_cons_zero, List.set_cons_succ]
      refine wpAnyH_take (i := 3) (v := ?_) rfl (by kernel_rfl) (by kernel_rfl) (by kernel_rfl) (fun _ _ _ h => h) (Or.inl ⟨by rfl, ?_⟩) (by assumption) ?_
      rotate_left
      · (intro W hSW; go_simp; try with_reducible rfl)
      try simp only [Act.put, List.getElem_toArray, List.getElem_cons_zero, List.getElem_cons_succ, List.setIfInBounds_toArray, List.set_cons_zero, List.set_cons_succ]
      refine wpAnyH_take (i := 4) (v := ?_) rfl (by kernel_rfl) (by kernel_rfl) (by kernel_rfl) (fun _ _ _ h => h) (Or.inl ⟨by rfl, ?_⟩) (by assumption) ?_
      rotate_left
      · (intro W hSW; have hcp := hSW.1; go_simp; try with_reducible rfl)
      try simp only [Act.put, List.getElem_toArray, List.getElem_cons_zero, List.getElem_cons_succ, List.setIfInBounds_toArray, List.set_cons_zero, List.set_cons_succ]
      refine wpAnyH_take (i := 5) (v := ?_) rfl (by kernel_rfl) (by kernel_rfl) (by kernel_rfl) (fun _ _ _ h => h) (Or.inl ⟨by rfl, ?_⟩) (by assumption) ?_
      rotate_left
      · (intro W hSW; go_simp; try with_reducible rfl)
      try simp only [Act.put, List.getElem_toArray, List.getElem_cons_zero, List.getElem_cons_succ, List.setIfInBounds_toArray, List.set_cons_zero, List.set_cons_succ]
      refine wpAnyH_take (i := 6) (v := ?_) rfl (by kernel_rfl) (by kernel_rfl) (by kernel_rfl) (fun _ _ _ h => h) (Or.inl ⟨by rfl, ?_⟩) (by assumption) ?_
      rotate_left
      · (intro W hSW; go_simp; try with_reducible rfl)
      try simp only [Act.put, List.getElem_toArray, List.getElem_cons_zero, List.getElem_cons_succ, List.setIfInBounds_toArray, List.set_cons_zero, List.set_cons_succ]
      refine wpAnyH_take (i := 7) (v := ?_) rfl (by kernel_rfl) (by kernel_rfl) (by kernel_rfl) (fun _ _ _ h => h) (Or.inl ⟨by rfl, ?_⟩) (by assumption) ?_
      rotate_left
      · (intro W hSW; have hcw := hSW.2; go_simp; try with_reducible rfl)
      try simp only [Act.put, List.getElem_toArray, List.getElem_cons_zero, List.getElem_cons_succ, List.setIfInBounds_toArray, List.set_cons_zero, List.set_cons_succ]
      have f12_1 := Lib.hid (R.out.keep (Below.refl _ _).drew)
      have f12_2 := Lib.hid (codL_keep C.out (Below.refl _ _).drew)
      have f12_3 := Lib.hid (grownBy_below G.out (Below.refl _ _).drew)
      have f12_4 := Lib.hid (Q.out.drew)
      refine wpAnyH_ready (rs := [1, 8]) (by kernel_rfl) (by simp) (AllReadyH.cons rfl (fun K hK => ?_) (AllReadyH.cons rfl (fun K hK => ?_) AllReadyH.nil))
      · have v12_5 := f12_1.out.row.cells 4 _ rfl
        go_simp
        refine hK.out _ _ hHeld (fun hH12_6 => ?_)
        clear hK K
        try simp only [Act.put, List.getElem_toArray, List.getElem_cons_zero, List.getElem_cons_succ, List.setIfInBounds_toArray, List.set_cons_zero, List.set_cons_succ]
        clear v12_5
        refine wpAnyH_ready (rs := [8]) (by kernel_rfl) (by simp) (AllReadyH.cons rfl (fun K hK => ?_) AllReadyH.nil)
        · go_simp
          go_wp2_with (go_at_call 24; (with_reducible refine (fault_any xc _ _ _ _ f12_2.out HPL.out).mono ?_); rintro e W12_8 ⟨x12_11, rfl, ⟨_, _, hC12_10⟩, hg12_9⟩)
          have f12_12 := Lib.hid (f12_1.out.grown hg12_9 (fun e => by have := Option.some.inj e; have := KR.out; omega) (fun g e e2 => by have := (f12_1.out.pages.lt g e).1; have := Option.some.inj e2; have := KR.out; omega) (fun g e e2 => by have := (f12_1.out.unr.lt g e).1; have := Option.some.inj e2; have := KR.out; omega) (fun g e e2 => by have := (f12_1.out.faults.lt g e).1; have := Option.some.inj e2; have := KR.out; omega))
          have f12_13 := Lib.hid (hC12_10)
          have f12_14 := Lib.hid (grownBy_trans f12_3.out hg12_9)
          have f12_15 := Lib.hid (f12_4.out.grown hg12_9 (fun e => by have := Option.some.inj e; have := KR.out; omega))
          refine hK.out _ _ ⟨f12_12.out.row.cells 0 _ rfl, f12_12.out.row.cells 1 _ rfl⟩ (fun hH12_7 => ?_)
          clear hK K
          try simp only [Act.put, List.getElem_toArray, List.getElem_cons_zero, List.getElem_cons_succ, List.setIfInBounds_toArray, List.set_cons_zero, List.set_cons_succ]
          refine wpAnyH_ready (rs := [9]) (by kernel_rfl) (by simp) (AllReadyH.cons rfl (fun K hK => ?_) AllReadyH.nil)
          · simp only [List.getElem_toArray, List.getElem_cons_zero, List.getElem_cons_succ]
            rw [if_pos (by rfl)]
            with_reducible refine op_buildF1 x12_11 (by rfl) ?_ (fun W12_17 hP12_18 hb12_19 _ => ?_)
            · rfl
            have f12_20 := Lib.hid (f12_12.out.keep hb12_19)
            have f12_21 := Lib.hid (codL_keep f12_13.out hb12_19)
            have f12_22 := Lib.hid (grownBy_below f12_14.out hb12_19)
            have f12_23 := Lib.hid (f12_15.out.keep hb12_19)
            have f12_24 := Lib.hid (hP12_18)
            refine hK.out _ _ ⟨f12_20.out.row.cells 0 _ rfl, f12_20.out.row.cells 1 _ rfl⟩ (fun hH12_16 => ?_)
            clear hK K
            try simp only [Act.put, List.getElem_toArray, List.getElem_cons_zero, List.getElem_cons_succ, List.setIfInBounds_toArray, List.set_cons_zero, List.set_cons_succ]
            refine wpAnyH_ready (rs := [10]) (by kernel_rfl) (by simp) (AllReadyH.cons rfl (fun K hK => ?_) AllReadyH.nil)
            simp only [List.getElem_toArray, List.getElem_cons_zero, List.getElem_cons_succ]
            rw [if_pos (by rfl)]
            with_reducible refine op_appendF w.heap.size _ D.faults x12_11 _ (by rfl) ?_ ?_ f12_20.out.faults f12_24.out LF.out (Nat.le_of_lt (Nat.lt_of_lt_of_le f12_20.out.row.lt (Nat.le_refl _))) (fun v12_26 W12_25 hO12_27 hg12_28 hb12_29 => ?_)
            · rfl
            · rfl
            have oc12_36 : v12_26.oneCell' = true := one_own hO12_27
            have f12_34 := Lib.hid (RO.fltStep f12_20.out hg12_28 hO12_27 hb12_29)
            have f12_31 := Lib.hid (codL_grown f12_21.out hg12_28 (fun k e => by have := (f12_20.out.faults.lt k e).1; have := KR.out; omega))
            have f12_32 := Lib.hid (grown_step f12_22.out hg12_28 (fun k e => (f12_20.out.faults.lt k e).1))
            have f12_35 := Lib.hid (hO12_27)
            have f12_33 := Lib.hid (f12_23.out.grown hg12_28 NF.out)
            have f12_37 : Hid (v12_26.ownBlock ≠ some rb) := Lib.hid (fun e => by have hq := f12_23.out.lt; rcases hb12_29 _ e with h | h; exact NF.out h; omega)
            refine hK.out _ _ ⟨(f12_20.out.row.grown hg12_28 f12_20.out.fB).cells 0 _ rfl, (f12_20.out.row.grown hg12_28 f12_20.out.fB).cells 1 _ rfl⟩ (fun hH12_30 => ?_)
            clear hK K
            try simp only [Act.put, List.getElem_toArray, List.getElem_cons_zero, List.getElem_cons_succ, List.setIfInBounds_toArray, List.set_cons_zero, List.set_cons_succ]
            refine wpAnyH_take (i := 11) (v := ?_) rfl (by kernel_rfl) (by kernel_rfl) (by kernel_rfl) (fun _ _ _ h => h) (Or.inl ⟨by rfl, ?_⟩) (by assumption) ?_
            rotate_left
            · (intro W hSW; go_simp; try with_reducible rfl)
            try simp only [Act.put, List.getElem_toArray, List.getElem_cons_zero, List.getElem_cons_succ, List.setIfInBounds_toArray, List.set_cons_zero, List.set_cons_succ]
            refine wpAnyH_ready (rs := [12]) (by kernel_rfl) (by simp) (AllReadyH.cons rfl (fun K hK => ?_) AllReadyH.nil)
            simp only [List.getElem_toArray, List.getElem_cons_zero, List.getElem_cons_succ]
            rw [if_pos (by rfl)]
            with_reducible refine op_storeField (i := 4) 25 v12_26 (cells_own f12_35.out) oc12_36 info_flts1 f12_34.out.1 (by rw [dvals_length]; decide) (by rfl) ?_ ?_ (fun W12_38 hP12_39 hS12_40 => ?_)
            · rfl
            · rfl
            have f12_42 := Lib.hid (f12_34.out.2 W12_38 hS12_40 hP12_39)
            have f12_43 := Lib.hid (codL_stored f12_31.out hS12_40 (by have := KR.out; omega))
            have f12_44 := Lib.hid (grown_newStored f12_32.out hS12_40 (Nat.le_refl _))
            have f12_45 := Lib.hid (hS12_40.row f12_33.out (by have := KR.out; omega))
            refine hK.out _ _ ⟨f12_42.out.row.cells 0 _ rfl, f12_42.out.row.cells 1 _ rfl⟩ (fun hH12_41 => ?_)
            clear hK K
            try simp only [Act.put, List.getElem_toArray, List.getElem_cons_zero, List.getElem_cons_succ, List.setIfInBounds_toArray, List.set_cons_zero, List.set_cons_succ]
            refine wpAnyH_done (by kernel_rfl) ?_ _
            go_wp2_with fail
            go_meet
            exact ⟨rfl, _, _, _, _, _, f12_42.out, fitB HFD.out, ⟨NP.out, NU.out, f12_37.out⟩, f12_45.out, f12_43.out, f12_44.out⟩
      · go_simp
        go_wp2_with (go_at_call 24; (with_reducible refine (fault_any xc _ _ _ _ f12_2.out HPL.out).mono ?_); rintro e W12_47 ⟨x12_50, rfl, ⟨_, _, hC12_49⟩, hg12_48⟩)
        have f12_51 := Lib.hid (f12_1.out.grown hg12_48 (fun e => by have := Option.some.inj e; have := KR.out; omega) (fun g e e2 => by have := (f12_1.out.pages.lt g e).1; have := Option.some.inj e2; have := KR.out; omega) (fun g e e2 => by have := (f12_1.out.unr.lt g e).1; have := Option.some.inj e2; have := KR.out; omega) (fun g e e2 => by have := (f12_1.out.faults.lt g e).1; have := Option.some.inj e2; have := KR.out; omega))
        have f12_52 := Lib.hid (hC12_49)
        have f12_53 := Lib.hid (grownBy_trans f12_3.out hg12_48)
        have f12_54 := Lib.hid (f12_4.out.grown hg12_48 (fun e => by have := Option.some.inj e; have := KR.out; omega))
        refine hK.out _ _ ⟨f12_51.out.row.cells 0 _ rfl, f12_51.out.row.cells 1 _ rfl⟩ (fun hH12_46 => ?_)
        clear hK K
        try simp only [Act.put, List.getElem_toArray, List.getElem_cons_zero, List.getElem_cons_succ, List.setIfInBounds_toArray, List.set_cons_zero, List.set_cons_succ]
        refine wpAnyH_ready (rs := [1, 9]) (by kernel_rfl) (by simp) (AllReadyH.cons rfl (fun K hK => ?_) (AllReadyH.cons rfl (fun K hK => ?_) AllReadyH.nil))
        · have v12_55 := f12_51.out.row.cells 4 _ rfl
          go_simp
          refine hK.out _ _ hH12_46 (fun hH12_56 => ?_)
          clear hK K
          try simp only [Act.put, List.getElem_toArray, List.getElem_cons_zero, List.getElem_cons_succ, List.setIfInBounds_toArray, List.set_cons_zero, List.set_cons_succ]
          clear v12_55
          refine wpAnyH_ready (rs := [9]) (by kernel_rfl) (by simp) (AllReadyH.cons rfl (fun K hK => ?_) AllReadyH.nil)
          · simp only [List.getElem_toArray, List.getElem_cons_zero, List.getElem_cons_succ]
            rw [if_pos (by rfl)]
            with_reducible refine op_buildF1 x12_50 (by rfl) ?_ (fun W12_58 hP12_59 hb12_60 _ => ?_)
            · rfl
            have f12_61 := Lib.hid (f12_51.out.keep hb12_60)
            have f12_62 := Lib.hid (codL_keep f12_52.out hb12_60)
            have f12_63 := Lib.hid (grownBy_below f12_53.out hb12_60)
            have f12_64 := Lib.hid (f12_54.out.keep hb12_60)
            have f12_65 := Lib.hid (hP12_59)
            refine hK.out _ _ ⟨f12_61.out.row.cells 0 _ rfl, f12_61.out.row.cells 1 _ rfl⟩ (fun hH12_57 => ?_)
            clear hK K
            try simp only [Act.put, List.getElem_toArray, List.getElem_cons_zero, List.getElem_cons_succ, List.setIfInBounds_toArray, List.set_cons_zero, List.set_cons_succ]
            refine wpAnyH_ready (rs := [10]) (by kernel_rfl) (by simp) (AllReadyH.cons rfl (fun K hK => ?_) AllReadyH.nil)
            simp only [List.getElem_toArray, List.getElem_cons_zero, List.getElem_cons_succ]
            rw [if_pos (by rfl)]
            with_reducible refine op_appendF w.heap.size _ D.faults x12_50 _ (by rfl) ?_ ?_ f12_61.out.faults f12_65.out LF.out (Nat.le_of_lt (Nat.lt_of_lt_of_le f12_61.out.row.lt (Nat.le_refl _))) (fun v12_67 W12_66 hO12_68 hg12_69 hb12_70 => ?_)
            · rfl
            · rfl
            have oc12_77 : v12_67.oneCell' = true := one_own hO12_68
            have f12_75 := Lib.hid (RO.fltStep f12_61.out hg12_69 hO12_68 hb12_70)
            have f12_72 := Lib.hid (codL_grown f12_62.out hg12_69 (fun k e => by have := (f12_61.out.faults.lt k e).1; have := KR.out; omega))
            have f12_73 := Lib.hid (grown_step f12_63.out hg12_69 (fun k e => (f12_61.out.faults.lt k e).1))
            have f12_76 := Lib.hid (hO12_68)
            have f12_74 := Lib.hid (f12_64.out.grown hg12_69 NF.out)
            have f12_78 : Hid (v12_67.ownBlock ≠ some rb) := Lib.hid (fun e => by have hq := f12_64.out.lt; rcases hb12_70 _ e with h | h; exact NF.out h; omega)
            refine hK.out _ _ ⟨(f12_61.out.row.grown hg12_69 f12_61.out.fB).cells 0 _ rfl, (f12_61.out.row.grown hg12_69 f12_61.out.fB).cells 1 _ rfl⟩ (fun hH12_71 => ?_)
            clear hK K
            try simp only [Act.put, List.getElem_toArray, List.getElem_cons_zero, List.getElem_cons_succ, List.setIfInBounds_toArray, List.set_cons_zero, List.set_cons_succ]
            refine wpAnyH_take (i := 11) (v := ?_) rfl (by kernel_rfl) (by kernel_rfl) (by kernel_rfl) (fun _ _ _ h => h) (Or.inl ⟨by rfl, ?_⟩) (by assumption) ?_
            rotate_left
            · (intro W hSW; go_simp; try with_reducible rfl)
            try simp only [Act.put, List.getElem_toArray, List.getElem_cons_zero, List.getElem_cons_succ, List.setIfInBounds_toArray, List.set_cons_zero, List.set_cons_succ]
            refine wpAnyH_ready (rs := [12]) (by kernel_rfl) (by simp) (AllReadyH.cons rfl (fun K hK => ?_) AllReadyH.nil)
            simp only [List.getElem_toArray, List.getElem_cons_zero, List.getElem_cons_succ]
            rw [if_pos (by rfl)]
            with_reducible refine op_storeField (i := 4) 25 v12_67 (cells_own f12_76.out) oc12_77 info_flts1 f12_75.out.1 (by rw [dvals_length]; decide) (by rfl) ?_ ?_ (fun W12_79 hP12_80 hS12_81 => ?_)
            · rfl
            · rfl
            have f12_83 := Lib.hid (f12_75.out.2 W12_79 hS12_81 hP12_80)
            have f12_84 := Lib.hid (codL_stored f12_72.out hS12_81 (by have := KR.out; omega))
            have f12_85 := Lib.hid (grown_newStored f12_73.out hS12_81 (Nat.le_refl _))
            have f12_86 := Lib.hid (hS12_81.row f12_74.out (by have := KR.out; omega))
            refine hK.out _ _ ⟨f12_83.out.row.cells 0 _ rfl, f12_83.out.row.cells 1 _ rfl⟩ (fun hH12_82 => ?_)
            clear hK K
            try simp only [Act.put, List.getElem_toArray, List.getElem_cons_zero, List.getElem_cons_succ, List.setIfInBounds_toArray, List.set_cons_zero, List.set_cons_succ]
            refine wpAnyH_done (by kernel_rfl) ?_ _
            go_wp2_with fail
            go_meet
            exact ⟨rfl, _, _, _, _, _, f12_83.out, fitB HFD.out, ⟨NP.out, NU.out, f12_78.out⟩, f12_86.out, f12_84.out, f12_85.out⟩
        · simp only [List.getElem_toArray, List.getElem_cons_zero, List.getElem_cons_succ]
          rw [if_pos (by rfl)]
          with_reducible refine op_buildF1 x12_50 (by rfl) ?_ (fun W12_88 hP12_89 hb12_90 _ => ?_)
          · rfl
          have f12_91 := Lib.hid (f12_51.out.keep hb12_90)
          have f12_92 := Lib.hid (codL_keep f12_52.out hb12_90)
          have f12_93 := Lib.hid (grownBy_below f12_53.out hb12_90)
          have f12_94 := Lib.hid (f12_54.out.keep hb12_90)
          have f12_95 := Lib.hid (hP12_89)
          refine hK.out _ _ ⟨f12_91.out.row.cells 0 _ rfl, f12_91.out.row.cells 1 _ rfl⟩ (fun hH12_87 => ?_)
          clear hK K
          try simp only [Act.put, List.getElem_toArray, List.getElem_cons_zero, List.getElem_cons_succ, List.setIfInBounds_toArray, List.set_cons_zero, List.set_cons_succ]
          refine wpAnyH_ready (rs := [1]) (by kernel_rfl) (by simp) (AllReadyH.cons rfl (fun K hK => ?_) AllReadyH.nil)
          · have v12_96 := f12_91.out.row.cells 4 _ rfl
            go_simp
            refine hK.out _ _ hH12_87 (fun hH12_97 => ?_)
            clear hK K
            try simp only [Act.put, List.getElem_toArray, List.getElem_cons_zero, List.getElem_cons_succ, List.setIfInBounds_toArray, List.set_cons_zero, List.set_cons_succ]
            clear v12_96
            refine wpAnyH_ready (rs := [10]) (by kernel_rfl) (by simp) (AllReadyH.cons rfl (fun K hK => ?_) AllReadyH.nil)
            simp only [List.getElem_toArray, List.getElem_cons_zero, List.getElem_cons_succ]
            rw [if_pos (by rfl)]
            with_reducible refine op_appendF w.heap.size _ D.faults x12_50 _ (by rfl) ?_ ?_ f12_91.out.faults f12_95.out LF.out (Nat.le_of_lt (Nat.lt_of_lt_of_le f12_91.out.row.lt (Nat.le_refl _))) (fun v12_99 W12_98 hO12_100 hg12_101 hb12_102 => ?_)
            · rfl
            · rfl
            have oc12_109 : v12_99.oneCell' = true := one_own hO12_100
            have f12_107 := Lib.hid (RO.fltStep f12_91.out hg12_101 hO12_100 hb12_102)
            have f12_104 := Lib.hid (codL_grown f12_92.out hg12_101 (fun k e => by have := (f12_91.out.faults.lt k e).1; have := KR.out; omega))
            have f12_105 := Lib.hid (grown_step f12_93.out hg12_101 (fun k e => (f12_91.out.faults.lt k e).1))
            have f12_108 := Lib.hid (hO12_100)
            have f12_106 := Lib.hid (f12_94.out.grown hg12_101 NF.out)
            have f12_110 : Hid (v12_99.ownBlock ≠ some rb) := Lib.hid (fun e => by have hq := f12_94.out.lt; rcases hb12_102 _ e with h | h; exact NF.out h; omega)
            refine hK.out _ _ ⟨(f12_91.out.row.grown hg12_101 f12_91.out.fB).cells 0 _ rfl, (f12_91.out.row.grown hg12_101 f12_91.out.fB).cells 1 _ rfl⟩ (fun hH12_103 => ?_)
            clear hK K
            try simp only [Act.put, List.getElem_toArray, List.getElem_cons_zero, List.getElem_cons_succ, List.setIfInBounds_toArray, List.set_cons_zero, List.set_cons_succ]
            refine wpAnyH_take (i := 11) (v := ?_) rfl (by kernel_rfl) (by kernel_rfl) (by kernel_rfl) (fun _ _ _ h => h) (Or.inl ⟨by rfl, ?_⟩) (by assumption) ?_
            rotate_left
            · (intro W hSW; go_simp; try with_reducible rfl)
            try simp only [Act.put, List.getElem_toArray, List.getElem_cons_zero, List.getElem_cons_succ, List.setIfInBounds_toArray, List.set_cons_zero, List.set_cons_succ]
            refine wpAnyH_ready (rs := [12]) (by kernel_rfl) (by simp) (AllReadyH.cons rfl (fun K hK => ?_) AllReadyH.nil)
            simp only [List.getElem_toArray, List.getElem_cons_zero, List.getElem_cons_succ]
            rw [if_pos (by rfl)]
            with_reducible refine op_storeField (i := 4) 25 v12_99 (cells_own f12_108.out) oc12_109 info_flts1 f12_107.out.1 (by rw [dvals_length]; decide) (by rfl) ?_ ?_ (fun W12_111 hP12_112 hS12_113 => ?_)
            · rfl
            · rfl
            have f12_115 := Lib.hid (f12_107.out.2 W12_111 hS12_113 hP12_112)
            have f12_116 := Lib.hid (codL_stored f12_104.out hS12_113 (by have := KR.out; omega))
            have f12_117 := Lib.hid (grown_newStored f12_105.out hS12_113 (Nat.le_refl _))
            have f12_118 := Lib.hid (hS12_113.row f12_106.out (by have := KR.out; omega))
            refine hK.out _ _ ⟨f12_115.out.row.cells 0 _ rfl, f12_115.out.row.cells 1 _ rfl⟩ (fun hH12_114 => ?_)
            clear hK K
            try simp only [Act.put, List.getElem_toArray, List.getElem_cons_zero, List.getElem_cons_succ, List.setIfInBounds_toArray, List.set_cons_zero, List.set_cons_succ]
            refine wpAnyH_done (by kernel_rfl) ?_ _
            go_wp2_with fail
            go_meet
            exact ⟨rfl, _, _, _, _, _, f12_115.out, fitB HFD.out, ⟨NP.out, NU.out, f12_110.out⟩, f12_118.out, f12_116.out, f12_117.out⟩
    by_cases k5 : r = 5
    · subst k5
      have bf := build_flt2
      go_wp2_with fail
      go_loopw [57] (fun _ wr => ∃ (vf : Value) (fs : List Flt), Hid (RO w.heap.size w.heap.size vp vu vf { D with faults := fs } wr) ∧ Hid (vf.ownBlock ≠ some rb) ∧ Hid (fs.length ≤ 500) ∧ Hid (RowAt rb dev0 wr) ∧ Hid (CodL xc m4 wr) ∧ Hid (w.grownBy wr (some xc))) (fun _ wr => 65 - fLen w.heap.size wr)
      case atStart => exact ⟨vf, D.faults, R, NF, Lib.hid (Nat.le_trans L200.out (by decide)), Q, C, G⟩
      case round =>
        clear R NF Q C G
        obtain ⟨vf, fs, R, NF, L5, Q, C, G⟩ := hrel
        have hfl := fLen_is R.out
        obtain ⟨sf', cf', e, _⟩ := (Sl.of_own R.out.faults).form
        subst e
        obtain ⟨a0, a1, a2, a3, a4⟩ := R.out.row.all5
        have L5' := L5.out
        by_cases h64 : fs.length ≤ 64
        · have q1 : (fs.length : Int) ≤ 64 := by omega
          go_wp2_with (first
            | (refine wp_buildF1W ⟨1, wrap64 (D.writes + 1), 0, 0, 0, 0⟩ rfl rfl rfl ?_; intro w6 hP hb _; have T6 := Lib.hid hP; have R6 := Lib.hid (R.out.keep hb); have Q6 := Lib.hid (Q.out.keep hb); have C6 := Lib.hid (codL_keep C.out hb); have G6 := Lib.hid (grownBy_below G.out hb); clear hP hb R Q C G a0 a1 a2 a3 a4)
            | (refine wp_appendF w.heap.size _ fs ⟨1, wrap64 (D.writes + 1), 0, 0, 0, 0⟩ _ rfl rfl rfl rfl R6.out.faults T6.out (by have := L5.out; omega) (Nat.le_of_lt R6.out.row.lt) ?_; intro v7 w7 hO hg hb; have ST := Lib.hid (RO.fltStep R6.out hg hO hb); have O7 := Lib.hid hO; have Q7 := Lib.hid (Q6.out.grown hg NF.out); have C7 := Lib.hid (codL_grown C6.out hg (fun k e => by have := (R6.out.faults.lt k e).1; have := KR.out; omega)); have G7 := Lib.hid (grown_step G6.out hg (fun k e => (R6.out.faults.lt k e).1)); have NX : Hid (v7.ownBlock ≠ some rb) := Lib.hid (fun e => by have hq := Q6.out.lt; rcases hb _ e with h | h; exact NF.out h; omega); clear hO hg hb)
            | (refine wp_storeFieldW 25 v7 (cells_own O7.out) (one_own O7.out) info_flts1 ST.out.1 (by rw [dvals_length]; decide) rfl rfl rfl rfl ?_; intro w8 hP hS; have R8 := Lib.hid (ST.out.2 w8 hS hP); have Q8 := Lib.hid (hS.row Q7.out (by have := KR.out; omega)); have C8 := Lib.hid (codL_stored C7.out hS KR.out.1); have G8 := Lib.hid (grown_newStored G7.out hS (Nat.le_refl _)); clear hP hS))
          go_roundw
          case measure =>
            have h8 : fLen w.heap.size w8 = fs.length + 1 := by rw [fLen_is R8.out]; show (fs ++ [_]).length = _; rw [List.length_append]; rfl
            omega
          case rel =>
            have L8 : Hid ((fs ++ [(⟨1, wrap64 (D.writes + 1), 0, 0, 0, 0⟩ : Flt)]).length ≤ 500) := Lib.hid (by rw [List.length_append]; show fs.length + 1 ≤ 500; omega)
            exact ⟨v7, fs ++ [⟨1, wrap64 (D.writes + 1), 0, 0, 0, 0⟩], R8, NX, L8⟩
        · have q1 : ¬ (fs.length : Int) ≤ 64 := by omega
          go_wp2_with fail
          go_meet
          exact ⟨rfl, _, _, _, _, _, R.out, fitB HFD.out, ⟨NP.out, NU.out, NF.out⟩, Q.out, C.out, G.out⟩
    have f0 : (r == 0) = false := by simpa using k0
    have f1 : (r == 1) = false := by simpa using k1
    have f2 : (r == 2) = false := by simpa using k2
    have f3 : (r == 3) = false := by simpa using k3
    have f4 : (r == 4) = false := by simpa using k4
    have f5 : (r == 5) = false := by simpa using k5
    go_wp2_with fail
    go_meet
    exact ⟨rfl, _, _, _, _, _, R.out, fitB HFD.out, ⟨NP.out, NU.out, NF.out⟩, Q.out, C.out, G.out⟩
  case rest =>
  obtain ⟨rfl, vp2, vu2, vf2, D2, m2, hR, hF, hN, hQ, hC, hG⟩ := hcut
  have NN := Lib.hid hN
  have R2 := Lib.hid hR
  have F2 := Lib.hid hF
  have Q2 := Lib.hid hQ
  have C2 := Lib.hid hC
  have G2 := Lib.hid hG
  clear hR hF hN hQ hC hG
  go_wp2_with (first
    | (refine wp_loadDev _ _ _ _ _ R2.out.row rfl rfl rfl ?_)
    | (refine wp_storeDevW vp2 D2.writes vu2 D2.dead vf2 (one_own R2.out.pages) (one_own R2.out.unr) (one_own R2.out.faults) Q2.out rfl rfl rfl rfl rfl ?_; intro w9 hP hS; have R9 := Lib.hid hP; have V9 : Hid (DevV (dvals vp2 D2.writes vu2 D2.dead vf2) D2 w9) := Lib.hid ⟨vp2, vu2, vf2, rfl, Sl.of_own (own_storedNe R2.out.pages hS (fun g e e2 => NN.out.1 (by rw [e, e2]))), Sl.of_own (own_storedNe R2.out.unr hS (fun g e e2 => NN.out.2.1 (by rw [e, e2]))), Sl.of_own (own_storedNe R2.out.faults hS (fun g e e2 => NN.out.2.2 (by rw [e, e2])))⟩; have C9 := Lib.hid (codL_stored C2.out hS (by have := KR.out; omega)); have G9 := Lib.hid (grown_newStored G2.out hS (Nat.le_of_lt KR.out.2)); clear hP hS))
  exact bodyPost_ret (res_dev rfl rfl R9.out rfl) rfl ⟨_, D2, rfl, V9.out, F2.out.1, F2.out.2, lo_dvals (fun g e => (R2.out.pages.lt g e).1) (fun g e => (R2.out.unr.lt g e).1) (fun g e => (R2.out.faults.lt g e).1), ⟨_, C9.out⟩, G9.out⟩
end Go.Proofs.Ytikpchhhenonaaa.ns
