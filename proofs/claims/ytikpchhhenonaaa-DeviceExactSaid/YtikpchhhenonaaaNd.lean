/- The reference's Copy and place. -/
import Derived.Test.YtikpchhhenonaaaNc
namespace Go.Proofs.Ytikpchhhenonaaa.nd
open Go.ChangeShapes Go.WideShapes Go.ChangeAt Go.RowKit Go.Proofs.Ytikpchhhenonaaa.cx Go.Proofs.Ytikpchhhenonaaa.ra Go.Proofs.Ytikpchhhenonaaa.la Go.Proofs.Ytikpchhhenonaaa.lb Go.Proofs.Ytikpchhhenonaaa.lc Go.Proofs.Ytikpchhhenonaaa.ld Go.Proofs.Ytikpchhhenonaaa.le Go.Proofs.Ytikpchhhenonaaa.lf Go.Proofs.Ytikpchhhenonaaa.lg Go.Proofs.Ytikpchhhenonaaa.lh Go.Proofs.Ytikpchhhenonaaa.li Go.Proofs.Ytikpchhhenonaaa.lj Go.Proofs.Ytikpchhhenonaaa.lk Go.Proofs.Ytikpchhhenonaaa.ll Go.Proofs.Ytikpchhhenonaaa.lm Go.Proofs.Ytikpchhhenonaaa.ln Go.Proofs.Ytikpchhhenonaaa.lo Go.Proofs.Ytikpchhhenonaaa.lp Go.Proofs.Ytikpchhhenonaaa.lq Go.Proofs.Ytikpchhhenonaaa.lr Go.Proofs.Ytikpchhhenonaaa.ls Go.Proofs.Ytikpchhhenonaaa.lt Go.Proofs.Ytikpchhhenonaaa.lu Go.Proofs.Ytikpchhhenonaaa.lv Go.Proofs.Ytikpchhhenonaaa.lw Go.Proofs.Ytikpchhhenonaaa.lx Go.Proofs.Ytikpchhhenonaaa.ly Go.Proofs.Ytikpchhhenonaaa.na Go.Proofs.Ytikpchhhenonaaa.nc
set_option linter.unusedSimpArgs false
section
variable {ops : Array Oper} {rest : List Oper} {o : Oper} {a : Act} {w : World} {Q : Exit → Act → World → Prop} {s x : Operand}
theorem wp_all (s x : Operand) (t e : TypeId) (i : TypeInfo) (z : Value) (size bytes : Nat) (ho : o.op = .call { callee := .builtin .append, args := #[s, x], argTypes := #[t, t] })
    (ht : Try.prog.underlying t = some (.slice e)) (hi : Try.prog.info? e = some i) (hz : i.zero = some z) (hsize : i.size = size) (hby : i.bytes = bytes) (hzs : z.cells.size = size) (hsz : 0 < size)
    {so : Option Addr} {n cap : Nat} {xs : List Value} (hs : a.eval s = .slice none 0 0) (hx : a.eval x = .slice so n cap) (hgd : o.guard = none)
    (H : Sl (.slice so n cap) size n xs w) (h1 : ∀ u ∈ xs, u.oneCell' = true) (hn : n ≤ 100000) (hb : bytes ≤ 1000)
    (h : ∀ v' w', w'.ownsRow w.heap.size e size v' n xs → Below w.heap.size w w' → wpList Try.prog ops Q rest (a.put o.dst v') w') : wpList Try.prog ops Q (o :: rest) a w := by
  obtain ⟨_, hl, h3⟩ := H
  rcases h3 with ⟨e3, rfl⟩ | ⟨b, off, cap', e3, hcap, hb', hc⟩
  · obtain rfl : xs = [] := List.eq_nil_of_length_eq_zero (by omega)
    simp only [Value.slice.injEq, true_and] at e3
    obtain ⟨rfl, rfl⟩ := e3
    have hr : (Builtin.append_ #[t, t] o.type #[.slice none 0 0, .slice none 0 0]).run Try.prog w = .ok (.slice none 0 0) w := by
      simp [Builtin.append_, run_underlying ht, sizeOf, typeInfo, hi, Builtin.lenOf, run_firstCells_none, storeCells]
    refine wpList_plain hgd fun _ hK => ?_
    unfold Oper.wp execOp
    simp only [ho, resolve, invoke, builtin, Sem.run_bind, Sem.run_pure, Result.andThen_ok, List.map_toArray, List.map_cons, List.map_nil, hs, hx, hr]
    exact hK _ _ (h _ _ (World.ownsRow_nil _ _ _ _) (Below.refl _ _))
  · simp only [Value.slice.injEq, true_and] at e3
    obtain ⟨rfl, rfl⟩ := e3
    refine wpList_append_own w hgd s x t ho w.heap.size e i z size bytes ht hi hz hsize hby hzs hsz (.slice none 0 0) 0 [] hs (World.ownsRow_nil _ _ _ _) ⟨b, off, none⟩ n cap xs hx hl
      (fun j u hu => by rw [Addr.add_lit]; exact hc j u hu) h1 (by rw [Nat.zero_add]; unfold maxLen; omega) (by rw [Nat.zero_add]; exact Nat.le_trans (Nat.mul_le_mul hn hb) (by decide)) (Nat.le_refl _) (fun v' w' hO hg _ => ?_)
    rw [Nat.zero_add, List.nil_append] at hO
    exact h v' w' hO (grownBy_none_below hg)
theorem wp_allS {so : Option Addr} {n cap : Nat} {xs : List Value} (ho : o.op = .call { callee := .builtin .append, args := #[s, x], argTypes := #[23, 23] }) (hs : a.eval s = .slice none 0 0) (hx : a.eval x = .slice so n cap) (hgd : o.guard = none)
    (H : Sl (.slice so n cap) 1 n xs w) (h1 : ∀ u ∈ xs, u.oneCell' = true) (hn : n ≤ 100000)
    (h : ∀ v' w', w'.ownsRow w.heap.size 9 1 v' n xs → Below w.heap.size w w' → wpList Try.prog ops Q rest (a.put o.dst v') w') : wpList Try.prog ops Q (o :: rest) a w := by
  obtain ⟨i, hi, h0, h1', h2⟩ := lc.info_str
  exact wp_all s x 23 9 i (.string ByteArray.empty) 1 16 ho Try.underlying23 hi h0 h1' h2 rfl (by decide) hs hx hgd H h1 hn (by decide) h
theorem wp_allI {so : Option Addr} {n cap : Nat} {xs : List Value} (ho : o.op = .call { callee := .builtin .append, args := #[s, x], argTypes := #[24, 24] }) (hs : a.eval s = .slice none 0 0) (hx : a.eval x = .slice so n cap) (hgd : o.guard = none)
    (H : Sl (.slice so n cap) 1 n xs w) (h1 : ∀ u ∈ xs, u.oneCell' = true) (hn : n ≤ 100000)
    (h : ∀ v' w', w'.ownsRow w.heap.size 3 1 v' n xs → Below w.heap.size w w' → wpList Try.prog ops Q rest (a.put o.dst v') w') : wpList Try.prog ops Q (o :: rest) a w := by
  obtain ⟨i, hi, h0, h1', h2⟩ := nc.info_int
  exact wp_all s x 24 3 i (.int .i64 0) 1 8 ho Try.underlying24 hi h0 h1' h2 rfl (by decide) hs hx hgd H h1 hn (by decide) h
theorem wp_allF {so : Option Addr} {n cap : Nat} {xs : List Value} (ho : o.op = .call { callee := .builtin .append, args := #[s, x], argTypes := #[25, 25] }) (hs : a.eval s = .slice none 0 0) (hx : a.eval x = .slice so n cap) (hgd : o.guard = none)
    (H : Sl (.slice so n cap) 6 n xs w) (h1 : ∀ u ∈ xs, u.oneCell' = true) (hn : n ≤ 100000)
    (h : ∀ v' w', w'.ownsRow w.heap.size 29 6 v' n xs → Below w.heap.size w w' → wpList Try.prog ops Q rest (a.put o.dst v') w') : wpList Try.prog ops Q (o :: rest) a w := by
  obtain ⟨i, hi, h0, h1', h2⟩ := lc.info_flt
  exact wp_all s x 25 29 i (.agg flt0.vals.toArray) 6 48 ho Try.underlying25 hi h0 h1' h2 rfl (by decide) hs hx hgd H h1 hn (by decide) h
end
theorem grown_newStored {w W W' : World} {row : Option Nat} {b : Nat} (h : w.grownBy W row) (hs : StoredAt b W W') (hb : w.heap.size ≤ b) : w.grownBy W' row := by
  have hB := hs.below (Below.refl 0 W) (Nat.zero_le b)
  exact ⟨hB.os.trans h.os, hB.tape.trans h.tape, hB.output.trans h.output, Nat.le_trans h.size hB.size, fun k hk hne => (hs.heap k (fun e => by omega)).trans (h.block k hk hne)⟩
set_option maxHeartbeats 4000000 in
set_option maxRecDepth 4000 in
theorem refCopy_any (vs : List Value) (d : Dev) (w : World) (h : DevV vs d w) (hn1 : d.pages.length ≤ 1000) (hn2 : d.unr.length ≤ 1000) (hn3 : d.faults.length ≤ 1000) :
    Calls Try.prog 37 #[.agg vs.toArray] w fun e w' => ∃ vp vu vf, e = .returned (.agg (dvals vp d.writes vu d.dead vf).toArray) ∧ w'.ownsRow w.heap.size 9 1 vp d.pages.length (strL d.pages) ∧
      w'.ownsRow w.heap.size 3 1 vu d.unr.length (intL d.unr) ∧ w'.ownsRow w.heap.size 29 6 vf d.faults.length (fltL d.faults) ∧ Apart vp vu ∧ Apart vp vf ∧ Apart vu vf ∧ Below w.heap.size w w' := by
  obtain ⟨sp, cp, su, cu, sf, cf, rfl, P, U, F⟩ := h.form
  have L1 := Lib.hid (show d.pages.length ≤ 100000 by omega)
  have L2 := Lib.hid (show d.unr.length ≤ 100000 by omega)
  have L3 := Lib.hid (show d.faults.length ≤ 100000 by omega)
  clear h hn1 hn2 hn3
  go_enter Try.func37, Try.ntmps37
  go_wp2_with (first
    | (refine wp_boxW (dvals (.slice sp d.pages.length cp) d.writes (.slice su d.unr.length cu) d.dead (.slice sf d.faults.length cf)) _ rfl rfl rfl ?_; intro w0 hP hb0 hz0; have HB0 := Lib.hid hb0; have HD0 := Lib.hid hP; clear hP hb0)
    | (refine wp_newW dev0 _ zero_dev rfl rfl ?_; intro w1 hP hb1 hz1; have HB1 := Lib.hid (HB0.out.trans (hb1.mono HB0.out.size)); have HD1 := Lib.hid (HD0.out.keep hb1); have HR1 := Lib.hid hP; have P1 := Lib.hid (P.out.keep HB1.out); obtain ⟨a0, a1, a2, a3, a4⟩ := HD1.out.all5; clear hP hb1 HD0)
    | (refine wp_allS rfl rfl rfl rfl P1.out (strL_one _) L1.out ?_; intro v1 w2 hO hb; have hz2 := hb.size; clear a0 a1 a2 a3 a4; have HB2 := Lib.hid (HB1.out.trans (hb.mono HB1.out.size)); have HD2 := Lib.hid (HD1.out.keep hb); have HR2 := Lib.hid (HR1.out.keep hb); have O12 := Lib.hid hO; clear hO hb HB1 HD1 HR1 P1)
    | (refine wp_storeFieldW 23 v1 (cells_own O12.out) (one_own O12.out) info_strings1 HD2.out (show 0 < 5 by decide) rfl rfl rfl rfl ?_; intro w3 hP hS; have hz3 := Nat.le_of_eq hS.size.symm; have HD3 : Hid (RowAt w.heap.size (dvals v1 d.writes (.slice su d.unr.length cu) d.dead (.slice sf d.faults.length cf)) w3) := Lib.hid hP; have HR3 := Lib.hid (hS.row HR2.out (Nat.ne_of_lt hz0)); have O13 := Lib.hid (own_storedNe O12.out hS (fun g hg => by have := (O12.out.lt g hg).1; omega)); have HB3 := Lib.hid (hS.below HB2.out (Nat.le_refl _)); have U3 := Lib.hid (U.out.keep HB3.out); have Z1 := Lib.hid (fun g hg => (O12.out.lt g hg)); obtain ⟨a0, a1, a2, a3, a4⟩ := HD3.out.all5; clear hP hS HD2 HR2 O12 HB2)
    | (refine wp_allI rfl rfl rfl rfl U3.out (intL_one _) L2.out ?_; intro v2 w4 hO hb; have hz4 := hb.size; clear a0 a1 a2 a3 a4; have HB4 := Lib.hid (HB3.out.trans (hb.mono HB3.out.size)); have HD4 := Lib.hid (HD3.out.keep hb); have HR4 := Lib.hid (HR3.out.keep hb); have O14 := Lib.hid (own_keep O13.out hb); have O24 := Lib.hid hO; clear hO hb HB3 HD3 HR3 U3 O13)
    | (refine wp_storeFieldW 24 v2 (cells_own O24.out) (one_own O24.out) info_ints1 HD4.out (show 2 < 5 by decide) rfl rfl rfl rfl ?_; intro w5 hP hS; have hz5 := Nat.le_of_eq hS.size.symm; have HD5 : Hid (RowAt w.heap.size (dvals v1 d.writes v2 d.dead (.slice sf d.faults.length cf)) w5) := Lib.hid hP; have HR5 := Lib.hid (hS.row HR4.out (Nat.ne_of_lt hz0)); have O15 := Lib.hid (own_storedNe O14.out hS (fun g hg => by have := (O14.out.lt g hg).1; omega)); have O25 := Lib.hid (own_storedNe O24.out hS (fun g hg => by have h1 := (O24.out.lt g hg).1; omega)); have HB5 := Lib.hid (hS.below HB4.out (Nat.le_refl _)); have F5 := Lib.hid (F.out.keep HB5.out); have Z2 := Lib.hid (fun g hg => (O24.out.lt g hg)); obtain ⟨a0, a1, a2, a3, a4⟩ := HD5.out.all5; clear hP hS HD4 HR4 O14 O24 HB4)
    | (refine wp_allF rfl rfl rfl rfl F5.out (fltL_one _) L3.out ?_; intro v3 w6 hO hb; have hz6 := hb.size; clear a0 a1 a2 a3 a4; have HB6 := Lib.hid (HB5.out.trans (hb.mono HB5.out.size)); have HD6 := Lib.hid (HD5.out.keep hb); have HR6 := Lib.hid (HR5.out.keep hb); have O16 := Lib.hid (own_keep O15.out hb); have O26 := Lib.hid (own_keep O25.out hb); have O36 := Lib.hid hO; clear hO hb HB5 HD5 HR5 F5 O15 O25)
    | (refine wp_storeFieldW 25 v3 (cells_own O36.out) (one_own O36.out) info_flts1 HD6.out (show 4 < 5 by decide) rfl rfl rfl rfl ?_; intro w7 hP hS; have hz7 := Nat.le_of_eq hS.size.symm; have HD7 : Hid (RowAt w.heap.size (dvals v1 d.writes v2 d.dead v3) w7) := Lib.hid hP; have HR7 := Lib.hid (hS.row HR6.out (Nat.ne_of_lt hz0)); have O17 := Lib.hid (own_storedNe O16.out hS (fun g hg => by have := (O16.out.lt g hg).1; omega)); have O27 := Lib.hid (own_storedNe O26.out hS (fun g hg => by have h1 := (O26.out.lt g hg).1; omega)); have O37 := Lib.hid (own_storedNe O36.out hS (fun g hg => by have h1 := (O36.out.lt g hg).1; omega)); have HB7 := Lib.hid (hS.below HB6.out (Nat.le_refl _)); have Z3' := Lib.hid (fun g hg => (O36.out.lt g hg)); clear hP hS HD6 HR6 O16 O26 O36 HB6)
    | (refine wp_loadDev _ _ _ _ _ HD7.out rfl rfl rfl ?_)
    | (refine wp_storeDevW v1 d.writes v2 d.dead v3 (one_own O17.out) (one_own O27.out) (one_own O37.out) HR7.out rfl rfl rfl rfl rfl ?_; intro w8 hP hS; have HR8 := Lib.hid hP; have O18 := Lib.hid (own_storedNe O17.out hS (fun g hg => by have := (O17.out.lt g hg).1; omega)); have O28 := Lib.hid (own_storedNe O27.out hS (fun g hg => by have h1 := (O27.out.lt g hg).1; omega)); have O38 := Lib.hid (own_storedNe O37.out hS (fun g hg => by have h1 := (O37.out.lt g hg).1; omega)); have HB8 := Lib.hid (hS.below HB7.out (by omega)); clear hP hS))
  refine bodyPost_ret (v := .agg (dvals v1 d.writes v2 d.dead v3).toArray) (res_dev rfl rfl HR8.out rfl) rfl ⟨v1, v2, v3, rfl, own_base O18.out (by omega), own_base O28.out (by omega), own_base O38.out (by omega), ?_, ?_, ?_, HB8.out⟩
  · intro g h1 h2
    have := (Z1.out g h1).2
    have := (Z2.out g h2).1
    omega
  · intro g h1 h2
    have := (Z1.out g h1).2
    have := (Z3'.out g h2).1
    omega
  · intro g h1 h2
    have := (Z2.out g h1).2
    have := (Z3'.out g h2).1
    omega
set_option maxHeartbeats 8000000 in
set_option maxRecDepth 4000 in
theorem refPlace_any (base : Nat) (vp : Value) (su sf : Option Addr) (cu cf : Nat) (d : Dev) (k n : Nat) (s old : ByteArray) (w : World) (OP : w.ownsRow base 9 1 vp d.pages.length (strL d.pages)) (U : Sl (.slice su d.unr.length cu) 1 d.unr.length (intL d.unr) w) (F : Sl (.slice sf d.faults.length cf) 6 d.faults.length (fltL d.faults) w)
    (apf : Apart vp (.slice sf d.faults.length cf)) (apu : Apart vp (.slice su d.unr.length cu)) (hk : d.pages[k]? = some old) (hold : old.size = 256) (hs : s.size = 256) (hn : n ≤ 256) (hul : d.unr.length ≤ 1000) :
    Calls Try.prog 46 #[.agg (dvals vp d.writes (.slice su d.unr.length cu) d.dead (.slice sf d.faults.length cf)).toArray, .int .i64 (k : Int), .string s, .int .i64 (n : Int)] w fun e w' => ∃ vu', e = .returned (.agg (dvals vp d.writes vu' d.dead (.slice sf d.faults.length cf)).toArray) ∧
      w'.ownsRow base 9 1 vp (owrD d k s n).pages.length (strL (owrD d k s n).pages) ∧ w'.ownsRow w.heap.size 3 1 vu' (owrD d k s n).unr.length (intL (owrD d k s n).unr) ∧ w.grownBy w' vp.ownBlock := by
  have hkl : k < d.pages.length := (List.getElem?_eq_some_iff.1 hk).1
  obtain ⟨gp, cp, rfl, hgb, hgp⟩ := OP.form (by omega)
  have hcap : d.pages.length ≤ cp := by
    rcases OP.2 with ⟨e, _⟩ | ⟨g', cap', cur, e, _, _, h1, _⟩
    · cases e
    · simp only [Value.slice.injEq, true_and] at e
      obtain ⟨_, rfl⟩ := e
      exact h1
  have HO := Lib.hid OP
  have HU := Lib.hid U
  have HF := Lib.hid F
  have HK := Lib.hid hk
  have APU := Lib.hid apu
  have UL := Lib.hid hul
  have HG := Lib.hid (And.intro hgb hgp)
  clear OP U F hk apf apu hul
  have q0 : (0 : Int) ≤ (k : Int) := by omega
  have q1 : (k : Int) < (d.pages.length : Int) := by omega
  have q2 : (0 : Int) ≤ (n : Int) := by omega
  have q3 : (n : Int) ≤ 256 := by omega
  have hsz : (s.size : Int) = 256 := by omega
  have hosz : (old.size : Int) = 256 := by omega
  go_enter Try.func46, Try.ntmps46
  go_wp2_with (first
    | (refine wp_boxW (dvals (.slice (some ⟨gp, 0, none⟩) d.pages.length cp) d.writes (.slice su d.unr.length cu) d.dead (.slice sf d.faults.length cf)) _ rfl rfl rfl ?_; intro w0 hP hb0 hz0; have HB0 := Lib.hid hb0; have HD0 := Lib.hid hP; clear hP hb0)
    | (refine wp_newW dev0 _ zero_dev rfl rfl ?_; intro w1 hP hb1 hz1; have HB1 := Lib.hid (HB0.out.trans (hb1.mono HB0.out.size)); have HD1 := Lib.hid (HD0.out.keep hb1); have HR1 := Lib.hid hP; have O1 := Lib.hid (own_keep HO.out HB1.out); have U1 := Lib.hid (HU.out.keep HB1.out); have F1 := Lib.hid (HF.out.keep HB1.out); obtain ⟨a0, a1, a2, a3, a4⟩ := HD1.out.all5; have p0 := (O1.out.cellAt k (by omega)).trans (strL_at HK.out); have p1 := O1.out.frozenAt k; clear hP hb1 HD0 HB0))
  apply li.wp_one
  · go_region
    iterate 40 (try exact ⟨rfl, rfl⟩)
  · have ST := O1.out.stored k (.string (mixS s old n))
    rw [strL_set] at ST
    have hneB : gp ≠ w.heap.size := by have := HG.out.2; omega
    have hneR : gp ≠ w0.heap.size := by have := HG.out.2; omega
    have D2 := Lib.hid (HD1.out.setOther (a := ⟨gp, k, none⟩) hneB (.string (mixS s old n))).drew
    have R2 := Lib.hid (HR1.out.setOther (a := ⟨gp, k, none⟩) hneR (.string (mixS s old n))).drew
    have O2 := Lib.hid (own_keep ST.1 (Below.refl _ _).drew)
    have U2 := Lib.hid (Sl.drew (sl_grown U1.out ST.2 (fun g hg e => APU.out gp rfl (by injection e with e; rw [e]; exact hg))))
    have G2 : Hid (w.grownBy _ (some gp)) := Lib.hid (grownBy_trans (below_grownBy HB1.out (some gp)) (grownBy_drew ST.2))
    clear ST a0 a1 a2 a3 a4 p0 p1 hneB hneR HB1 HD1 HR1 O1 U1 F1
    show Exit.then _ _ _ _ (w1.setCell ⟨gp, k, none⟩ (.string (mixS s old n))).drew
    generalize (w1.setCell ⟨gp, k, none⟩ (.string (mixS s old n))).drew = w2 at *
    obtain ⟨a0, a1, a2, a3, a4⟩ := D2.out.all5
    have Z0 := Lib.hid (And.intro hz0 G2.out.size)
    go_wp2_with (first
      | (go_at_call 69; refine (refWithout_any _ d.unr (k : Int) _ U2.out UL.out).mono ?_; rintro e w3 ⟨vu', rfl, hO, hb⟩; have D3 := Lib.hid (D2.out.keep hb); have R3 := Lib.hid (R2.out.keep hb); have O3 := Lib.hid (own_keep O2.out hb); have V3 := Lib.hid hO; have G3 : Hid (w.grownBy w3 (some gp)) := Lib.hid (grownBy_trans G2.out (below_grownBy hb (some gp))); have DB := Lib.hid D2.out.lt; have RB := Lib.hid R2.out.lt; clear hO hb D2 R2 O2 U2 G2 a0 a1 a2 a3 a4; obtain ⟨a0, a1, a2, a3, a4⟩ := D3.out.all5)
      | (refine wp_storeFieldW 24 vu' (cells_own V3.out) (one_own V3.out) info_ints1 D3.out (show 2 < 5 by decide) rfl rfl rfl rfl ?_; intro w4 hP hS; have D4 : Hid (RowAt w.heap.size (dvals (.slice (some ⟨gp, 0, none⟩) d.pages.length cp) d.writes vu' d.dead (.slice sf d.faults.length cf)) w4) := Lib.hid hP; have R4 := Lib.hid (hS.row R3.out (by omega)); have O4 := Lib.hid (own_storedNe O3.out hS (fun g hg e => by have := HG.out.2; have h2 : gp = g := Option.some.inj hg; omega)); have V4 := Lib.hid (own_storedNe V3.out hS (fun g hg => by have := (V3.out.lt g hg).1; have := DB.out; omega)); have G4 := Lib.hid (grown_newStored G3.out hS (Nat.le_refl _)); clear hP hS D3 R3 O3 V3 a0 a1 a2 a3 a4; obtain ⟨a0, a1, a2, a3, a4⟩ := D4.out.all5)
      | (refine wp_loadDev _ _ _ _ _ D4.out rfl rfl rfl ?_)
      | (refine wp_storeDevW (.slice (some ⟨gp, 0, none⟩) d.pages.length cp) d.writes vu' d.dead (.slice sf d.faults.length cf) (one_slice ..) (one_own V4.out) (one_slice ..) R4.out rfl rfl rfl rfl rfl ?_; intro w5 hP hS; have R5 := Lib.hid hP; have O5 := Lib.hid (own_storedNe O4.out hS (fun g hg e => by have := HG.out.2; have h2 : gp = g := Option.some.inj hg; omega)); have V5 := Lib.hid (own_storedNe V4.out hS (fun g hg => by have := (V4.out.lt g hg).1; have := RB.out; omega)); have G5 := Lib.hid (grown_newStored G4.out hS (Nat.le_of_lt Z0.out.1)); clear hP hS D4 R4 O4 V4))
    refine bodyPost_ret (v := .agg (dvals (.slice (some ⟨gp, 0, none⟩) d.pages.length cp) d.writes vu' d.dead (.slice sf d.faults.length cf)).toArray) (res_dev rfl rfl R5.out rfl) rfl ⟨vu', rfl, ?_, ?_, G5.out⟩
    · have := O5.out
      unfold owrD
      rw [show d.pages.getD k ByteArray.empty = old by simp [List.getD, HK.out]]
      simpa using this
    · exact own_base V5.out Z0.out.2
end Go.Proofs.Ytikpchhhenonaaa.nd
