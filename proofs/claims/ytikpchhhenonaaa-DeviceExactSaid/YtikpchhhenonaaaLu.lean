/- New, Inject, Tear: the program. -/
import Derived.Test.YtikpchhhenonaaaLt
namespace Go.Proofs.Ytikpchhhenonaaa.lu
open Go.ChangeShapes Go.WideShapes Go.ChangeAt Go.RowKit Go.Proofs.Ytikpchhhenonaaa.cx Go.Proofs.Ytikpchhhenonaaa.ra Go.Proofs.Ytikpchhhenonaaa.la Go.Proofs.Ytikpchhhenonaaa.lb Go.Proofs.Ytikpchhhenonaaa.lc Go.Proofs.Ytikpchhhenonaaa.ld Go.Proofs.Ytikpchhhenonaaa.le Go.Proofs.Ytikpchhhenonaaa.lf Go.Proofs.Ytikpchhhenonaaa.lg Go.Proofs.Ytikpchhhenonaaa.lh Go.Proofs.Ytikpchhhenonaaa.li Go.Proofs.Ytikpchhhenonaaa.lj Go.Proofs.Ytikpchhhenonaaa.lk Go.Proofs.Ytikpchhhenonaaa.ll Go.Proofs.Ytikpchhhenonaaa.lm Go.Proofs.Ytikpchhhenonaaa.ln Go.Proofs.Ytikpchhhenonaaa.lo Go.Proofs.Ytikpchhhenonaaa.lp Go.Proofs.Ytikpchhhenonaaa.lq Go.Proofs.Ytikpchhhenonaaa.lr Go.Proofs.Ytikpchhhenonaaa.ls Go.Proofs.Ytikpchhhenonaaa.lt

def newE (n : Int) : Int := if 1 ≤ n ∧ n ≤ 64 then 0 else 1
def newD (n : Int) : Dev := if 1 ≤ n ∧ n ≤ 64 then ⟨blanks n.toNat, 0, [], false, []⟩ else noDev
theorem validCount_b (n : Int) (b : Bool) (h : decide (1 ≤ n ∧ n ≤ 64) = b) (w : World) : Calls Try.prog 34 #[.int .i64 n] w fun e w' => e = .returned (.bool b) ∧ w = w' := h ▸ validCount_any n w
theorem devP_vals {v : Value} {n base : Nat} {w : World} (h : w.ownsRow base 9 1 v n (strL (blanks n))) : DevV (dvals v 0 nil3 false nil3) ⟨blanks n, 0, [], false, []⟩ w :=
  ⟨v, nil3, nil3, rfl, (show (blanks n).length = n by simp [blanks]).symm ▸ Sl.of_own h, Sl.nil 1 w, Sl.nil 6 w⟩
set_option maxHeartbeats 2000000 in
set_option maxRecDepth 4000 in
theorem new_any (n : Int) (w : World) :
    Calls Try.prog 13 #[.int .i64 n] w fun e w' => ∃ vs', e = .returned (.tuple #[.agg vs'.toArray, .int .i64 (newE n)]) ∧ DevV vs' (newD n) w' ∧ (∀ b, b ≤ w.heap.size → Lo b vs') ∧ Below w.heap.size w w' := by
  by_cases c1 : 1 ≤ n ∧ n ≤ 64
  · have E : Hid (newE n = 0) := Lib.hid (by unfold newE; rw [if_pos c1])
    obtain ⟨k, rfl⟩ : ∃ k : Nat, n = (k : Int) := ⟨n.toNat, by omega⟩
    have D : Hid (newD (k : Int) = ⟨blanks k, 0, [], false, []⟩) := Lib.hid (by unfold newD; rw [if_pos c1, Int.toNat_natCast])
    have C := Lib.hid (decide_eq_true c1)
    have K1 := Lib.hid (show 1 ≤ k by omega)
    have K2 := Lib.hid (show k ≤ 1000 by omega)
    clear c1
    have bd := build_devP
    go_enter Try.func13, Try.ntmps13
    go_wp2_with (first
      | (refine wp_newW dev0 _ zero_dev rfl rfl ?_; intro w1 hP hb1 hz1; have HB1 := Lib.hid hb1; have HR1 := Lib.hid hP; clear hP hb1)
      | (go_at_call 34; (with_reducible refine (validCount_b _ true C.out _).mono ?_); rintro e w2 ⟨rfl, rfl⟩)
      | (go_at_call 35; refine (blankPages_any k _ K1.out K2.out).mono ?_; rintro e w2 ⟨v, rfl, hO, hb⟩; obtain ⟨sv, cv, rfl, _⟩ := (Sl.of_own hO).form; have HB2 := Lib.hid (HB1.out.trans (hb.mono HB1.out.size)); have HR2 := Lib.hid (HR1.out.keep hb); have O2 := Lib.hid hO; clear hO hb HB1 HR1)
      | (refine wp_storeDevW _ 0 nil3 false nil3 (one_slice ..) (one_slice ..) (one_slice ..) HR2.out rfl rfl rfl rfl rfl ?_; intro w3 hP hS; have HR3 := Lib.hid hP; have HB3 := Lib.hid (hS.below HB2.out (Nat.le_refl _)); have O3 := Lib.hid (own_storedNe O2.out hS (fun g e => by have := (O2.out.lt g e).1; omega)); clear hP hS))
    refine bodyPost_ret (res_devE rfl rfl HR3.out rfl) rfl ⟨_, by rw [E.out]; rfl, ?_, fun b hb => lo_dvals (fun g e => by have := (O3.out.lt g e).1; omega) (fun _ h => by cases h) (fun _ h => by cases h), HB3.out⟩
    rw [D.out]
    exact devP_vals O3.out
  · have E : Hid (newE n = 1) := Lib.hid (by unfold newE; rw [if_neg c1])
    have D : Hid (newD n = noDev) := Lib.hid (by unfold newD; rw [if_neg c1])
    have C := Lib.hid (decide_eq_false c1)
    clear c1
    have bd := build_dev0
    go_enter Try.func13, Try.ntmps13
    go_wp2_with (first
      | (refine wp_newW dev0 _ zero_dev rfl rfl ?_; intro w1 hP hb1 hz1; have HB1 := Lib.hid hb1; have HR1 := Lib.hid hP; clear hP hb1)
      | (go_at_call 34; (with_reducible refine (validCount_b _ false C.out _).mono ?_); rintro e w2 ⟨rfl, rfl⟩)
      | (refine wp_storeDevW nil3 0 nil3 false nil3 (one_slice ..) (one_slice ..) (one_slice ..) HR1.out rfl rfl rfl rfl rfl ?_; intro w3 hP hS; have HR3 := Lib.hid hP; have HB3 := Lib.hid (hS.below HB1.out (Nat.le_refl _)); clear hP hS))
    refine bodyPost_ret (res_devE rfl rfl HR3.out rfl) rfl ⟨_, by rw [E.out]; rfl, ?_, fun b _ => lo_zero b, HB3.out⟩
    rw [D.out]
    exact devV0 _
def injectE (d : Dev) (f : Flt) : Int := if validD d = true then (if okFault d f = true then (if d.faults.length = 64 then 21 else 0) else 1) else 15
def injectD (d : Dev) (f : Flt) : Dev := if injectE d f = 0 then { d with faults := d.faults ++ [f] } else noDev
theorem build_flt1 (f : Flt) (W : World) : (Instr.buildSlice 25 1 #[(0, .agg f.arr)]).run Try.prog W = .ok (.slice (some ⟨W.heap.size, 0, none⟩) 1 1) (W.alloc (.cells f.vals.toArray 29)) := by
  kernel_rfl
theorem wp_buildF1W {ops : Array Oper} {rest : List Oper} {o : Oper} {a : Act} {w : World} {Q : Exit → Act → World → Prop} {x : Operand} (f : Flt) (ho : o.op = .buildSlice 25 1 #[(0, x)]) (hx : a.eval x = .agg f.arr)
    (hgd : Region.wanted o (yielded ops a.tmps) = true) (h : ∀ W, RowAt w.heap.size f.vals W → Below w.heap.size w W → w.heap.size < W.heap.size → wpList Try.prog ops Q rest (a.put o.dst (.slice (some ⟨w.heap.size, 0, none⟩) 1 1)) W) : wpList Try.prog ops Q (o :: rest) a w :=
  wpList_step fun _ hK => by
    rw [if_pos hgd]
    have hn := h _ (RowAt.new f.vals w 29) ((Below.refl _ _).alloc (Nat.le_refl _) _) (by simp)
    have hb := build_flt1 f w
    unfold Oper.wp execOp
    simp only [ho]
    simp only [List.map_toArray, List.map_cons, List.map_nil, hx, hb, Sem.run_bind, Result.andThen_ok, Sem.run_pure]
    exact hK _ _ hn
theorem wp_appendF {ops : Array Oper} {rest : List Oper} {o : Oper} {a : Act} {w : World} {Q : Exit → Act → World → Prop} {s x : Operand} (base : Nat) (v : Value) (l : List Flt) (f : Flt) (T : Nat)
    (ho : o.op = .call { callee := .builtin .append, args := #[s, x], argTypes := #[25, 25] }) (hs : a.eval s = v) (hx : a.eval x = .slice (some ⟨T, 0, none⟩) 1 1) (hgd : o.guard = none)
    (hown : w.ownsRow base 29 6 v l.length (fltL l)) (hT : RowAt T f.vals w) (hn : l.length ≤ 1000) (hbase : base ≤ w.heap.size)
    (h : ∀ v' w', w'.ownsRow base 29 6 v' (l ++ [f]).length (fltL (l ++ [f])) → w.grownBy w' v.ownBlock → (∀ g, v'.ownBlock = some g → v.ownBlock = some g ∨ w.heap.size ≤ g) → wpList Try.prog ops Q rest (a.put o.dst v') w') : wpList Try.prog ops Q (o :: rest) a w := by
  obtain ⟨i, hi, h0, h1, h2⟩ := lc.info_flt
  refine wpList_plain hgd fun _ hK => ?_
  refine wp_append_lies w s x 25 ho base 29 i (.agg flt0.vals.toArray) 6 48 Try.underlying25 hi h0 h1 h2 rfl (by decide) v l.length (fltL l) hs hown ⟨T, 0, none⟩ 1 1 f.vals hx rfl
    (fun j u hu => by rw [Addr.add_lit, Nat.zero_add]; exact hT.cells j u hu) (fun u hu => List.all_eq_true.1 (fvals_one f) u hu) (by decide) (by unfold maxLen; omega) (by omega) hbase w.heap.size rfl ?_
  intro g cap w' a1 a2 a3 _
  refine hK _ _ (h _ _ ?_ a2 fun g' e => ?_)
  · rw [List.length_append, fltL_append]
    have e : fltL [f] = f.vals := by simp [fltL]
    rw [e]
    exact a1
  · have e2 : g = g' := Option.some.inj e
    subst e2
    rcases a3 with a3 | a3
    · exact .inl a3
    · exact .inr (by omega)
set_option maxHeartbeats 4000000 in
set_option maxRecDepth 4000 in
theorem inject_any (vs : List Value) (d : Dev) (f : Flt) (w : World) (h : DevV vs d w) (hf : FitsD d) :
    Calls Try.prog 25 #[.agg vs.toArray, .agg f.arr] w fun e w' => ∃ vs', e = .returned (.tuple #[.agg vs'.toArray, .int .i64 (injectE d f)]) ∧ DevV vs' (injectD d f) w' ∧ (∀ b, b ≤ w.heap.size → Lo b vs') ∧ Below w.heap.size w w' := by
  obtain ⟨sp, cp, su, cu, sf, cf, rfl, P, U, F⟩ := h.form
  have DV := Lib.hid h
  have HF := Lib.hid hf
  have FL := Lib.hid (Sl.len_le F.out)
  clear h P U F hf
  have bd := build_dev0
  cases c1 : validD d
  · have E : Hid (injectE d f = 15) := Lib.hid (by unfold injectE; rw [c1]; rfl)
    have C1 := Lib.hid c1
    clear c1
    go_enter Try.func25, Try.ntmps25
    go_wp2_with (first
      | (refine wp_boxW (dvals (.slice sp d.pages.length cp) d.writes (.slice su d.unr.length cu) d.dead (.slice sf d.faults.length cf)) _ rfl rfl rfl ?_; intro w0 hP hb0 hz0; have HB0 := Lib.hid hb0; have HD0 := Lib.hid hP; clear hP hb0)
      | (refine wp_boxW f.vals _ rfl rfl rfl ?_; intro w1 hP hb1 hz1; have HB1 := Lib.hid (HB0.out.trans (hb1.mono HB0.out.size)); have HD1 := Lib.hid (HD0.out.keep hb1); have HF1 := Lib.hid hP; clear hP hb1 HB0 HD0)
      | (refine wp_newW dev0 _ zero_dev rfl rfl ?_; intro w2 hP hb2 hz2; have HB2 := Lib.hid (HB1.out.trans (hb2.mono HB1.out.size)); have HD2 := Lib.hid (HD1.out.keep hb2); have HF2 := Lib.hid (HF1.out.keep hb2); have HR2 := Lib.hid hP; have HV2 := Lib.hid (DV.out.keep HB2.out); clear hP hb2 HD1 HF1 HB1)
      | (refine wp_loadDev _ _ _ _ _ HD2.out rfl rfl rfl ?_)
      | (refine wp_loadDev _ _ _ _ _ HD3.out rfl rfl rfl ?_)
      | (refine wp_loadDev _ _ _ _ _ HD4.out rfl rfl rfl ?_)
      | (refine wp_loadFlt f HF3.out rfl rfl rfl ?_)
      | (refine wp_loadFlt f HF5.out rfl rfl rfl ?_)
      | (go_at_call 22; (with_reducible refine (valid_b _ d false C1.out _ HV2.out HF.out).mono ?_); rintro e w3 ⟨rfl, hb3⟩; have hz3 := hb3.size; have HB3 := Lib.hid (HB2.out.trans (hb3.mono HB2.out.size)); have HD3 := Lib.hid (HD2.out.keep hb3); have HF3 := Lib.hid (HF2.out.keep hb3); have HR3 := Lib.hid (HR2.out.keep hb3); have HV3 := Lib.hid (HV2.out.keep hb3); clear hb3 HB2 HD2 HF2 HR2 HV2)
      | (refine wp_storeDevW nil3 0 nil3 false nil3 (one_slice ..) (one_slice ..) (one_slice ..) HR3.out rfl rfl rfl rfl rfl ?_; intro w9 hP hS; have HR9 := Lib.hid hP; have HB9 := Lib.hid (hS.below HB3.out (by omega)); clear hP hS))
    refine bodyPost_ret (res_devE rfl rfl HR9.out rfl) rfl ⟨_, by rw [E.out]; rfl, ?_, fun b _ => lo_zero b, HB9.out⟩
    unfold injectD
    rw [E.out]
    exact devV0 _
  cases c2 : okFault d f
  · have E : Hid (injectE d f = 1) := Lib.hid (by unfold injectE; rw [c1, c2]; rfl)
    have C1 := Lib.hid c1
    have C2 := Lib.hid c2
    clear c1 c2
    go_enter Try.func25, Try.ntmps25
    go_wp2_with (first
      | (refine wp_boxW (dvals (.slice sp d.pages.length cp) d.writes (.slice su d.unr.length cu) d.dead (.slice sf d.faults.length cf)) _ rfl rfl rfl ?_; intro w0 hP hb0 hz0; have HB0 := Lib.hid hb0; have HD0 := Lib.hid hP; clear hP hb0)
      | (refine wp_boxW f.vals _ rfl rfl rfl ?_; intro w1 hP hb1 hz1; have HB1 := Lib.hid (HB0.out.trans (hb1.mono HB0.out.size)); have HD1 := Lib.hid (HD0.out.keep hb1); have HF1 := Lib.hid hP; clear hP hb1 HB0 HD0)
      | (refine wp_newW dev0 _ zero_dev rfl rfl ?_; intro w2 hP hb2 hz2; have HB2 := Lib.hid (HB1.out.trans (hb2.mono HB1.out.size)); have HD2 := Lib.hid (HD1.out.keep hb2); have HF2 := Lib.hid (HF1.out.keep hb2); have HR2 := Lib.hid hP; have HV2 := Lib.hid (DV.out.keep HB2.out); clear hP hb2 HD1 HF1 HB1)
      | (refine wp_loadDev _ _ _ _ _ HD2.out rfl rfl rfl ?_)
      | (refine wp_loadDev _ _ _ _ _ HD3.out rfl rfl rfl ?_)
      | (refine wp_loadDev _ _ _ _ _ HD4.out rfl rfl rfl ?_)
      | (refine wp_loadFlt f HF3.out rfl rfl rfl ?_)
      | (refine wp_loadFlt f HF5.out rfl rfl rfl ?_)
      | (go_at_call 22; (with_reducible refine (valid_b _ d true C1.out _ HV2.out HF.out).mono ?_); rintro e w3 ⟨rfl, hb3⟩; have hz3 := hb3.size; have HB3 := Lib.hid (HB2.out.trans (hb3.mono HB2.out.size)); have HD3 := Lib.hid (HD2.out.keep hb3); have HF3 := Lib.hid (HF2.out.keep hb3); have HR3 := Lib.hid (HR2.out.keep hb3); have HV3 := Lib.hid (HV2.out.keep hb3); clear hb3 HB2 HD2 HF2 HR2 HV2)
      | (go_at_call 53; (with_reducible refine (validFault_b _ d f false C2.out _ HV3.out).mono ?_); rintro e w4 ⟨rfl, hb4⟩; have hz4 := hb4.size; have HB4 := Lib.hid (HB3.out.trans (hb4.mono HB3.out.size)); have HD4 := Lib.hid (HD3.out.keep hb4); have HF4 := Lib.hid (HF3.out.keep hb4); have HR4 := Lib.hid (HR3.out.keep hb4); have HV4 := Lib.hid (HV3.out.keep hb4); obtain ⟨a0, a1, a2, a3, a4⟩ := HD4.out.all5; clear hb4 HB3 HD3 HF3 HR3 HV3)
      | (refine wp_storeDevW nil3 0 nil3 false nil3 (one_slice ..) (one_slice ..) (one_slice ..) HR4.out rfl rfl rfl rfl rfl ?_; intro w9 hP hS; have HR9 := Lib.hid hP; have HB9 := Lib.hid (hS.below HB4.out (by omega)); clear hP hS))
    refine bodyPost_ret (res_devE rfl rfl HR9.out rfl) rfl ⟨_, by rw [E.out]; rfl, ?_, fun b _ => lo_zero b, HB9.out⟩
    unfold injectD
    rw [E.out]
    exact devV0 _
  have IV := Lib.hid (valid_is c1)
  by_cases c3 : d.faults.length = 64
  · have E : Hid (injectE d f = 21) := Lib.hid (by unfold injectE; rw [c1, c2, if_pos rfl, if_pos rfl, if_pos c3])
    have hy : ((d.faults.length : Int) == 64) = true := by simp; omega
    have C1 := Lib.hid c1
    have C2 := Lib.hid c2
    clear c1 c2 c3
    go_enter Try.func25, Try.ntmps25
    go_wp2_with (first
      | (refine wp_boxW (dvals (.slice sp d.pages.length cp) d.writes (.slice su d.unr.length cu) d.dead (.slice sf d.faults.length cf)) _ rfl rfl rfl ?_; intro w0 hP hb0 hz0; have HB0 := Lib.hid hb0; have HD0 := Lib.hid hP; clear hP hb0)
      | (refine wp_boxW f.vals _ rfl rfl rfl ?_; intro w1 hP hb1 hz1; have HB1 := Lib.hid (HB0.out.trans (hb1.mono HB0.out.size)); have HD1 := Lib.hid (HD0.out.keep hb1); have HF1 := Lib.hid hP; clear hP hb1 HB0 HD0)
      | (refine wp_newW dev0 _ zero_dev rfl rfl ?_; intro w2 hP hb2 hz2; have HB2 := Lib.hid (HB1.out.trans (hb2.mono HB1.out.size)); have HD2 := Lib.hid (HD1.out.keep hb2); have HF2 := Lib.hid (HF1.out.keep hb2); have HR2 := Lib.hid hP; have HV2 := Lib.hid (DV.out.keep HB2.out); clear hP hb2 HD1 HF1 HB1)
      | (refine wp_loadDev _ _ _ _ _ HD2.out rfl rfl rfl ?_)
      | (refine wp_loadDev _ _ _ _ _ HD3.out rfl rfl rfl ?_)
      | (refine wp_loadDev _ _ _ _ _ HD4.out rfl rfl rfl ?_)
      | (refine wp_loadFlt f HF3.out rfl rfl rfl ?_)
      | (refine wp_loadFlt f HF5.out rfl rfl rfl ?_)
      | (go_at_call 22; (with_reducible refine (valid_b _ d true C1.out _ HV2.out HF.out).mono ?_); rintro e w3 ⟨rfl, hb3⟩; have hz3 := hb3.size; have HB3 := Lib.hid (HB2.out.trans (hb3.mono HB2.out.size)); have HD3 := Lib.hid (HD2.out.keep hb3); have HF3 := Lib.hid (HF2.out.keep hb3); have HR3 := Lib.hid (HR2.out.keep hb3); have HV3 := Lib.hid (HV2.out.keep hb3); clear hb3 HB2 HD2 HF2 HR2 HV2)
      | (go_at_call 53; (with_reducible refine (validFault_b _ d f true C2.out _ HV3.out).mono ?_); rintro e w4 ⟨rfl, hb4⟩; have hz4 := hb4.size; have HB4 := Lib.hid (HB3.out.trans (hb4.mono HB3.out.size)); have HD4 := Lib.hid (HD3.out.keep hb4); have HF4 := Lib.hid (HF3.out.keep hb4); have HR4 := Lib.hid (HR3.out.keep hb4); have HV4 := Lib.hid (HV3.out.keep hb4); obtain ⟨a0, a1, a2, a3, a4⟩ := HD4.out.all5; clear hb4 HB3 HD3 HF3 HR3 HV3)
      | (refine wp_storeDevW nil3 0 nil3 false nil3 (one_slice ..) (one_slice ..) (one_slice ..) HR4.out rfl rfl rfl rfl rfl ?_; intro w9 hP hS; have HR9 := Lib.hid hP; have HB9 := Lib.hid (hS.below HB4.out (by omega)); clear hP hS))
    refine bodyPost_ret (res_devE rfl rfl HR9.out rfl) rfl ⟨_, by rw [E.out]; rfl, ?_, fun b _ => lo_zero b, HB9.out⟩
    unfold injectD
    rw [E.out]
    exact devV0 _
  have E : Hid (injectE d f = 0) := Lib.hid (by unfold injectE; rw [c1, c2, if_pos rfl, if_pos rfl, if_neg c3])
  have hy : ((d.faults.length : Int) == 64) = false := by simp; omega
  have L1 := Lib.hid (show d.pages.length ≤ 1000 by have := IV.out.pages.1.2; omega)
  have L2 := Lib.hid (show d.unr.length ≤ 1000 by have := IV.out.unrLen; omega)
  have L3 := Lib.hid (show d.faults.length ≤ 1000 by have := IV.out.faults.1; omega)
  have C1 := Lib.hid c1
  have C2 := Lib.hid c2
  clear c1 c2 c3
  go_enter Try.func25, Try.ntmps25
  go_wp2_with (first
      | (refine wp_boxW (dvals (.slice sp d.pages.length cp) d.writes (.slice su d.unr.length cu) d.dead (.slice sf d.faults.length cf)) _ rfl rfl rfl ?_; intro w0 hP hb0 hz0; have HB0 := Lib.hid hb0; have HD0 := Lib.hid hP; clear hP hb0)
      | (refine wp_boxW f.vals _ rfl rfl rfl ?_; intro w1 hP hb1 hz1; have HB1 := Lib.hid (HB0.out.trans (hb1.mono HB0.out.size)); have HD1 := Lib.hid (HD0.out.keep hb1); have HF1 := Lib.hid hP; clear hP hb1 HB0 HD0)
      | (refine wp_newW dev0 _ zero_dev rfl rfl ?_; intro w2 hP hb2 hz2; have HB2 := Lib.hid (HB1.out.trans (hb2.mono HB1.out.size)); have HD2 := Lib.hid (HD1.out.keep hb2); have HF2 := Lib.hid (HF1.out.keep hb2); have HR2 := Lib.hid hP; have HV2 := Lib.hid (DV.out.keep HB2.out); clear hP hb2 HD1 HF1 HB1)
      | (refine wp_loadDev _ _ _ _ _ HD2.out rfl rfl rfl ?_)
      | (refine wp_loadDev _ _ _ _ _ HD3.out rfl rfl rfl ?_)
      | (refine wp_loadDev _ _ _ _ _ HD4.out rfl rfl rfl ?_)
      | (refine wp_loadFlt f HF3.out rfl rfl rfl ?_)
      | (refine wp_loadFlt f HF5.out rfl rfl rfl ?_)
      | (go_at_call 22; (with_reducible refine (valid_b _ d true C1.out _ HV2.out HF.out).mono ?_); rintro e w3 ⟨rfl, hb3⟩; have hz3 := hb3.size; have HB3 := Lib.hid (HB2.out.trans (hb3.mono HB2.out.size)); have HD3 := Lib.hid (HD2.out.keep hb3); have HF3 := Lib.hid (HF2.out.keep hb3); have HR3 := Lib.hid (HR2.out.keep hb3); have HV3 := Lib.hid (HV2.out.keep hb3); clear hb3 HB2 HD2 HF2 HR2 HV2)
      | (go_at_call 53; (with_reducible refine (validFault_b _ d f true C2.out _ HV3.out).mono ?_); rintro e w4 ⟨rfl, hb4⟩; have hz4 := hb4.size; have HB4 := Lib.hid (HB3.out.trans (hb4.mono HB3.out.size)); have HD4 := Lib.hid (HD3.out.keep hb4); have HF4 := Lib.hid (HF3.out.keep hb4); have HR4 := Lib.hid (HR3.out.keep hb4); have HV4 := Lib.hid (HV3.out.keep hb4); obtain ⟨a0, a1, a2, a3, a4⟩ := HD4.out.all5; clear hb4 HB3 HD3 HF3 HR3 HV3)
      | (go_at_call 40; refine (own_any _ d _ HV4.out L1.out L2.out L3.out).mono ?_; rintro e w5 ⟨vp, vu, vf, rfl, o1, o2, o3, p1, p2, p3, hb5⟩; have hz5 := hb5.size; clear a0 a1 a2 a3 a4; have HB5 := Lib.hid (HB4.out.trans (hb5.mono HB4.out.size)); have HD5 := Lib.hid (HD4.out.keep hb5); have HF5' := Lib.hid (HF4.out.keep hb5); have HR5 := Lib.hid (HR4.out.keep hb5); have O1 := Lib.hid o1; have O2 := Lib.hid o2; have O3 := Lib.hid o3; have A1 := Lib.hid p1; have A2 := Lib.hid p2; have A3 := Lib.hid p3; clear hb5 o1 o2 o3 p1 p2 p3 HB4 HD4 HF4 HR4 HV4)
      | (refine wp_storeDevW vp d.writes vu d.dead vf (one_own O1.out) (one_own O2.out) (one_own O3.out) HD5.out rfl rfl rfl rfl rfl ?_; intro w6 hP hS; have D6 := Lib.hid (own_dv (B := w.heap.size) (R := w1.heap.size) (w0 := w4) (by omega) (by omega) hP hS O1.out O2.out O3.out A1.out A2.out A3.out hz5); have HR6 := Lib.hid (hS.row HR5.out (by omega)); have HF5 := Lib.hid (hS.row HF5'.out (by omega)); have HB6 := Lib.hid (hS.below HB5.out (Nat.le_refl _)); obtain ⟨a0, a1, a2, a3, a4⟩ := D6.out.row.all5; clear hP hS O1 O2 O3 A1 A2 A3 HD5 HR5 HB5 HF5')
      | (refine wp_buildF1W f rfl rfl rfl ?_; intro w7 hP hb7 _; have T7 := Lib.hid hP; have D7 := Lib.hid (D6.out.keep hb7); have K7 := Lib.hid (D6.out.kp hb7); clear hP hb7 a0 a1 a2 a3 a4 D6)
      | (refine wp_appendF w.heap.size vf d.faults f _ rfl rfl rfl rfl D7.out.faults T7.out L3.out (Nat.le_of_lt D7.out.row.lt) ?_; intro v2 w8 hO hg hb; have ST := Lib.hid (D7.out.fltStep hg (.inl rfl) hO hb); have O8 := Lib.hid hO; have HD8 := Lib.hid ST.out.1; clear hO hg hb)
      | (refine wp_storeFieldW 25 v2 (cells_own O8.out) (one_own O8.out) info_flts1 HD8.out (show 4 < 5 by decide) rfl rfl rfl rfl ?_; intro wa hP hS; have RA := Lib.hid (ST.out.2 wa hS hP); have DA := Lib.hid RA.out.1; have KA := Lib.hid (K7.out.trans RA.out.2); have HRA := Lib.hid (HR6.out.same (KA.out.2 w1.heap.size (by simp))); have HBA := Lib.hid (HB6.out.trans KA.out.1); have HO := Lib.hid (DA.out.outs w1.heap.size (by simp)); clear hP hS HR6 HB6 K7 ST)
      | (refine wp_loadDev _ _ _ _ _ DA.out.row rfl rfl rfl ?_)
      | (refine wp_storeDevW vp d.writes vu d.dead v2 (one_own DA.out.pages) (one_own DA.out.unr) (one_own DA.out.faults) HRA.out rfl rfl rfl rfl rfl ?_; intro w9 hP hS; have HR9 := Lib.hid hP; have VB : Hid (DevV (dvals vp d.writes vu d.dead v2) { d with faults := d.faults ++ [f] } w9) := Lib.hid ⟨vp, vu, v2, rfl, Sl.of_own (own_storedNe DA.out.pages hS (fun g e e' => HO.out.2.2.1 (by rw [e, e']))), Sl.of_own (own_storedNe DA.out.unr hS (fun g e e' => HO.out.2.2.2.1 (by rw [e, e']))), Sl.of_own (own_storedNe DA.out.faults hS (fun g e e' => HO.out.2.2.2.2 (by rw [e, e'])))⟩; have HB9 := Lib.hid (hS.below HBA.out (by omega)); clear hP hS))
  refine bodyPost_ret (res_devE rfl rfl HR9.out rfl) rfl ⟨_, by rw [E.out]; rfl, ?_, fun b hb => lo_dvals (fun g e => Nat.le_trans hb (DA.out.pages.lt g e).1) (fun g e => Nat.le_trans hb (DA.out.unr.lt g e).1) (fun g e => Nat.le_trans hb (DA.out.faults.lt g e).1), HB9.out⟩
  unfold injectD
  rw [E.out]
  exact VB.out
def tearD (d : Dev) (page : Int) (s : ByteArray) (cut : Int) : Dev := if tearE d page s cut = 0 then owrD d page.toNat s cut.toNat else noDev
theorem tear_in {d : Dev} {page : Int} {s : ByteArray} {cut : Int} (h : tearE d page s cut = 0) : accessE d page = 0 ∧ (0 ≤ cut ∧ cut ≤ 256) ∧ s.size = 256 := by
  unfold tearE at h
  by_cases h1 : accessE d page = 0
  · rw [if_pos h1] at h
    by_cases h2 : 0 ≤ cut ∧ cut ≤ 256
    · rw [if_pos h2] at h
      by_cases h3 : s.size = 256
      · exact ⟨h1, h2, h3⟩
      · rw [if_neg h3] at h; cases h
    · rw [if_neg h2] at h; cases h
  · rw [if_neg h1] at h; exact absurd h h1
theorem tearError_b (vs : List Value) (d : Dev) (page : Int) (s : ByteArray) (cut : Int) (n : Int) (hn : tearE d page s cut = n) (w : World) (h : DevV vs d w) (hf : FitsD d) :
    Calls Try.prog 54 #[.agg vs.toArray, .int .i64 page, .string s, .int .i64 cut] w fun e w' => e = .returned (.int .i64 n) ∧ Below w.heap.size w w' := hn ▸ tearError_any vs d page s cut w h hf
set_option maxHeartbeats 4000000 in
set_option maxRecDepth 4000 in
theorem tear_any (vs : List Value) (d : Dev) (page : Int) (s : ByteArray) (cut : Int) (w : World) (h : DevV vs d w) (hf : FitsD d) :
    Calls Try.prog 27 #[.agg vs.toArray, .int .i64 page, .string s, .int .i64 cut] w fun e w' => ∃ vs', e = .returned (.tuple #[.agg vs'.toArray, .int .i64 (tearE d page s cut)]) ∧ DevV vs' (tearD d page s cut) w' ∧ (∀ b, b ≤ w.heap.size → Lo b vs') ∧ Below w.heap.size w w' := by
  obtain ⟨sp, cp, su, cu, sf, cf, rfl, P, U, F⟩ := h.form
  have DV := Lib.hid h
  have HF := Lib.hid hf
  clear h P U F hf
  by_cases c1 : tearE d page s cut = 0
  rotate_left
  · have E : Hid (tearD d page s cut = noDev) := Lib.hid (by unfold tearD; rw [if_neg c1])
    have hz : (tearE d page s cut == 0) = false := by simpa using c1
    obtain ⟨n, hn⟩ : ∃ n, tearE d page s cut = n := ⟨_, rfl⟩
    rw [hn] at hz
    have HN := Lib.hid hn
    have bd := build_dev0
    clear c1 hn
    go_enter Try.func27, Try.ntmps27
    go_wp2_with (first
      | (refine wp_boxW (dvals (.slice sp d.pages.length cp) d.writes (.slice su d.unr.length cu) d.dead (.slice sf d.faults.length cf)) _ rfl rfl rfl ?_; intro w0 hP hb0 hz0; have HB0 := Lib.hid hb0; have HD0 := Lib.hid hP; clear hP hb0)
      | (refine wp_newW dev0 _ zero_dev rfl rfl ?_; intro w1 hP hb1 hz1; have HB1 := Lib.hid (HB0.out.trans (hb1.mono HB0.out.size)); have HD1 := Lib.hid (HD0.out.keep hb1); have HR1 := Lib.hid hP; have HV1 := Lib.hid (DV.out.keep HB1.out); clear hP hb1 HD0 HB0)
      | (refine wp_loadDev _ _ _ _ _ HD1.out rfl rfl rfl ?_)
      | (go_at_call 54; (with_reducible refine (tearError_b _ d page s cut n HN.out _ HV1.out HF.out).mono ?_); rintro e w2 ⟨rfl, hb2⟩; have HB2 := Lib.hid (HB1.out.trans (hb2.mono HB1.out.size)); have HR2 := Lib.hid (HR1.out.keep hb2); clear hb2 HB1 HD1 HR1 HV1)
      | (refine wp_storeDevW nil3 0 nil3 false nil3 (one_slice ..) (one_slice ..) (one_slice ..) HR2.out rfl rfl rfl rfl rfl ?_; intro w3 hP hS; have HR3 := Lib.hid hP; have HB3 := Lib.hid (hS.below HB2.out (Nat.le_of_lt hz0)); clear hP hS))
    refine bodyPost_ret (res_devE rfl rfl HR3.out rfl) rfl ⟨_, by rw [HN.out]; rfl, ?_, fun b _ => lo_zero b, HB3.out⟩
    rw [E.out]
    exact devV0 _
  obtain ⟨ha, ⟨hc0, hc1⟩, hss⟩ := tear_in c1
  obtain ⟨hv, hdead, hp0, hp1⟩ := access_in ha
  have IV := Lib.hid (valid_is hv)
  have E : Hid (tearD d page s cut = owrD d page.toNat s cut.toNat) := Lib.hid (by unfold tearD; rw [if_pos c1])
  obtain ⟨k, rfl⟩ : ∃ k : Nat, page = (k : Int) := ⟨page.toNat, by omega⟩
  obtain ⟨n, rfl⟩ : ∃ n : Nat, cut = (n : Int) := ⟨cut.toNat, by omega⟩
  rw [Int.toNat_natCast, Int.toNat_natCast] at E
  have hkl : k < d.pages.length := by omega
  have HN := Lib.hid c1
  have HNN := HN
  have SS := Lib.hid hss
  have NL := Lib.hid (show n ≤ 256 by omega)
  have L1 := Lib.hid (show d.pages.length ≤ 1000 by have := IV.out.pages.1.2; omega)
  have L2 := Lib.hid (show d.unr.length ≤ 1000 by have := IV.out.unrLen; omega)
  have L3 := Lib.hid (show d.faults.length ≤ 1000 by have := IV.out.faults.1; omega)
  have HA : Hid (∃ old, d.pages[k]? = some old ∧ old.size = 256) := ⟨_, List.getElem?_eq_getElem hkl, IV.out.pages.2 _ (List.getElem_mem hkl)⟩
  clear c1 hss hv ha hdead hp0 hp1 hc0 hc1
  go_enter Try.func27, Try.ntmps27
  go_wp2_with (first
    | (refine wp_boxW (dvals (.slice sp d.pages.length cp) d.writes (.slice su d.unr.length cu) d.dead (.slice sf d.faults.length cf)) _ rfl rfl rfl ?_; intro w0 hP hb0 hz0; have HB0 := Lib.hid hb0; have HD0 := Lib.hid hP; clear hP hb0)
    | (refine wp_newW dev0 _ zero_dev rfl rfl ?_; intro w1 hP hb1 hz1; have HB1 := Lib.hid (HB0.out.trans (hb1.mono HB0.out.size)); have HD1 := Lib.hid (HD0.out.keep hb1); have HR1 := Lib.hid hP; have HV1 := Lib.hid (DV.out.keep HB1.out); clear hP hb1 HD0 HB0)
    | (refine wp_loadDev _ _ _ _ _ HD1.out rfl rfl rfl ?_)
    | (refine wp_loadDev _ _ _ _ _ HD2.out rfl rfl rfl ?_)
    | (go_at_call 54; (with_reducible refine (tearError_b _ d _ s _ 0 HN.out _ HV1.out HF.out).mono ?_); rintro e w2 ⟨rfl, hb2⟩; have hz2 := hb2.size; have HB2 := Lib.hid (HB1.out.trans (hb2.mono HB1.out.size)); have HD2 := Lib.hid (HD1.out.keep hb2); have HR2 := Lib.hid (HR1.out.keep hb2); have HV2 := Lib.hid (HV1.out.keep hb2); clear hb2 HB1 HD1 HR1 HV1)
    | (go_at_call 40; refine (own_any _ d _ HV2.out L1.out L2.out L3.out).mono ?_; rintro e w3 ⟨vp, vu, vf, rfl, o1, o2, o3, p1, p2, p3, hb3⟩; have hz3 := hb3.size; have HB3 := Lib.hid (HB2.out.trans (hb3.mono HB2.out.size)); have HD3 := Lib.hid (HD2.out.keep hb3); have HR3 := Lib.hid (HR2.out.keep hb3); have O1 := Lib.hid o1; have O2 := Lib.hid o2; have O3 := Lib.hid o3; have A1 := Lib.hid p1; have A2 := Lib.hid p2; have A3 := Lib.hid p3; clear hb3 o1 o2 o3 p1 p2 p3 HB2 HD2 HR2 HV2)
    | (refine wp_storeDevW vp d.writes vu d.dead vf (one_own O1.out) (one_own O2.out) (one_own O3.out) HD3.out rfl rfl rfl rfl rfl ?_; intro w4 hP hS; have D4 := Lib.hid (own_dv (B := w.heap.size) (R := w0.heap.size) (w0 := w2) hz0 (by omega) hP hS O1.out O2.out O3.out A1.out A2.out A3.out hz3); have HR4 := Lib.hid (hS.row HR3.out (Nat.ne_of_lt hz0)); have HB4 := Lib.hid (hS.below HB3.out (Nat.le_refl _)); clear hP hS O1 O2 O3 A1 A2 A3 HD3 HR3 HB3)
    | (go_at_call 55; obtain ⟨old, o1, o2⟩ := HA.out; refine (overwrite_any w.heap.size [w0.heap.size] vp vu vf d k s n old _ D4.out o1 o2 SS.out NL.out L2.out).mono ?_; rintro e w5 ⟨rfl, vu2, hD, hb, hK⟩; have D5 := Lib.hid hD; have HR5 := Lib.hid (HR4.out.same (hK.2 w0.heap.size (by simp))); have HB5 := Lib.hid (HB4.out.trans hK.1); have HO := Lib.hid (hD.outs w0.heap.size (by simp)); clear hD hb hK D4 HR4 HB4 o1 o2)
    | (refine wp_loadDev _ _ _ _ _ D5.out.row rfl rfl rfl ?_)
    | (refine wp_storeDevW vp _ vu2 _ vf (one_own D5.out.pages) (one_own D5.out.unr) (one_own D5.out.faults) HR5.out rfl rfl rfl rfl rfl ?_; intro wb hP hS; have RB := Lib.hid hP; have VB : Hid (DevV (dvals vp (owrD d k s n).writes vu2 (owrD d k s n).dead vf) (owrD d k s n) wb) := Lib.hid ⟨vp, vu2, vf, rfl, Sl.of_own (own_storedNe D5.out.pages hS (fun g e e' => HO.out.2.2.1 (by rw [e, e']))), Sl.of_own (own_storedNe D5.out.unr hS (fun g e e' => HO.out.2.2.2.1 (by rw [e, e']))), Sl.of_own (own_storedNe D5.out.faults hS (fun g e e' => HO.out.2.2.2.2 (by rw [e, e'])))⟩; have BB := Lib.hid (hS.below HB5.out (Nat.le_of_lt hz0)); clear hP hS))
  refine bodyPost_ret (res_devE rfl rfl RB.out rfl) rfl ⟨_, by rw [HNN.out]; rfl, ?_, fun b hb => lo_dvals (fun g e => Nat.le_trans hb (D5.out.pages.lt g e).1) (fun g e => Nat.le_trans hb (D5.out.unr.lt g e).1) (fun g e => Nat.le_trans hb (D5.out.faults.lt g e).1), BB.out⟩
  rw [E.out]
  exact VB.out
end Go.Proofs.Ytikpchhhenonaaa.lu
