/- The reference's Tear, Same, small. -/
import Derived.Test.YtikpchhhenonaaaNh
namespace Go.Proofs.Ytikpchhhenonaaa.no
open Go.ChangeShapes Go.WideShapes Go.ChangeAt Go.RowKit Go.Proofs.Ytikpchhhenonaaa.cx Go.Proofs.Ytikpchhhenonaaa.ra Go.Proofs.Ytikpchhhenonaaa.la Go.Proofs.Ytikpchhhenonaaa.lb Go.Proofs.Ytikpchhhenonaaa.lc Go.Proofs.Ytikpchhhenonaaa.ld Go.Proofs.Ytikpchhhenonaaa.le Go.Proofs.Ytikpchhhenonaaa.lf Go.Proofs.Ytikpchhhenonaaa.lg Go.Proofs.Ytikpchhhenonaaa.lh Go.Proofs.Ytikpchhhenonaaa.li Go.Proofs.Ytikpchhhenonaaa.lj Go.Proofs.Ytikpchhhenonaaa.lk Go.Proofs.Ytikpchhhenonaaa.ll Go.Proofs.Ytikpchhhenonaaa.lm Go.Proofs.Ytikpchhhenonaaa.ln Go.Proofs.Ytikpchhhenonaaa.lo Go.Proofs.Ytikpchhhenonaaa.lp Go.Proofs.Ytikpchhhenonaaa.lq Go.Proofs.Ytikpchhhenonaaa.lr Go.Proofs.Ytikpchhhenonaaa.ls Go.Proofs.Ytikpchhhenonaaa.lt Go.Proofs.Ytikpchhhenonaaa.lu Go.Proofs.Ytikpchhhenonaaa.lv Go.Proofs.Ytikpchhhenonaaa.lw Go.Proofs.Ytikpchhhenonaaa.lx Go.Proofs.Ytikpchhhenonaaa.ly Go.Proofs.Ytikpchhhenonaaa.na Go.Proofs.Ytikpchhhenonaaa.nb Go.Proofs.Ytikpchhhenonaaa.nc Go.Proofs.Ytikpchhhenonaaa.nd Go.Proofs.Ytikpchhhenonaaa.ne Go.Proofs.Ytikpchhhenonaaa.nf Go.Proofs.Ytikpchhhenonaaa.ng Go.Proofs.Ytikpchhhenonaaa.nh
set_option linter.unusedSimpArgs false
set_option maxHeartbeats 4000000 in
set_option maxRecDepth 4000 in
theorem refTear_e1 (vs : List Value) (d : Dev) (page : Int) (s : ByteArray) (cut : Int) (n : Int) (hn : accessE d page = n) (h0 : n ≠ 0) (w : World) (h : DevV vs d w) (hf : FitsD d) :
    Calls Try.prog 28 #[.agg vs.toArray, .int .i64 page, .string s, .int .i64 cut] w fun e w' => ∃ vs', e = .returned (.tuple #[.agg vs'.toArray, .int .i64 n]) ∧ DevV vs' noDev w' ∧ (∀ b, b ≤ w.heap.size → Lo b vs') ∧ Below w.heap.size w w' := by
  obtain ⟨sp, cp, su, cu, sf, cf, rfl, P, U, F⟩ := h.form
  have DV := Lib.hid h
  have HF := Lib.hid hf
  have HN := Lib.hid hn
  have hz : (n == 0) = false := by simpa using h0
  have bd := build_dev0
  clear h P U F hf hn h0
  go_enter Try.func28, Try.ntmps28
  go_wp2_with (first
    | (refine wp_boxW (dvals (.slice sp d.pages.length cp) d.writes (.slice su d.unr.length cu) d.dead (.slice sf d.faults.length cf)) _ rfl rfl rfl ?_; intro w0 hP hb0 hz0; have HB0 := Lib.hid hb0; have HD0 := Lib.hid hP; clear hP hb0)
    | (refine wp_newW dev0 _ zero_dev rfl rfl ?_; intro w1 hP hb1 hz1; have HB1 := Lib.hid (HB0.out.trans (hb1.mono HB0.out.size)); have HD1 := Lib.hid (HD0.out.keep hb1); have HR1 := Lib.hid hP; have HV1 := Lib.hid (DV.out.keep HB1.out); clear hP hb1 HD0 HB0)
    | (refine wp_loadDev _ _ _ _ _ HD1.out rfl rfl rfl ?_)
    | (go_at_call 45; (with_reducible refine (refUsable_b _ d _ n HN.out _ HV1.out HF.out).mono ?_); rintro e w2 ⟨rfl, hb2⟩; have hz2 := hb2.size; have HB2 := Lib.hid (HB1.out.trans (hb2.mono HB1.out.size)); have HD2 := Lib.hid (HD1.out.keep hb2); have HR2 := Lib.hid (HR1.out.keep hb2); have HV2 := Lib.hid (HV1.out.keep hb2); obtain ⟨a0, a1, a2, a3, a4⟩ := HD2.out.all5; clear hb2 HB1 HD1 HR1 HV1)
    | (refine wp_storeDevW nil3 0 nil3 false nil3 (one_slice ..) (one_slice ..) (one_slice ..) HR2.out rfl rfl rfl rfl rfl ?_; intro w9 hP hS; have HR9 := Lib.hid hP; have HB9 := Lib.hid (hS.below HB2.out (by omega)); clear hP hS))
  exact bodyPost_ret (res_devE rfl rfl HR9.out rfl) rfl ⟨_, rfl, devV0 _, fun b _ => lo_zero b, HB9.out⟩
set_option maxHeartbeats 4000000 in
set_option maxRecDepth 4000 in
theorem refTear_e2 (vs : List Value) (d : Dev) (page : Int) (s : ByteArray) (cut : Int) (hn : accessE d page = 0) (h0 : ¬ (0 ≤ cut ∧ cut ≤ 256)) (w : World) (h : DevV vs d w) (hf : FitsD d) :
    Calls Try.prog 28 #[.agg vs.toArray, .int .i64 page, .string s, .int .i64 cut] w fun e w' => ∃ vs', e = .returned (.tuple #[.agg vs'.toArray, .int .i64 1]) ∧ DevV vs' noDev w' ∧ (∀ b, b ≤ w.heap.size → Lo b vs') ∧ Below w.heap.size w w' := by
  obtain ⟨sp, cp, su, cu, sf, cf, rfl, P, U, F⟩ := h.form
  have DV := Lib.hid h
  have HF := Lib.hid hf
  have HN := Lib.hid hn
  have bd := build_dev0
  by_cases k0 : cut < 0
  · have z0 : decide (cut < 0) = true := decide_eq_true k0
    clear h P U F hf hn h0 k0
    go_enter Try.func28, Try.ntmps28
    go_wp2_with (first
      | (refine wp_boxW (dvals (.slice sp d.pages.length cp) d.writes (.slice su d.unr.length cu) d.dead (.slice sf d.faults.length cf)) _ rfl rfl rfl ?_; intro w0 hP hb0 hz0; have HB0 := Lib.hid hb0; have HD0 := Lib.hid hP; clear hP hb0)
      | (refine wp_newW dev0 _ zero_dev rfl rfl ?_; intro w1 hP hb1 hz1; have HB1 := Lib.hid (HB0.out.trans (hb1.mono HB0.out.size)); have HD1 := Lib.hid (HD0.out.keep hb1); have HR1 := Lib.hid hP; have HV1 := Lib.hid (DV.out.keep HB1.out); clear hP hb1 HD0 HB0)
      | (refine wp_loadDev _ _ _ _ _ HD1.out rfl rfl rfl ?_)
      | (go_at_call 45; (with_reducible refine (refUsable_b _ d _ 0 HN.out _ HV1.out HF.out).mono ?_); rintro e w2 ⟨rfl, hb2⟩; have hz2 := hb2.size; have HB2 := Lib.hid (HB1.out.trans (hb2.mono HB1.out.size)); have HD2 := Lib.hid (HD1.out.keep hb2); have HR2 := Lib.hid (HR1.out.keep hb2); have HV2 := Lib.hid (HV1.out.keep hb2); obtain ⟨a0, a1, a2, a3, a4⟩ := HD2.out.all5; clear hb2 HB1 HD1 HR1 HV1)
      | (refine wp_storeDevW nil3 0 nil3 false nil3 (one_slice ..) (one_slice ..) (one_slice ..) HR2.out rfl rfl rfl rfl rfl ?_; intro w9 hP hS; have HR9 := Lib.hid hP; have HB9 := Lib.hid (hS.below HB2.out (by omega)); clear hP hS))
    exact bodyPost_ret (res_devE rfl rfl HR9.out rfl) rfl ⟨_, rfl, devV0 _, fun b _ => lo_zero b, HB9.out⟩
  · have z0 : decide (cut < 0) = false := decide_eq_false k0
    have z1 : decide ((256 : Int) < cut) = true := decide_eq_true (by omega)
    clear h P U F hf hn h0 k0
    go_enter Try.func28, Try.ntmps28
    go_wp2_with (first
      | (refine wp_boxW (dvals (.slice sp d.pages.length cp) d.writes (.slice su d.unr.length cu) d.dead (.slice sf d.faults.length cf)) _ rfl rfl rfl ?_; intro w0 hP hb0 hz0; have HB0 := Lib.hid hb0; have HD0 := Lib.hid hP; clear hP hb0)
      | (refine wp_newW dev0 _ zero_dev rfl rfl ?_; intro w1 hP hb1 hz1; have HB1 := Lib.hid (HB0.out.trans (hb1.mono HB0.out.size)); have HD1 := Lib.hid (HD0.out.keep hb1); have HR1 := Lib.hid hP; have HV1 := Lib.hid (DV.out.keep HB1.out); clear hP hb1 HD0 HB0)
      | (refine wp_loadDev _ _ _ _ _ HD1.out rfl rfl rfl ?_)
      | (go_at_call 45; (with_reducible refine (refUsable_b _ d _ 0 HN.out _ HV1.out HF.out).mono ?_); rintro e w2 ⟨rfl, hb2⟩; have hz2 := hb2.size; have HB2 := Lib.hid (HB1.out.trans (hb2.mono HB1.out.size)); have HD2 := Lib.hid (HD1.out.keep hb2); have HR2 := Lib.hid (HR1.out.keep hb2); have HV2 := Lib.hid (HV1.out.keep hb2); obtain ⟨a0, a1, a2, a3, a4⟩ := HD2.out.all5; clear hb2 HB1 HD1 HR1 HV1)
      | (refine wp_storeDevW nil3 0 nil3 false nil3 (one_slice ..) (one_slice ..) (one_slice ..) HR2.out rfl rfl rfl rfl rfl ?_; intro w9 hP hS; have HR9 := Lib.hid hP; have HB9 := Lib.hid (hS.below HB2.out (by omega)); clear hP hS))
    exact bodyPost_ret (res_devE rfl rfl HR9.out rfl) rfl ⟨_, rfl, devV0 _, fun b _ => lo_zero b, HB9.out⟩
set_option maxHeartbeats 4000000 in
set_option maxRecDepth 4000 in
theorem refTear_e3 (vs : List Value) (d : Dev) (page : Int) (s : ByteArray) (cut : Int) (hn : accessE d page = 0) (hc : 0 ≤ cut ∧ cut ≤ 256) (h0 : s.size ≠ 256) (w : World) (h : DevV vs d w) (hf : FitsD d) :
    Calls Try.prog 28 #[.agg vs.toArray, .int .i64 page, .string s, .int .i64 cut] w fun e w' => ∃ vs', e = .returned (.tuple #[.agg vs'.toArray, .int .i64 2]) ∧ DevV vs' noDev w' ∧ (∀ b, b ≤ w.heap.size → Lo b vs') ∧ Below w.heap.size w w' := by
  obtain ⟨sp, cp, su, cu, sf, cf, rfl, P, U, F⟩ := h.form
  have DV := Lib.hid h
  have HF := Lib.hid hf
  have HN := Lib.hid hn
  have bd := build_dev0
  have z0 : decide (cut < 0) = false := decide_eq_false (by omega)
  have z1 : decide ((256 : Int) < cut) = false := decide_eq_false (by omega)
  have hz : ((s.size : Int) != 256) = true := by simp; omega
  clear h P U F hf hn h0 hc
  go_enter Try.func28, Try.ntmps28
  go_wp2_with (first
    | (refine wp_boxW (dvals (.slice sp d.pages.length cp) d.writes (.slice su d.unr.length cu) d.dead (.slice sf d.faults.length cf)) _ rfl rfl rfl ?_; intro w0 hP hb0 hz0; have HB0 := Lib.hid hb0; have HD0 := Lib.hid hP; clear hP hb0)
    | (refine wp_newW dev0 _ zero_dev rfl rfl ?_; intro w1 hP hb1 hz1; have HB1 := Lib.hid (HB0.out.trans (hb1.mono HB0.out.size)); have HD1 := Lib.hid (HD0.out.keep hb1); have HR1 := Lib.hid hP; have HV1 := Lib.hid (DV.out.keep HB1.out); clear hP hb1 HD0 HB0)
    | (refine wp_loadDev _ _ _ _ _ HD1.out rfl rfl rfl ?_)
    | (go_at_call 45; (with_reducible refine (refUsable_b _ d _ 0 HN.out _ HV1.out HF.out).mono ?_); rintro e w2 ⟨rfl, hb2⟩; have hz2 := hb2.size; have HB2 := Lib.hid (HB1.out.trans (hb2.mono HB1.out.size)); have HD2 := Lib.hid (HD1.out.keep hb2); have HR2 := Lib.hid (HR1.out.keep hb2); have HV2 := Lib.hid (HV1.out.keep hb2); obtain ⟨a0, a1, a2, a3, a4⟩ := HD2.out.all5; clear hb2 HB1 HD1 HR1 HV1)
    | (refine wp_storeDevW nil3 0 nil3 false nil3 (one_slice ..) (one_slice ..) (one_slice ..) HR2.out rfl rfl rfl rfl rfl ?_; intro w9 hP hS; have HR9 := Lib.hid hP; have HB9 := Lib.hid (hS.below HB2.out (by omega)); clear hP hS))
  exact bodyPost_ret (res_devE rfl rfl HR9.out rfl) rfl ⟨_, rfl, devV0 _, fun b _ => lo_zero b, HB9.out⟩
set_option maxHeartbeats 4000000 in
set_option maxRecDepth 4000 in
theorem refTear_ok (vs : List Value) (d : Dev) (k n : Nat) (s : ByteArray) (hn : accessE d (k : Int) = 0) (hc : n ≤ 256) (hs : s.size = 256) (w : World) (h : DevV vs d w) (hf : FitsD d) :
    Calls Try.prog 28 #[.agg vs.toArray, .int .i64 (k : Int), .string s, .int .i64 (n : Int)] w fun e w' => ∃ vs', e = .returned (.tuple #[.agg vs'.toArray, .int .i64 0]) ∧ DevV vs' (owrD d k s n) w' ∧ (∀ b, b ≤ w.heap.size → Lo b vs') ∧ Below w.heap.size w w' := by
  obtain ⟨sp, cp, su, cu, sf, cf, rfl, P, U, F⟩ := h.form
  have DV := Lib.hid h
  have HF := Lib.hid hf
  have HN := Lib.hid hn
  obtain ⟨hv, _, hp0, hp1⟩ := access_in hn
  have IV := Lib.hid (valid_is hv)
  have hkl : k < d.pages.length := by omega
  obtain ⟨old, hold⟩ : ∃ old, d.pages[k]? = some old := ⟨_, List.getElem?_eq_getElem hkl⟩
  have OS := Lib.hid (And.intro hold (IV.out.pages.2 old (List.mem_of_getElem? hold)))
  have SS := Lib.hid hs
  have CC := Lib.hid hc
  have L1 := Lib.hid (show d.pages.length ≤ 1000 by have := IV.out.pages.1.2; omega)
  have L2 := Lib.hid (show d.unr.length ≤ 1000 by have := IV.out.unrLen; omega)
  have L3 := Lib.hid (show d.faults.length ≤ 1000 by have := IV.out.faults.1; omega)
  have z0 : decide ((n : Int) < 0) = false := decide_eq_false (by omega)
  have z1 : decide ((256 : Int) < (n : Int)) = false := decide_eq_false (by omega)
  have hz : ((s.size : Int) != 256) = false := by simp; omega
  clear h P U F hf hn hc hs hv hold
  rename_i hdead
  clear hdead
  go_enter Try.func28, Try.ntmps28
  go_wp2_with (first
    | (refine wp_boxW (dvals (.slice sp d.pages.length cp) d.writes (.slice su d.unr.length cu) d.dead (.slice sf d.faults.length cf)) _ rfl rfl rfl ?_; intro w0 hP hb0 hz0; have HB0 := Lib.hid hb0; have HD0 := Lib.hid hP; clear hP hb0)
    | (refine wp_newW dev0 _ zero_dev rfl rfl ?_; intro w1 hP hb1 hz1; have HB1 := Lib.hid (HB0.out.trans (hb1.mono HB0.out.size)); have HD1 := Lib.hid (HD0.out.keep hb1); have HR1 := Lib.hid hP; have HV1 := Lib.hid (DV.out.keep HB1.out); clear hP hb1 HD0 HB0)
    | (refine wp_loadDev _ _ _ _ _ HD1.out rfl rfl rfl ?_)
    | (go_at_call 45; (with_reducible refine (refUsable_b _ d _ 0 HN.out _ HV1.out HF.out).mono ?_); rintro e w2 ⟨rfl, hb2⟩; have hz2 := hb2.size; have HB2 := Lib.hid (HB1.out.trans (hb2.mono HB1.out.size)); have HD2 := Lib.hid (HD1.out.keep hb2); have HR2 := Lib.hid (HR1.out.keep hb2); have HV2 := Lib.hid (HV1.out.keep hb2); obtain ⟨a0, a1, a2, a3, a4⟩ := HD2.out.all5; clear hb2 HB1 HD1 HR1 HV1)
    | (refine wp_loadDev _ _ _ _ _ HD2.out rfl rfl rfl ?_)
    | (go_at_call 37; refine (refCopy_any _ d _ HV2.out L1.out L2.out L3.out).mono ?_; rintro e w3 ⟨vp, vu, vf, rfl, o1, o2, o3, p1, p2, p3, hb3⟩; have hz3 := hb3.size; have HB3 := Lib.hid (HB2.out.trans (hb3.mono HB2.out.size)); have HR3 := Lib.hid (HR2.out.keep hb3); have O1 := Lib.hid o1; have O2 := Lib.hid o2; have O3 := Lib.hid o3; have A1 := Lib.hid p1; have A2 := Lib.hid p2; clear hb3 o1 o2 o3 p1 p2 p3 a0 a1 a2 a3 a4 HV2 HR2 HB2)
    | (go_at_call 46; refine (refPlace_b w2.heap.size vp vu vf d k n (k : Int) (n : Int) rfl rfl s old _ O1.out (Sl.of_own O2.out) (Sl.of_own O3.out) A2.out A1.out OS.out.1 OS.out.2 SS.out CC.out L2.out).mono ?_; rintro e w4 ⟨vu', rfl, hP, hU, hg⟩; have hz4 := hg.size; have P4 := Lib.hid hP; have U4 := Lib.hid hU; have F4 := Lib.hid (own_grown O3.out hg (fun g e e2 => A2.out g e2 e)); have HR4 := Lib.hid (HR3.out.grown hg (fun e => by have := (O1.out.lt _ e).1; omega)); have HB4 := Lib.hid (below_step HB3.out hg (fun g e => by have := (O1.out.lt g e).1; have := Nat.le_of_lt hz0; omega)); clear hP hU hg HR3 HB3)
    | (refine wp_storeDevW vp d.writes vu' d.dead vf (one_own P4.out) (one_own U4.out) (one_own F4.out) HR4.out rfl rfl rfl rfl rfl ?_; intro w9 hP hS; have HR9 := Lib.hid hP; have VB : Hid (DevV (dvals vp d.writes vu' d.dead vf) (owrD d k s n) w9) := Lib.hid ⟨vp, vu', vf, rfl, Sl.of_own (own_storedNe P4.out hS (fun g e => by have := (P4.out.lt g e).1; omega)), Sl.of_own (own_storedNe U4.out hS (fun g e => by have := (U4.out.lt g e).1; omega)), Sl.of_own (own_storedNe F4.out hS (fun g e => by have := (F4.out.lt g e).1; omega))⟩; have HB9 := Lib.hid (hS.below HB4.out (Nat.le_of_lt hz0)); clear hP hS))
  exact bodyPost_ret (res_devE rfl rfl HR9.out rfl) rfl ⟨_, rfl, VB.out, fun b hb => lo_dvals (fun g e => by have := (P4.out.lt g e).1; omega) (fun g e => by have := (U4.out.lt g e).1; omega) (fun g e => by have := (F4.out.lt g e).1; omega), HB9.out⟩
theorem refTear_any (vs : List Value) (d : Dev) (page : Int) (s : ByteArray) (cut n : Int) (hn : tearE d page s cut = n) (w : World) (h : DevV vs d w) (hf : FitsD d) :
    Calls Try.prog 28 #[.agg vs.toArray, .int .i64 page, .string s, .int .i64 cut] w fun e w' => ∃ vs', e = .returned (.tuple #[.agg vs'.toArray, .int .i64 n]) ∧ DevV vs' (tearD d page s cut) w' ∧ (∀ b, b ≤ w.heap.size → Lo b vs') ∧ Below w.heap.size w w' := by
  subst hn
  by_cases c1 : tearE d page s cut = 0
  · have c0 := c1
    unfold tearE at c0
    by_cases ca : accessE d page = 0
    · rw [if_pos ca] at c0
      by_cases cb : 0 ≤ cut ∧ cut ≤ 256
      · rw [if_pos cb] at c0
        by_cases cs : s.size = 256
        · obtain ⟨_, _, hp0, _⟩ := access_in ca
          obtain ⟨k, rfl⟩ := Int.eq_ofNat_of_zero_le hp0
          obtain ⟨m, rfl⟩ := Int.eq_ofNat_of_zero_le cb.1
          have := refTear_ok vs d k m s ca (by omega) cs w h hf
          rw [c1, show tearD d (k : Int) s (m : Int) = owrD d k s m by unfold tearD; rw [if_pos c1, Int.toNat_natCast, Int.toNat_natCast]]
          exact this
        · rw [if_neg cs] at c0; cases c0
      · rw [if_neg cb] at c0; cases c0
    · rw [if_neg ca] at c0; exact absurd c0 ca
  · rw [show tearD d page s cut = noDev by unfold tearD; rw [if_neg c1]]
    by_cases ca : accessE d page = 0
    · by_cases cb : 0 ≤ cut ∧ cut ≤ 256
      · by_cases cs : s.size = 256
        · exact absurd (by unfold tearE; rw [if_pos ca, if_pos cb, if_pos cs]) c1
        · rw [show tearE d page s cut = 2 by unfold tearE; rw [if_pos ca, if_pos cb, if_neg cs]]
          exact refTear_e3 vs d page s cut ca cb cs w h hf
      · rw [show tearE d page s cut = 1 by unfold tearE; rw [if_pos ca, if_neg cb]]
        exact refTear_e2 vs d page s cut ca cb w h hf
    · rw [show tearE d page s cut = accessE d page by unfold tearE; rw [if_neg ca]]
      exact refTear_e1 vs d page s cut _ rfl ca w h hf
set_option maxHeartbeats 4000000 in
set_option maxRecDepth 4000 in
/-- Two values of one device are the same. -/
theorem refSame_any (va vb : List Value) (d : Dev) (w : World) (ha : DevV va d w) (hb : DevV vb d w) :
    Calls Try.prog 15 #[.agg va.toArray, .agg vb.toArray] w fun e w' => e = .returned (.bool true) ∧ Below w.heap.size w w' := by
  obtain ⟨ap, cap', au, cau, af, caf, rfl, AP, AU, AF⟩ := ha.form
  obtain ⟨bp, cbp, bu, cbu, bf, cbf, rfl, BP, BU, BF⟩ := hb.form
  have l1 := Sl.len_le AP.out
  have l2 := Sl.len_le AU.out
  have l3 := Sl.len_le AF.out
  clear ha hb
  have n1 : ((d.pages.length : Int) != (d.pages.length : Int)) = false := by simp
  have n2 : (d.writes != d.writes) = false := by simp
  have n3 : (d.dead != d.dead) = false := by simp
  have n4 : ((d.unr.length : Int) != (d.unr.length : Int)) = false := by simp
  have n5 : ((d.faults.length : Int) != (d.faults.length : Int)) = false := by simp
  go_enter Try.func15, Try.ntmps15
  go_wp2_with (first
    | (have hq := HB0.out; clear hq; refine wp_boxW (dvals (.slice bp d.pages.length cbp) d.writes (.slice bu d.unr.length cbu) d.dead (.slice bf d.faults.length cbf)) _ rfl rfl rfl ?_; intro w1 hP hb1 hz1; have HB1 := Lib.hid (HB0.out.trans (hb1.mono HB0.out.size)); have HD1 := Lib.hid (HD0.out.keep hb1); have HE1 := Lib.hid hP; obtain ⟨a0, a1, a2, a3, a4⟩ := HD1.out.all5; obtain ⟨e0, e1, e2, e3, e4⟩ := HE1.out.all5; clear hP hb1 HB0 HD0)
    | (refine wp_boxW (dvals (.slice ap d.pages.length cap') d.writes (.slice au d.unr.length cau) d.dead (.slice af d.faults.length caf)) _ rfl rfl rfl ?_; intro w0 hP hb0 hz0; have HB0 := Lib.hid hb0; have HD0 := Lib.hid hP; clear hP hb0))
  clear a0 a1 a2 a3 a4 e0 e1 e2 e3 e4 n1 n2 n3 n4 n5
  have WS := Lib.hid (And.intro hz0 hz1)
  have BW0 : Hid (Below w1.heap.size w1 w1) := Lib.hid (Below.refl _ _)
  go_loopw [5] (fun s wr => ∃ j : Nat, j ≤ d.pages.length ∧ s = .int .i64 j ∧ Hid (Below w1.heap.size w1 wr)) (fun s _ => d.pages.length - (intOf s).toNat)
  case atStart => exact ⟨0, by omega, rfl, BW0⟩
  case round =>
    obtain ⟨j, hj, rfl, BB⟩ := hrel
    have HDj := Lib.hid (HD1.out.keep BB.out)
    have HEj := Lib.hid (HE1.out.keep BB.out)
    obtain ⟨a0, a1, a2, a3, a4⟩ := HDj.out.all5
    obtain ⟨e0, e1, e2, e3, e4⟩ := HEj.out.all5
    by_cases hj2 : j < d.pages.length
    · have q0 : (0 : Int) ≤ (j : Int) := by omega
      have q1 : (j : Int) < (d.pages.length : Int) := by omega
      obtain ⟨x, hx⟩ : ∃ x, d.pages[j]? = some x := ⟨_, List.getElem?_eq_getElem hj2⟩
      obtain ⟨g, off, rfl, hg, hcc⟩ := nc.sl_block AP.out (by omega)
      obtain ⟨g', off', rfl, hg', hcc'⟩ := nc.sl_block BP.out (by omega)
      have BW := Lib.hid (HB1.out.trans (BB.out.mono HB1.out.size))
      have c1 : wr.cell? ⟨g, off + j, none⟩ = some (.string x) := (BW.out.cell (p := ⟨g, off + j, none⟩) hg).trans (hcc j _ (strL_at hx))
      have c2 : wr.cell? ⟨g', off' + j, none⟩ = some (.string x) := (BW.out.cell (p := ⟨g', off' + j, none⟩) hg').trans (hcc' j _ (strL_at hx))
      clear hcc hcc' hx
      go_wp2_with fail
      go_quiet (fail)
      go_wp2_with fail
      go_roundw
      case measure => simp [intOf]; omega
      case rel => first | exact ⟨j + 1, by omega, by go_num, Lib.hid (la.below_drewN BB.out _)⟩ | ((repeat apply Exists.intro); exact ⟨⟨j + 1, by omega, by go_num, Lib.hid (la.below_drewN BB.out _)⟩, rfl⟩)
    · have hj3 : ¬ (j : Int) < (d.pages.length : Int) := by omega
      go_wp2_with fail
      clear a0 a1 a2 a3 a4 e0 e1 e2 e3 e4
      have BW1 := BB
      go_loopw [6] (fun s wr => ∃ j : Nat, j ≤ d.unr.length ∧ s = .int .i64 j ∧ Hid (Below w1.heap.size w1 wr)) (fun s _ => d.unr.length - (intOf s).toNat)
      case atStart => exact ⟨0, by omega, rfl, BW1⟩
      case round =>
        obtain ⟨j, hj, rfl, BB⟩ := hrel
        have HDj := Lib.hid (HD1.out.keep BB.out)
        have HEj := Lib.hid (HE1.out.keep BB.out)
        obtain ⟨a0, a1, a2, a3, a4⟩ := HDj.out.all5
        obtain ⟨e0, e1, e2, e3, e4⟩ := HEj.out.all5
        by_cases hj2 : j < d.unr.length
        · have q0 : (0 : Int) ≤ (j : Int) := by omega
          have q1 : (j : Int) < (d.unr.length : Int) := by omega
          obtain ⟨x, hx⟩ : ∃ x, d.unr[j]? = some x := ⟨_, List.getElem?_eq_getElem hj2⟩
          obtain ⟨g, off, rfl, hg, hcc⟩ := nc.sl_block AU.out (by omega)
          obtain ⟨g', off', rfl, hg', hcc'⟩ := nc.sl_block BU.out (by omega)
          have BW := Lib.hid (HB1.out.trans (BB.out.mono HB1.out.size))
          have c1 : wr.cell? ⟨g, off + j, none⟩ = some (.int .i64 x) := (BW.out.cell (p := ⟨g, off + j, none⟩) hg).trans (hcc j _ (intL_at hx))
          have c2 : wr.cell? ⟨g', off' + j, none⟩ = some (.int .i64 x) := (BW.out.cell (p := ⟨g', off' + j, none⟩) hg').trans (hcc' j _ (intL_at hx))
          have nn : (x != x) = false := by simp
          clear hcc hcc' hx
          go_wp2_with fail
          go_quiet (fail)
          go_wp2_with fail
          go_roundw
          case measure => simp [intOf]; omega
          case rel => first | exact ⟨j + 1, by omega, by go_num, Lib.hid (la.below_drewN BB.out _)⟩ | ((repeat apply Exists.intro); exact ⟨⟨j + 1, by omega, by go_num, Lib.hid (la.below_drewN BB.out _)⟩, rfl⟩)
        · have hj3 : ¬ (j : Int) < (d.unr.length : Int) := by omega
          go_wp2_with fail
          clear a0 a1 a2 a3 a4 e0 e1 e2 e3 e4
          have BW2 := BB
          go_loopw [7] (fun s wr => ∃ j : Nat, j ≤ d.faults.length ∧ s = .int .i64 j ∧ Hid (Below w1.heap.size w1 wr)) (fun s _ => d.faults.length - (intOf s).toNat)
          case atStart => exact ⟨0, by omega, rfl, BW2⟩
          case round =>
            obtain ⟨j, hj, rfl, BB⟩ := hrel
            have HDj := Lib.hid (HD1.out.keep BB.out)
            have HEj := Lib.hid (HE1.out.keep BB.out)
            obtain ⟨a0, a1, a2, a3, a4⟩ := HDj.out.all5
            obtain ⟨e0, e1, e2, e3, e4⟩ := HEj.out.all5
            by_cases hj2 : j < d.faults.length
            · have q0 : (0 : Int) ≤ (j : Int) := by omega
              have q1 : (j : Int) < (d.faults.length : Int) := by omega
              obtain ⟨x, hx⟩ : ∃ x, d.faults[j]? = some x := ⟨_, List.getElem?_eq_getElem hj2⟩
              obtain ⟨g, off, rfl, hg, hcc⟩ := nc.sl_block AF.out (by omega)
              obtain ⟨g', off', rfl, hg', hcc'⟩ := nc.sl_block BF.out (by omega)
              have BW := Lib.hid (HB1.out.trans (BB.out.mono HB1.out.size))
              have LA : ∀ W, Below w1.heap.size w1 W → ∀ i u, x.vals[i]? = some u → W.cell? ⟨g, off + j * 6 + i, none⟩ = some u := fun W hW i u hu => by rw [(HB1.out.trans (hW.mono HB1.out.size)).cell (p := ⟨g, off + j * 6 + i, none⟩) hg, Nat.add_assoc]; exact hcc _ _ (fltL_at d.faults j x i u hx hu)
              have LB : ∀ W, Below w1.heap.size w1 W → ∀ i u, x.vals[i]? = some u → W.cell? ⟨g', off' + j * 6 + i, none⟩ = some u := fun W hW i u hu => by rw [(HB1.out.trans (hW.mono HB1.out.size)).cell (p := ⟨g', off' + j * 6 + i, none⟩) hg', Nat.add_assoc]; exact hcc' _ _ (fltL_at d.faults j x i u hx hu)
              have LA' := Lib.hid LA
              have LB' := Lib.hid LB
              have fe : ∀ W : World, (binOp .neq 29 (.agg x.arr) (.agg x.arr)).run Try.prog W = .ok (.bool false) W := fun W => by rw [flt_neq, sameF_iff.2 rfl]; rfl
              clear hcc hcc' hx LA LB
              go_upto_region 16 with fail
              refine wp_region_held_drew (S := fun W => Below w1.heap.size w1 W) (by kernel_rfl) BB.out.drew (fun hHeld => ?_)
              refine wpAnyH_take (i := 0) (v := ?_) rfl (by kernel_rfl) (by kernel_rfl) (by kernel_rfl) (fun _ _ _ h => h) (Or.inl ⟨by rfl, ?_⟩) (by assumption) ?_
              rotate_left
              · (intro W hSW; go_simp; try with_reducible rfl)
              try simp only [Act.put, List.getElem_toArray, List.getElem_cons_zero, List.getElem_cons_succ, List.setIfInBounds_toArray, List.set_cons_zero, List.set_cons_succ]
              refine wpAnyH_take (i := 1) (v := ?_) rfl (by kernel_rfl) (by kernel_rfl) (by kernel_rfl) (fun _ _ _ h => h) (Or.inl ⟨by rfl, ?_⟩) (by assumption) ?_
              rotate_left
              · (intro W hSW; have hcell := (HD1.out.keep hSW).cells 4 _ rfl; go_simp; try with_reducible rfl)
              try simp only [Act.put, List.getElem_toArray, List.getElem_cons_zero, List.getElem_cons_succ, List.setIfInBounds_toArray, List.set_cons_zero, List.set_cons_succ]
              refine wpAnyH_take (i := 2) (v := ?_) rfl (by kernel_rfl) (by kernel_rfl) (by kernel_rfl) (fun _ _ _ h => h) (Or.inl ⟨by rfl, ?_⟩) (by assumption) ?_
              rotate_left
              · (intro W hSW; go_simp; try with_reducible rfl)
              try simp only [Act.put, List.getElem_toArray, List.getElem_cons_zero, List.getElem_cons_succ, List.setIfInBounds_toArray, List.set_cons_zero, List.set_cons_succ]
              refine wpAnyH_take (i := 3) (v := ?_) rfl (by kernel_rfl) (by kernel_rfl) (by kernel_rfl) (fun _ _ _ h => h) (Or.inl ⟨by rfl, ?_⟩) (by assumption) ?_
              rotate_left
              · (intro W hSW; go_simp; try with_reducible rfl)
              try simp only [Act.put, List.getElem_toArray, List.getElem_cons_zero, List.getElem_cons_succ, List.setIfInBounds_toArray, List.set_cons_zero, List.set_cons_succ]
              refine wpAnyH_take (i := 4) (v := .agg x.arr) rfl (by kernel_rfl) (by kernel_rfl) (by kernel_rfl) (fun _ _ _ h => h) (yieldsIf_load_mid (by rfl) 29 _ rfl g (off + j * 6) rfl x.vals _ (fun W hSw => fun i v hv => LA'.out W hSw i v hv) Try.underlying29 rfl info_flt) (by assumption) ?_
              try simp only [Act.put, List.getElem_toArray, List.getElem_cons_zero, List.getElem_cons_succ, List.setIfInBounds_toArray, List.set_cons_zero, List.set_cons_succ]
              refine wpAnyH_take (i := 5) (v := ?_) rfl (by kernel_rfl) (by kernel_rfl) (by kernel_rfl) (fun _ _ _ h => h) (Or.inl ⟨by rfl, ?_⟩) (by assumption) ?_
              rotate_left
              · (intro W hSW; go_simp; try with_reducible rfl)
              try simp only [Act.put, List.getElem_toArray, List.getElem_cons_zero, List.getElem_cons_succ, List.setIfInBounds_toArray, List.set_cons_zero, List.set_cons_succ]
              refine wpAnyH_take (i := 6) (v := ?_) rfl (by kernel_rfl) (by kernel_rfl) (by kernel_rfl) (fun _ _ _ h => h) (Or.inl ⟨by rfl, ?_⟩) (by assumption) ?_
              rotate_left
              · (intro W hSW; have hcell := (HE1.out.keep hSW).cells 4 _ rfl; go_simp; try with_reducible rfl)
              try simp only [Act.put, List.getElem_toArray, List.getElem_cons_zero, List.getElem_cons_succ, List.setIfInBounds_toArray, List.set_cons_zero, List.set_cons_succ]
              refine wpAnyH_take (i := 7) (v := ?_) rfl (by kernel_rfl) (by kernel_rfl) (by kernel_rfl) (fun _ _ _ h => h) (Or.inl ⟨by rfl, ?_⟩) (by assumption) ?_
              rotate_left
              · (intro W hSW; go_simp; try with_reducible rfl)
              try simp only [Act.put, List.getElem_toArray, List.getElem_cons_zero, List.getElem_cons_succ, List.setIfInBounds_toArray, List.set_cons_zero, List.set_cons_succ]
              refine wpAnyH_take (i := 8) (v := ?_) rfl (by kernel_rfl) (by kernel_rfl) (by kernel_rfl) (fun _ _ _ h => h) (Or.inl ⟨by rfl, ?_⟩) (by assumption) ?_
              rotate_left
              · (intro W hSW; go_simp; try with_reducible rfl)
              try simp only [Act.put, List.getElem_toArray, List.getElem_cons_zero, List.getElem_cons_succ, List.setIfInBounds_toArray, List.set_cons_zero, List.set_cons_succ]
              refine wpAnyH_take (i := 9) (v := .agg x.arr) rfl (by kernel_rfl) (by kernel_rfl) (by kernel_rfl) (fun _ _ _ h => h) (yieldsIf_load_mid (by rfl) 29 _ rfl g' (off' + j * 6) rfl x.vals _ (fun W hSw => fun i v hv => LB'.out W hSw i v hv) Try.underlying29 rfl info_flt) (by assumption) ?_
              try simp only [Act.put, List.getElem_toArray, List.getElem_cons_zero, List.getElem_cons_succ, List.setIfInBounds_toArray, List.set_cons_zero, List.set_cons_succ]
              refine wpAnyH_take (i := 10) (v := ?_) rfl (by kernel_rfl) (by kernel_rfl) (by kernel_rfl) (fun _ _ _ h => h) (Or.inl ⟨by rfl, ?_⟩) (by assumption) ?_
              rotate_left
              · (intro W hSW; have fe2 := fe W; go_simp; try with_reducible rfl)
              try simp only [Act.put, List.getElem_toArray, List.getElem_cons_zero, List.getElem_cons_succ, List.setIfInBounds_toArray, List.set_cons_zero, List.set_cons_succ]
              refine wpAnyH_done (by kernel_rfl) ?_ _
              clear a0 a1 a2 a3 a4 e0 e1 e2 e3 e4
              go_wp2_with fail
              go_roundw
              case measure => simp [intOf]; omega
              case rel => first | exact ⟨j + 1, by omega, by go_num, Lib.hid hHeld⟩ | ((repeat apply Exists.intro); exact ⟨⟨j + 1, by omega, by go_num, Lib.hid hHeld⟩, rfl⟩)
            · have hj3 : ¬ (j : Int) < (d.faults.length : Int) := by omega
              go_wp2_with fail
              go_ret
              exact ⟨rfl, HB1.out.trans (BB.out.mono HB1.out.size)⟩
def smallD (d : Dev) : Bool := decide (d.pages.length ≤ 70 ∧ d.unr.length ≤ 70 ∧ d.faults.length ≤ 70)
set_option maxHeartbeats 2000000 in
set_option maxRecDepth 4000 in
theorem small_any (vs : List Value) (d : Dev) (w : World) (h : DevV vs d w) :
    Calls Try.prog 10 #[.agg vs.toArray] w fun e w' => e = .returned (.bool (smallD d)) ∧ Below w.heap.size w w' := by
  obtain ⟨sp, cp, su, cu, sf, cf, rfl, P, U, F⟩ := h.form
  clear h P U F
  by_cases k1 : d.pages.length ≤ 70
  rotate_left
  · have E : Hid (smallD d = false) := Lib.hid (decide_eq_false (by omega))
    have y1 : decide ((d.pages.length : Int) ≤ 70) = false := decide_eq_false (by omega)
    clear k1
    go_enter Try.func10, Try.ntmps10
    go_wp2_with (refine wp_boxW (dvals (.slice sp d.pages.length cp) d.writes (.slice su d.unr.length cu) d.dead (.slice sf d.faults.length cf)) _ rfl rfl rfl ?_; intro w0 hP hb0 hz0; have HB0 := Lib.hid hb0; obtain ⟨a0, a1, a2, a3, a4⟩ := hP.all5; clear hP hb0)
    go_ret
    exact ⟨by rw [E.out]; rfl, HB0.out⟩
  by_cases k2 : d.unr.length ≤ 70
  rotate_left
  · have E : Hid (smallD d = false) := Lib.hid (decide_eq_false (by omega))
    have y1 : decide ((d.pages.length : Int) ≤ 70) = true := decide_eq_true (by omega)
    have y2 : decide ((d.unr.length : Int) ≤ 70) = false := decide_eq_false (by omega)
    clear k1 k2
    go_enter Try.func10, Try.ntmps10
    go_wp2_with (refine wp_boxW (dvals (.slice sp d.pages.length cp) d.writes (.slice su d.unr.length cu) d.dead (.slice sf d.faults.length cf)) _ rfl rfl rfl ?_; intro w0 hP hb0 hz0; have HB0 := Lib.hid hb0; obtain ⟨a0, a1, a2, a3, a4⟩ := hP.all5; clear hP hb0)
    go_ret
    exact ⟨by rw [E.out]; rfl, HB0.out⟩
  by_cases k3 : d.faults.length ≤ 70
  rotate_left
  · have E : Hid (smallD d = false) := Lib.hid (decide_eq_false (by omega))
    have y1 : decide ((d.pages.length : Int) ≤ 70) = true := decide_eq_true (by omega)
    have y2 : decide ((d.unr.length : Int) ≤ 70) = true := decide_eq_true (by omega)
    have y3 : decide ((d.faults.length : Int) ≤ 70) = false := decide_eq_false (by omega)
    clear k1 k2 k3
    go_enter Try.func10, Try.ntmps10
    go_wp2_with (refine wp_boxW (dvals (.slice sp d.pages.length cp) d.writes (.slice su d.unr.length cu) d.dead (.slice sf d.faults.length cf)) _ rfl rfl rfl ?_; intro w0 hP hb0 hz0; have HB0 := Lib.hid hb0; obtain ⟨a0, a1, a2, a3, a4⟩ := hP.all5; clear hP hb0)
    go_ret
    exact ⟨by rw [E.out]; rfl, HB0.out⟩
  have E : Hid (smallD d = true) := Lib.hid (decide_eq_true ⟨k1, k2, k3⟩)
  have y1 : decide ((d.pages.length : Int) ≤ 70) = true := decide_eq_true (by omega)
  have y2 : decide ((d.unr.length : Int) ≤ 70) = true := decide_eq_true (by omega)
  have y3 : decide ((d.faults.length : Int) ≤ 70) = true := decide_eq_true (by omega)
  clear k1 k2 k3
  go_enter Try.func10, Try.ntmps10
  go_wp2_with (refine wp_boxW (dvals (.slice sp d.pages.length cp) d.writes (.slice su d.unr.length cu) d.dead (.slice sf d.faults.length cf)) _ rfl rfl rfl ?_; intro w0 hP hb0 hz0; have HB0 := Lib.hid hb0; obtain ⟨a0, a1, a2, a3, a4⟩ := hP.all5; clear hP hb0)
  go_ret
  exact ⟨by rw [E.out]; rfl, HB0.out⟩
end Go.Proofs.Ytikpchhhenonaaa.no
