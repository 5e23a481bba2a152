/- The reference's usable, Read, Inject, blanks, New. -/
import Derived.Test.YtikpchhhenonaaaNb
import Derived.Test.YtikpchhhenonaaaNd
namespace Go.Proofs.Ytikpchhhenonaaa.ne
open Go.ChangeShapes Go.WideShapes Go.ChangeAt Go.RowKit Go.Proofs.Ytikpchhhenonaaa.cx Go.Proofs.Ytikpchhhenonaaa.ra Go.Proofs.Ytikpchhhenonaaa.la Go.Proofs.Ytikpchhhenonaaa.lb Go.Proofs.Ytikpchhhenonaaa.lc Go.Proofs.Ytikpchhhenonaaa.ld Go.Proofs.Ytikpchhhenonaaa.le Go.Proofs.Ytikpchhhenonaaa.lf Go.Proofs.Ytikpchhhenonaaa.lg Go.Proofs.Ytikpchhhenonaaa.lh Go.Proofs.Ytikpchhhenonaaa.li Go.Proofs.Ytikpchhhenonaaa.lj Go.Proofs.Ytikpchhhenonaaa.lk Go.Proofs.Ytikpchhhenonaaa.ll Go.Proofs.Ytikpchhhenonaaa.lm Go.Proofs.Ytikpchhhenonaaa.ln Go.Proofs.Ytikpchhhenonaaa.lo Go.Proofs.Ytikpchhhenonaaa.lp Go.Proofs.Ytikpchhhenonaaa.lq Go.Proofs.Ytikpchhhenonaaa.lr Go.Proofs.Ytikpchhhenonaaa.ls Go.Proofs.Ytikpchhhenonaaa.lt Go.Proofs.Ytikpchhhenonaaa.lu Go.Proofs.Ytikpchhhenonaaa.lv Go.Proofs.Ytikpchhhenonaaa.lw Go.Proofs.Ytikpchhhenonaaa.lx Go.Proofs.Ytikpchhhenonaaa.ly Go.Proofs.Ytikpchhhenonaaa.na Go.Proofs.Ytikpchhhenonaaa.nb Go.Proofs.Ytikpchhhenonaaa.nc Go.Proofs.Ytikpchhhenonaaa.nd
set_option linter.unusedSimpArgs false
theorem refValid_b (vs : List Value) (d : Dev) (b : Bool) (hb : validD d = b) (w : World) (h : DevV vs d w) (hf : FitsD d) :
    Calls Try.prog 23 #[.agg vs.toArray] w fun e w' => e = .returned (.bool b) ∧ Below w.heap.size w w' := hb ▸ refValid_any vs d w h hf
set_option maxHeartbeats 2000000 in
set_option maxRecDepth 4000 in
theorem refUsable_any (vs : List Value) (d : Dev) (page : Int) (w : World) (h : DevV vs d w) (hf : FitsD d) :
    Calls Try.prog 45 #[.agg vs.toArray, .int .i64 page] w fun e w' => e = .returned (.int .i64 (accessE d page)) ∧ Below w.heap.size w w' := by
  obtain ⟨sp, cp, su, cu, sf, cf, rfl, P, U, F⟩ := h.form
  have DV := Lib.hid h
  have HF := Lib.hid hf
  have hlen := Sl.len_le P.out
  clear h P U F hf
  cases c1 : validD d
  · have E : Hid (accessE d page = 15) := Lib.hid (by unfold accessE; rw [c1]; rfl)
    have C1 := Lib.hid c1
    clear c1
    go_enter Try.func45, Try.ntmps45
    go_wp2_with (first
      | (refine wp_boxW (dvals (.slice sp d.pages.length cp) d.writes (.slice su d.unr.length cu) d.dead (.slice sf d.faults.length cf)) _ rfl rfl rfl ?_; intro w0 hP hb0 _; have HB0 := Lib.hid hb0; have HD0 := Lib.hid hP; have HV0 := Lib.hid (DV.out.keep hb0); clear hP hb0)
      | (refine wp_loadDev _ _ _ _ _ HD0.out rfl rfl rfl ?_)
      | (go_at_call 23; (with_reducible refine (refValid_b _ d false C1.out _ HV0.out HF.out).mono ?_); rintro e w1 ⟨rfl, hb1⟩; have HB1 := Lib.hid (HB0.out.trans (hb1.mono HB0.out.size)); have HD1 := Lib.hid (HD0.out.keep hb1); obtain ⟨a0, a1, a2, a3, a4⟩ := HD1.out.all5; clear hb1 HB0 HD0 HV0))
    go_ret
    exact ⟨by rw [E.out]; rfl, HB1.out⟩
  by_cases c2 : d.dead = true
  · have E : Hid (accessE d page = 10) := Lib.hid (by unfold accessE; rw [c1, c2]; rfl)
    have C1 := Lib.hid c1
    have C2 := Lib.hid c2
    clear c1 c2
    go_enter Try.func45, Try.ntmps45
    go_wp2_with (first
      | (refine wp_boxW (dvals (.slice sp d.pages.length cp) d.writes (.slice su d.unr.length cu) d.dead (.slice sf d.faults.length cf)) _ rfl rfl rfl ?_; intro w0 hP hb0 _; have HB0 := Lib.hid hb0; have HD0 := Lib.hid hP; have HV0 := Lib.hid (DV.out.keep hb0); clear hP hb0)
      | (refine wp_loadDev _ _ _ _ _ HD0.out rfl rfl rfl ?_)
      | (go_at_call 23; (with_reducible refine (refValid_b _ d true C1.out _ HV0.out HF.out).mono ?_); rintro e w1 ⟨rfl, hb1⟩; have HB1 := Lib.hid (HB0.out.trans (hb1.mono HB0.out.size)); have HD1 := Lib.hid (HD0.out.keep hb1); obtain ⟨a0, a1, a2, a3, a4⟩ := HD1.out.all5; rw [C2.out] at a3; clear hb1 HB0 HD0 HV0))
    go_ret
    exact ⟨by rw [E.out]; rfl, HB1.out⟩
  have c2f : d.dead = false := by simpa using c2
  clear c2
  have C1 := Lib.hid c1
  have C2 := Lib.hid c2f
  by_cases c3 : page < 0
  · have E : Hid (accessE d page = 1) := Lib.hid (by unfold accessE; rw [c1, c2f, show inR page d.pages.length = false from decide_eq_false (by omega)]; rfl)
    have z0 : decide (page < 0) = true := decide_eq_true c3
    clear c1 c2f c3
    go_enter Try.func45, Try.ntmps45
    go_wp2_with (first
      | (refine wp_boxW (dvals (.slice sp d.pages.length cp) d.writes (.slice su d.unr.length cu) d.dead (.slice sf d.faults.length cf)) _ rfl rfl rfl ?_; intro w0 hP hb0 _; have HB0 := Lib.hid hb0; have HD0 := Lib.hid hP; have HV0 := Lib.hid (DV.out.keep hb0); clear hP hb0)
      | (refine wp_loadDev _ _ _ _ _ HD0.out rfl rfl rfl ?_)
      | (go_at_call 23; (with_reducible refine (refValid_b _ d true C1.out _ HV0.out HF.out).mono ?_); rintro e w1 ⟨rfl, hb1⟩; have HB1 := Lib.hid (HB0.out.trans (hb1.mono HB0.out.size)); have HD1 := Lib.hid (HD0.out.keep hb1); obtain ⟨a0, a1, a2, a3, a4⟩ := HD1.out.all5; rw [C2.out] at a3; clear hb1 HB0 HD0 HV0))
    go_ret
    exact ⟨by rw [E.out]; rfl, HB1.out⟩
  have z0 : decide (page < 0) = false := decide_eq_false c3
  by_cases c4 : (d.pages.length : Int) ≤ page
  · have E : Hid (accessE d page = 1) := Lib.hid (by unfold accessE; rw [c1, c2f, show inR page d.pages.length = false from decide_eq_false (by omega)]; rfl)
    have z1 : decide ((d.pages.length : Int) ≤ page) = true := decide_eq_true c4
    clear c1 c2f c3 c4
    go_enter Try.func45, Try.ntmps45
    go_wp2_with (first
      | (refine wp_boxW (dvals (.slice sp d.pages.length cp) d.writes (.slice su d.unr.length cu) d.dead (.slice sf d.faults.length cf)) _ rfl rfl rfl ?_; intro w0 hP hb0 _; have HB0 := Lib.hid hb0; have HD0 := Lib.hid hP; have HV0 := Lib.hid (DV.out.keep hb0); clear hP hb0)
      | (refine wp_loadDev _ _ _ _ _ HD0.out rfl rfl rfl ?_)
      | (go_at_call 23; (with_reducible refine (refValid_b _ d true C1.out _ HV0.out HF.out).mono ?_); rintro e w1 ⟨rfl, hb1⟩; have HB1 := Lib.hid (HB0.out.trans (hb1.mono HB0.out.size)); have HD1 := Lib.hid (HD0.out.keep hb1); obtain ⟨a0, a1, a2, a3, a4⟩ := HD1.out.all5; rw [C2.out] at a3; clear hb1 HB0 HD0 HV0))
    go_ret
    exact ⟨by rw [E.out]; rfl, HB1.out⟩
  have E : Hid (accessE d page = 0) := Lib.hid (by unfold accessE; rw [c1, c2f, show inR page d.pages.length = true from decide_eq_true (by omega)]; rfl)
  have z1 : decide ((d.pages.length : Int) ≤ page) = false := decide_eq_false c4
  clear c1 c2f c3 c4
  go_enter Try.func45, Try.ntmps45
  go_wp2_with (first
    | (refine wp_boxW (dvals (.slice sp d.pages.length cp) d.writes (.slice su d.unr.length cu) d.dead (.slice sf d.faults.length cf)) _ rfl rfl rfl ?_; intro w0 hP hb0 _; have HB0 := Lib.hid hb0; have HD0 := Lib.hid hP; have HV0 := Lib.hid (DV.out.keep hb0); clear hP hb0)
    | (refine wp_loadDev _ _ _ _ _ HD0.out rfl rfl rfl ?_)
    | (go_at_call 23; (with_reducible refine (refValid_b _ d true C1.out _ HV0.out HF.out).mono ?_); rintro e w1 ⟨rfl, hb1⟩; have HB1 := Lib.hid (HB0.out.trans (hb1.mono HB0.out.size)); have HD1 := Lib.hid (HD0.out.keep hb1); obtain ⟨a0, a1, a2, a3, a4⟩ := HD1.out.all5; rw [C2.out] at a3; clear hb1 HB0 HD0 HV0))
  go_ret
  exact ⟨by rw [E.out]; rfl, HB1.out⟩
theorem refUsable_b (vs : List Value) (d : Dev) (page : Int) (n : Int) (hn : accessE d page = n) (w : World) (h : DevV vs d w) (hf : FitsD d) :
    Calls Try.prog 45 #[.agg vs.toArray, .int .i64 page] w fun e w' => e = .returned (.int .i64 n) ∧ Below w.heap.size w w' := hn ▸ refUsable_any vs d page w h hf
set_option maxHeartbeats 2000000 in
set_option maxRecDepth 4000 in
theorem refRead_any (vs : List Value) (d : Dev) (page : Int) (w : World) (h : DevV vs d w) (hf : FitsD d) :
    Calls Try.prog 32 #[.agg vs.toArray, .int .i64 page] w fun e w' => e = .returned (.tuple #[.string (readS d page), .int .i64 (readE d page)]) ∧ Below w.heap.size w w' := by
  obtain ⟨sp, cp, su, cu, sf, cf, rfl, P, U, F⟩ := h.form
  have DV := Lib.hid h
  have HF := Lib.hid hf
  clear h F hf
  by_cases c1 : accessE d page = 0
  rotate_left
  · have E : Hid (readE d page = accessE d page) := Lib.hid (by unfold readE; rw [if_neg c1])
    have E2 : Hid (readS d page = ByteArray.empty) := Lib.hid (by unfold readS; rw [E.out, if_neg c1])
    have hz : (accessE d page == 0) = false := by simpa using c1
    obtain ⟨n, hn⟩ : ∃ n, accessE d page = n := ⟨_, rfl⟩
    rw [hn] at E hz
    have C1 := Lib.hid hn
    clear c1 hn
    go_enter Try.func32, Try.ntmps32
    go_wp2_with (first
      | (refine wp_boxW (dvals (.slice sp d.pages.length cp) d.writes (.slice su d.unr.length cu) d.dead (.slice sf d.faults.length cf)) _ rfl rfl rfl ?_; intro w0 hP hb0 _; have HB0 := Lib.hid hb0; have HD0 := Lib.hid hP; have HV0 := Lib.hid (DV.out.keep hb0); clear hP hb0)
      | (refine wp_loadDev _ _ _ _ _ HD0.out rfl rfl rfl ?_)
      | (go_at_call 45; (with_reducible refine (refUsable_b _ d _ n C1.out _ HV0.out HF.out).mono ?_); rintro e w1 ⟨rfl, hb1⟩; have HB1 := Lib.hid (HB0.out.trans (hb1.mono HB0.out.size)); have HD1 := Lib.hid (HD0.out.keep hb1); obtain ⟨a0, a1, a2, a3, a4⟩ := HD1.out.all5; have U1 := Lib.hid (U.out.keep HB1.out); clear hb1 HB0 HD0 HV0))
    go_ret2
    exact ⟨by rw [E.out, E2.out]; rfl, HB1.out⟩
  obtain ⟨hv1, hv2, hp0, hp1⟩ := access_in c1
  clear hv1 hv2
  cases c2 : d.unr.contains page
  rotate_left
  · have E : Hid (readE d page = 11) := Lib.hid (by unfold readE; rw [if_pos c1, if_pos c2])
    have E2 : Hid (readS d page = ByteArray.empty) := Lib.hid (by unfold readS; rw [E.out]; rfl)
    have C1 := Lib.hid c1
    have C2 := Lib.hid c2
    clear c1 c2
    go_enter Try.func32, Try.ntmps32
    go_wp2_with (first
      | (refine wp_boxW (dvals (.slice sp d.pages.length cp) d.writes (.slice su d.unr.length cu) d.dead (.slice sf d.faults.length cf)) _ rfl rfl rfl ?_; intro w0 hP hb0 _; have HB0 := Lib.hid hb0; have HD0 := Lib.hid hP; have HV0 := Lib.hid (DV.out.keep hb0); clear hP hb0)
      | (refine wp_loadDev _ _ _ _ _ HD0.out rfl rfl rfl ?_)
      | (go_at_call 45; (with_reducible refine (refUsable_b _ d _ 0 C1.out _ HV0.out HF.out).mono ?_); rintro e w1 ⟨rfl, hb1⟩; have HB1 := Lib.hid (HB0.out.trans (hb1.mono HB0.out.size)); have HD1 := Lib.hid (HD0.out.keep hb1); obtain ⟨a0, a1, a2, a3, a4⟩ := HD1.out.all5; have U1 := Lib.hid (U.out.keep HB1.out); clear hb1 HB0 HD0 HV0)
      | (go_at_call 59; (with_reducible refine (refHas_any _ d.unr _ true C2.out _ U1.out).mono ?_); rintro e w2 ⟨rfl, rfl⟩))
    go_ret2
    exact ⟨by rw [E.out, E2.out]; rfl, HB1.out⟩
  have E : Hid (readE d page = 0) := Lib.hid (by unfold readE; rw [if_pos c1, c2]; rfl)
  obtain ⟨k, rfl⟩ : ∃ k : Nat, page = (k : Int) := ⟨page.toNat, by omega⟩
  have hk : k < d.pages.length := by omega
  obtain ⟨x, hx⟩ : ∃ x, d.pages[k]? = some x := ⟨_, List.getElem?_eq_getElem hk⟩
  have E2 : Hid (readS d (k : Int) = x) := Lib.hid (by unfold readS; rw [E.out, if_pos rfl]; simp [List.getD, hx])
  obtain ⟨b, off, hso, hb, HC⟩ : ∃ b off, sp = some ⟨b, off, none⟩ ∧ b < w.heap.size ∧ w.cell? ⟨b, off + k, none⟩ = some (.string x) := by
    rcases P.out.2.2 with ⟨_, h0⟩ | ⟨b, off, cap', e, _, hb, hcc⟩
    · omega
    · simp only [Value.slice.injEq, true_and] at e
      exact ⟨b, off, e.1, hb, hcc _ _ (strL_at hx)⟩
  have HSO := Lib.hid hso
  have HCC := Lib.hid HC
  clear hso HC
  have C1 := Lib.hid c1
  have C2 := Lib.hid c2
  clear c1 c2 hx
  go_enter Try.func32, Try.ntmps32
  go_wp2_with (first
      | (refine wp_boxW (dvals (.slice sp d.pages.length cp) d.writes (.slice su d.unr.length cu) d.dead (.slice sf d.faults.length cf)) _ rfl rfl rfl ?_; intro w0 hP hb0 _; have HB0 := Lib.hid hb0; have HD0 := Lib.hid hP; have HV0 := Lib.hid (DV.out.keep hb0); clear hP hb0)
      | (refine wp_loadDev _ _ _ _ _ HD0.out rfl rfl rfl ?_)
      | (go_at_call 45; (with_reducible refine (refUsable_b _ d _ 0 C1.out _ HV0.out HF.out).mono ?_); rintro e w1 ⟨rfl, hb1⟩; have HB1 := Lib.hid (HB0.out.trans (hb1.mono HB0.out.size)); have HD1 := Lib.hid (HD0.out.keep hb1); obtain ⟨a0, a1, a2, a3, a4⟩ := HD1.out.all5; have U1 := Lib.hid (U.out.keep HB1.out); have lc := (HB1.out.cell (p := ⟨b, off + k, none⟩) hb).trans HCC.out; rw [HSO.out] at a0; clear hb1 HB0 HD0 HV0)
      | (go_at_call 59; (with_reducible refine (refHas_any _ d.unr _ false C2.out _ U1.out).mono ?_); rintro e w2 ⟨rfl, rfl⟩))
  go_ret2
  exact ⟨by rw [E.out, E2.out]; rfl, HB1.out⟩
set_option maxHeartbeats 4000000 in
set_option maxRecDepth 4000 in
theorem refInject_any (vs : List Value) (d : Dev) (f : Flt) (w : World) (h : DevV vs d w) (hf : FitsD d) :
    Calls Try.prog 26 #[.agg vs.toArray, .agg f.arr] w fun e w' => ∃ vs', e = .returned (.tuple #[.agg vs'.toArray, .int .i64 (injectE d f)]) ∧ DevV vs' (injectD d f) w' ∧ (∀ b, b ≤ w.heap.size → Lo b vs') ∧ Below w.heap.size w w' := by
  obtain ⟨sp, cp, su, cu, sf, cf, rfl, P, U, F⟩ := h.form
  have DV := Lib.hid h
  have HF := Lib.hid hf
  have FL := Lib.hid (Sl.len_le F.out)
  clear h P U F hf
  have bd := build_dev0
  cases c1 : validD d
  · have E : Hid (injectE d f = 15) := Lib.hid (by unfold injectE; rw [c1]; rfl)
    have C1 := Lib.hid c1
    clear c1
    go_enter Try.func26, Try.ntmps26
    go_wp2_with (first
      | (refine wp_boxW (dvals (.slice sp d.pages.length cp) d.writes (.slice su d.unr.length cu) d.dead (.slice sf d.faults.length cf)) _ rfl rfl rfl ?_; intro w0 hP hb0 hz0; have HB0 := Lib.hid hb0; have HD0 := Lib.hid hP; clear hP hb0)
      | (refine wp_boxW f.vals _ rfl rfl rfl ?_; intro w1 hP hb1 hz1; have HB1 := Lib.hid (HB0.out.trans (hb1.mono HB0.out.size)); have HD1 := Lib.hid (HD0.out.keep hb1); have HF1 := Lib.hid hP; clear hP hb1 HB0 HD0)
      | (refine wp_newW dev0 _ zero_dev rfl rfl ?_; intro w2 hP hb2 hz2; have HB2 := Lib.hid (HB1.out.trans (hb2.mono HB1.out.size)); have HD2 := Lib.hid (HD1.out.keep hb2); have HF2 := Lib.hid (HF1.out.keep hb2); have HR2 := Lib.hid hP; have HV2 := Lib.hid (DV.out.keep HB2.out); clear hP hb2 HD1 HF1 HB1)
      | (refine wp_loadDev _ _ _ _ _ HD2.out rfl rfl rfl ?_)
      | (refine wp_loadDev _ _ _ _ _ HD3.out rfl rfl rfl ?_)
      | (refine wp_loadDev _ _ _ _ _ HD4.out rfl rfl rfl ?_)
      | (refine wp_loadFlt f HF3.out rfl rfl rfl ?_)
      | (refine wp_loadFlt f HF5.out rfl rfl rfl ?_)
      | (go_at_call 23; (with_reducible refine (refValid_b _ d false C1.out _ HV2.out HF.out).mono ?_); rintro e w3 ⟨rfl, hb3⟩; have hz3 := hb3.size; have HB3 := Lib.hid (HB2.out.trans (hb3.mono HB2.out.size)); have HD3 := Lib.hid (HD2.out.keep hb3); have HF3 := Lib.hid (HF2.out.keep hb3); have HR3 := Lib.hid (HR2.out.keep hb3); have HV3 := Lib.hid (HV2.out.keep hb3); clear hb3 HB2 HD2 HF2 HR2 HV2)
      | (refine wp_storeDevW nil3 0 nil3 false nil3 (one_slice ..) (one_slice ..) (one_slice ..) HR3.out rfl rfl rfl rfl rfl ?_; intro w9 hP hS; have HR9 := Lib.hid hP; have HB9 := Lib.hid (hS.below HB3.out (by omega)); clear hP hS))
    refine bodyPost_ret (res_devE rfl rfl HR9.out rfl) rfl ⟨_, by rw [E.out]; rfl, ?_, fun b _ => lo_zero b, HB9.out⟩
    unfold injectD
    rw [E.out]
    exact devV0 _
  cases c2 : okFault d f
  · have E : Hid (injectE d f = 1) := Lib.hid (by unfold injectE; rw [c1, c2]; rfl)
    have C1 := Lib.hid c1
    have C2 := Lib.hid c2
    clear c1 c2
    go_enter Try.func26, Try.ntmps26
    go_wp2_with (first
      | (refine wp_boxW (dvals (.slice sp d.pages.length cp) d.writes (.slice su d.unr.length cu) d.dead (.slice sf d.faults.length cf)) _ rfl rfl rfl ?_; intro w0 hP hb0 hz0; have HB0 := Lib.hid hb0; have HD0 := Lib.hid hP; clear hP hb0)
      | (refine wp_boxW f.vals _ rfl rfl rfl ?_; intro w1 hP hb1 hz1; have HB1 := Lib.hid (HB0.out.trans (hb1.mono HB0.out.size)); have HD1 := Lib.hid (HD0.out.keep hb1); have HF1 := Lib.hid hP; clear hP hb1 HB0 HD0)
      | (refine wp_newW dev0 _ zero_dev rfl rfl ?_; intro w2 hP hb2 hz2; have HB2 := Lib.hid (HB1.out.trans (hb2.mono HB1.out.size)); have HD2 := Lib.hid (HD1.out.keep hb2); have HF2 := Lib.hid (HF1.out.keep hb2); have HR2 := Lib.hid hP; have HV2 := Lib.hid (DV.out.keep HB2.out); clear hP hb2 HD1 HF1 HB1)
      | (refine wp_loadDev _ _ _ _ _ HD2.out rfl rfl rfl ?_)
      | (refine wp_loadDev _ _ _ _ _ HD3.out rfl rfl rfl ?_)
      | (refine wp_loadDev _ _ _ _ _ HD4.out rfl rfl rfl ?_)
      | (refine wp_loadFlt f HF3.out rfl rfl rfl ?_)
      | (refine wp_loadFlt f HF5.out rfl rfl rfl ?_)
      | (go_at_call 23; (with_reducible refine (refValid_b _ d true C1.out _ HV2.out HF.out).mono ?_); rintro e w3 ⟨rfl, hb3⟩; have hz3 := hb3.size; have HB3 := Lib.hid (HB2.out.trans (hb3.mono HB2.out.size)); have HD3 := Lib.hid (HD2.out.keep hb3); have HF3 := Lib.hid (HF2.out.keep hb3); have HR3 := Lib.hid (HR2.out.keep hb3); have HV3 := Lib.hid (HV2.out.keep hb3); clear hb3 HB2 HD2 HF2 HR2 HV2)
      | (go_at_call 52; (with_reducible refine (refFault_b _ d f false C2.out _ HV3.out).mono ?_); rintro e w4 ⟨rfl, hb4⟩; have hz4 := hb4.size; have HB4 := Lib.hid (HB3.out.trans (hb4.mono HB3.out.size)); have HD4 := Lib.hid (HD3.out.keep hb4); have HF4 := Lib.hid (HF3.out.keep hb4); have HR4 := Lib.hid (HR3.out.keep hb4); have HV4 := Lib.hid (HV3.out.keep hb4); obtain ⟨a0, a1, a2, a3, a4⟩ := HD4.out.all5; clear hb4 HB3 HD3 HF3 HR3 HV3)
      | (refine wp_storeDevW nil3 0 nil3 false nil3 (one_slice ..) (one_slice ..) (one_slice ..) HR4.out rfl rfl rfl rfl rfl ?_; intro w9 hP hS; have HR9 := Lib.hid hP; have HB9 := Lib.hid (hS.below HB4.out (by omega)); clear hP hS))
    refine bodyPost_ret (res_devE rfl rfl HR9.out rfl) rfl ⟨_, by rw [E.out]; rfl, ?_, fun b _ => lo_zero b, HB9.out⟩
    unfold injectD
    rw [E.out]
    exact devV0 _
  have IV := Lib.hid (valid_is c1)
  by_cases c3 : d.faults.length = 64
  · have E : Hid (injectE d f = 21) := Lib.hid (by unfold injectE; rw [c1, c2, if_pos rfl, if_pos rfl, if_pos c3])
    have hy : ((d.faults.length : Int) == 64) = true := by simp; omega
    have C1 := Lib.hid c1
    have C2 := Lib.hid c2
    clear c1 c2 c3
    go_enter Try.func26, Try.ntmps26
    go_wp2_with (first
      | (refine wp_boxW (dvals (.slice sp d.pages.length cp) d.writes (.slice su d.unr.length cu) d.dead (.slice sf d.faults.length cf)) _ rfl rfl rfl ?_; intro w0 hP hb0 hz0; have HB0 := Lib.hid hb0; have HD0 := Lib.hid hP; clear hP hb0)
      | (refine wp_boxW f.vals _ rfl rfl rfl ?_; intro w1 hP hb1 hz1; have HB1 := Lib.hid (HB0.out.trans (hb1.mono HB0.out.size)); have HD1 := Lib.hid (HD0.out.keep hb1); have HF1 := Lib.hid hP; clear hP hb1 HB0 HD0)
      | (refine wp_newW dev0 _ zero_dev rfl rfl ?_; intro w2 hP hb2 hz2; have HB2 := Lib.hid (HB1.out.trans (hb2.mono HB1.out.size)); have HD2 := Lib.hid (HD1.out.keep hb2); have HF2 := Lib.hid (HF1.out.keep hb2); have HR2 := Lib.hid hP; have HV2 := Lib.hid (DV.out.keep HB2.out); clear hP hb2 HD1 HF1 HB1)
      | (refine wp_loadDev _ _ _ _ _ HD2.out rfl rfl rfl ?_)
      | (refine wp_loadDev _ _ _ _ _ HD3.out rfl rfl rfl ?_)
      | (refine wp_loadDev _ _ _ _ _ HD4.out rfl rfl rfl ?_)
      | (refine wp_loadFlt f HF3.out rfl rfl rfl ?_)
      | (refine wp_loadFlt f HF5.out rfl rfl rfl ?_)
      | (go_at_call 23; (with_reducible refine (refValid_b _ d true C1.out _ HV2.out HF.out).mono ?_); rintro e w3 ⟨rfl, hb3⟩; have hz3 := hb3.size; have HB3 := Lib.hid (HB2.out.trans (hb3.mono HB2.out.size)); have HD3 := Lib.hid (HD2.out.keep hb3); have HF3 := Lib.hid (HF2.out.keep hb3); have HR3 := Lib.hid (HR2.out.keep hb3); have HV3 := Lib.hid (HV2.out.keep hb3); clear hb3 HB2 HD2 HF2 HR2 HV2)
      | (go_at_call 52; (with_reducible refine (refFault_b _ d f true C2.out _ HV3.out).mono ?_); rintro e w4 ⟨rfl, hb4⟩; have hz4 := hb4.size; have HB4 := Lib.hid (HB3.out.trans (hb4.mono HB3.out.size)); have HD4 := Lib.hid (HD3.out.keep hb4); have HF4 := Lib.hid (HF3.out.keep hb4); have HR4 := Lib.hid (HR3.out.keep hb4); have HV4 := Lib.hid (HV3.out.keep hb4); obtain ⟨a0, a1, a2, a3, a4⟩ := HD4.out.all5; clear hb4 HB3 HD3 HF3 HR3 HV3)
      | (refine wp_storeDevW nil3 0 nil3 false nil3 (one_slice ..) (one_slice ..) (one_slice ..) HR4.out rfl rfl rfl rfl rfl ?_; intro w9 hP hS; have HR9 := Lib.hid hP; have HB9 := Lib.hid (hS.below HB4.out (by omega)); clear hP hS))
    refine bodyPost_ret (res_devE rfl rfl HR9.out rfl) rfl ⟨_, by rw [E.out]; rfl, ?_, fun b _ => lo_zero b, HB9.out⟩
    unfold injectD
    rw [E.out]
    exact devV0 _
  have E : Hid (injectE d f = 0) := Lib.hid (by unfold injectE; rw [c1, c2, if_pos rfl, if_pos rfl, if_neg c3])
  have hy : ((d.faults.length : Int) == 64) = false := by simp; omega
  have L1 := Lib.hid (show d.pages.length ≤ 1000 by have := IV.out.pages.1.2; omega)
  have L2 := Lib.hid (show d.unr.length ≤ 1000 by have := IV.out.unrLen; omega)
  have L3 := Lib.hid (show d.faults.length ≤ 1000 by have := IV.out.faults.1; omega)
  have C1 := Lib.hid c1
  have C2 := Lib.hid c2
  clear c1 c2 c3
  go_enter Try.func26, Try.ntmps26
  go_wp2_with (first
      | (refine wp_boxW (dvals (.slice sp d.pages.length cp) d.writes (.slice su d.unr.length cu) d.dead (.slice sf d.faults.length cf)) _ rfl rfl rfl ?_; intro w0 hP hb0 hz0; have HB0 := Lib.hid hb0; have HD0 := Lib.hid hP; clear hP hb0)
      | (refine wp_boxW f.vals _ rfl rfl rfl ?_; intro w1 hP hb1 hz1; have HB1 := Lib.hid (HB0.out.trans (hb1.mono HB0.out.size)); have HD1 := Lib.hid (HD0.out.keep hb1); have HF1 := Lib.hid hP; clear hP hb1 HB0 HD0)
      | (refine wp_newW dev0 _ zero_dev rfl rfl ?_; intro w2 hP hb2 hz2; have HB2 := Lib.hid (HB1.out.trans (hb2.mono HB1.out.size)); have HD2 := Lib.hid (HD1.out.keep hb2); have HF2 := Lib.hid (HF1.out.keep hb2); have HR2 := Lib.hid hP; have HV2 := Lib.hid (DV.out.keep HB2.out); clear hP hb2 HD1 HF1 HB1)
      | (refine wp_loadDev _ _ _ _ _ HD2.out rfl rfl rfl ?_)
      | (refine wp_loadDev _ _ _ _ _ HD3.out rfl rfl rfl ?_)
      | (refine wp_loadDev _ _ _ _ _ HD4.out rfl rfl rfl ?_)
      | (refine wp_loadFlt f HF3.out rfl rfl rfl ?_)
      | (refine wp_loadFlt f HF5.out rfl rfl rfl ?_)
      | (go_at_call 23; (with_reducible refine (refValid_b _ d true C1.out _ HV2.out HF.out).mono ?_); rintro e w3 ⟨rfl, hb3⟩; have hz3 := hb3.size; have HB3 := Lib.hid (HB2.out.trans (hb3.mono HB2.out.size)); have HD3 := Lib.hid (HD2.out.keep hb3); have HF3 := Lib.hid (HF2.out.keep hb3); have HR3 := Lib.hid (HR2.out.keep hb3); have HV3 := Lib.hid (HV2.out.keep hb3); clear hb3 HB2 HD2 HF2 HR2 HV2)
      | (go_at_call 52; (with_reducible refine (refFault_b _ d f true C2.out _ HV3.out).mono ?_); rintro e w4 ⟨rfl, hb4⟩; have hz4 := hb4.size; have HB4 := Lib.hid (HB3.out.trans (hb4.mono HB3.out.size)); have HD4 := Lib.hid (HD3.out.keep hb4); have HF4 := Lib.hid (HF3.out.keep hb4); have HR4 := Lib.hid (HR3.out.keep hb4); have HV4 := Lib.hid (HV3.out.keep hb4); obtain ⟨a0, a1, a2, a3, a4⟩ := HD4.out.all5; clear hb4 HB3 HD3 HF3 HR3 HV3)
      | (go_at_call 37; refine (refCopy_any _ d _ HV4.out L1.out L2.out L3.out).mono ?_; rintro e w5 ⟨vp, vu, vf, rfl, o1, o2, o3, p1, p2, p3, hb5⟩; have hz5 := hb5.size; clear a0 a1 a2 a3 a4; have HB5 := Lib.hid (HB4.out.trans (hb5.mono HB4.out.size)); have HF5' := Lib.hid (HF4.out.keep hb5); have HR5 := Lib.hid (HR4.out.keep hb5); have O1 := Lib.hid o1; have O2 := Lib.hid o2; have O3 := Lib.hid o3; have A1 := Lib.hid p1; have A2 := Lib.hid p2; have A3 := Lib.hid p3; clear hb5 o1 o2 o3 p1 p2 p3 HB4 HD4 HF4 HR4 HV4)
      | (refine wp_newW dev0 _ zero_dev rfl rfl ?_; intro w6 hP hb6 hz6; have N6 := Lib.hid hP; have P1 := Lib.hid (own_keep O1.out hb6); have P2 := Lib.hid (own_keep O2.out hb6); have P3 := Lib.hid (own_keep O3.out hb6); have Q1 := Lib.hid (fun g e => O1.out.lt g e); have Q2 := Lib.hid (fun g e => O2.out.lt g e); have Q3 := Lib.hid (fun g e => O3.out.lt g e); have HB6 := Lib.hid (HB5.out.trans (hb6.mono HB5.out.size)); have HF6 := Lib.hid (HF5'.out.keep hb6); have HR6 := Lib.hid (HR5.out.keep hb6); clear hP hb6 O1 O2 O3 HB5 HF5' HR5)
      | (refine wp_storeDevW vp d.writes vu d.dead vf (one_own P1.out) (one_own P2.out) (one_own P3.out) N6.out rfl rfl rfl rfl rfl ?_; intro w7 hP hS; have hz7 := Nat.le_of_eq hS.size.symm; have D7 := Lib.hid hP; have R1 := Lib.hid (own_storedNe P1.out hS (fun g e => by have := (Q1.out g e).2; omega)); have R2 := Lib.hid (own_storedNe P2.out hS (fun g e => by have := (Q2.out g e).2; omega)); have R3 := Lib.hid (own_storedNe P3.out hS (fun g e => by have := (Q3.out g e).2; omega)); have HR7 := Lib.hid (hS.row HR6.out (by omega)); have HF5 := Lib.hid (hS.row HF6.out (by omega)); have HB7 := Lib.hid (hS.below HB6.out (by omega)); obtain ⟨a0, a1, a2, a3, a4⟩ := D7.out.all5; clear hP hS P1 P2 P3 N6 HR6 HB6 HF6)
      | (refine wp_buildF1W f rfl rfl rfl ?_; intro w8 hP hb8 hz8; have T8 := Lib.hid hP; have D8 := Lib.hid (D7.out.keep hb8); have S1 := Lib.hid (own_keep R1.out hb8); have S2 := Lib.hid (own_keep R2.out hb8); have S3 := Lib.hid (own_keep R3.out hb8); have HR8 := Lib.hid (HR7.out.keep hb8); have HB8 := Lib.hid (HB7.out.trans (hb8.mono HB7.out.size)); clear hP hb8 a0 a1 a2 a3 a4 D7 R1 R2 R3 HR7 HB7)
      | (refine wp_appendF w4.heap.size vf d.faults f _ rfl rfl rfl rfl S3.out T8.out L3.out (by omega) ?_; intro v2 w9 hO hg hb; have hz9 := hg.size; have O9 := Lib.hid hO; have D9 := Lib.hid (RowAt.grown D8.out hg (fun e => by have := (Q3.out _ e).2; omega)); have U1 := Lib.hid (own_grown S1.out hg (fun g e e2 => A2.out g e e2)); have U2 := Lib.hid (own_grown S2.out hg (fun g e e2 => A3.out g e e2)); have HR9' := Lib.hid (RowAt.grown HR8.out hg (fun e => by have := (Q3.out _ e).1; omega)); have HB9' := Lib.hid (below_step HB8.out hg (fun g e => by have := (Q3.out g e).1; omega)); have V2 := Lib.hid hb; clear hO hg hb D8 S1 S2 S3 HR8 HB8 T8)
      | (refine wp_storeFieldW 25 v2 (cells_own O9.out) (one_own O9.out) info_flts1 D9.out (show 4 < 5 by decide) rfl rfl rfl rfl ?_; intro wa hP hS; have hza := Nat.le_of_eq hS.size.symm; have DA : Hid (RowAt w5.heap.size (dvals vp d.writes vu d.dead v2) wa) := Lib.hid hP; have OA := Lib.hid (own_storedNe O9.out hS (fun g e => by have h1 := V2.out g e; have h2 := Q3.out g; intro e3; rcases h1 with h1 | h1; have := (h2 h1).2; omega; omega)); have UA1 := Lib.hid (own_storedNe U1.out hS (fun g e => by have := (Q1.out g e).2; omega)); have UA2 := Lib.hid (own_storedNe U2.out hS (fun g e => by have := (Q2.out g e).2; omega)); have HRA := Lib.hid (hS.row HR9'.out (by omega)); have HBA := Lib.hid (hS.below HB9'.out (by omega)); clear hP hS D9 O9 U1 U2 HR9' HB9')
      | (refine wp_loadDev _ _ _ _ _ DA.out rfl rfl rfl ?_)
      | (refine wp_storeDevW vp d.writes vu d.dead v2 (one_own UA1.out) (one_own UA2.out) (one_own OA.out) HRA.out rfl rfl rfl rfl rfl ?_; intro wb hP hS; have HR9 := Lib.hid hP; have VB : Hid (DevV (dvals vp d.writes vu d.dead v2) { d with faults := d.faults ++ [f] } wb) := Lib.hid ⟨vp, vu, v2, rfl, Sl.of_own (own_storedNe UA1.out hS (fun g e => by have := (Q1.out g e).1; omega)), Sl.of_own (own_storedNe UA2.out hS (fun g e => by have := (Q2.out g e).1; omega)), Sl.of_own (own_storedNe OA.out hS (fun g e => by have h1 := V2.out g e; have h2 := Q3.out g; intro e3; rcases h1 with h1 | h1; have := (h2 h1).1; omega; omega))⟩; have HB9 := Lib.hid (hS.below HBA.out (by omega)); clear hP hS))
  refine bodyPost_ret (res_devE rfl rfl HR9.out rfl) rfl ⟨_, by rw [E.out]; rfl, ?_, fun b hb => lo_dvals (fun g e => by have := (Q1.out g e).1; omega) (fun g e => by have := (Q2.out g e).1; omega) (fun g e => by have h1 := V2.out g e; have h2 := Q3.out g; rcases h1 with h1 | h1; have := (h2 h1).1; omega; omega), HB9.out⟩
  unfold injectD
  rw [E.out]
  exact VB.out
section
variable {ops : Array Oper} {rest : List Oper} {o : Oper} {a : Act} {w : World} {Q : Exit → Act → World → Prop} {s x : Operand}
theorem build_str1 (n : ByteArray) (W : World) : (Instr.buildSlice 23 1 #[(0, .string n)]).run Try.prog W = .ok (.slice (some ⟨W.heap.size, 0, none⟩) 1 1) (W.alloc (.cells #[.string n] 9)) := by kernel_rfl
theorem wp_buildS1W (n : ByteArray) (ho : o.op = .buildSlice 23 1 #[(0, x)]) (hx : a.eval x = .string n)
    (hgd : Region.wanted o (yielded ops a.tmps) = true) (h : ∀ W, RowAt w.heap.size [.string n] W → Below w.heap.size w W → w.heap.size < W.heap.size → wpList Try.prog ops Q rest (a.put o.dst (.slice (some ⟨w.heap.size, 0, none⟩) 1 1)) W) : wpList Try.prog ops Q (o :: rest) a w :=
  wpList_step fun _ hK => by
    rw [if_pos hgd]
    have hn := h _ (RowAt.new [.string n] w 9) ((Below.refl _ _).alloc (Nat.le_refl _) _) (by simp)
    have hb := build_str1 n w
    unfold Oper.wp execOp
    simp only [ho]
    simp only [List.map_toArray, List.map_cons, List.map_nil, hx, hb, Sem.run_bind, Result.andThen_ok, Sem.run_pure]
    exact hK _ _ hn
theorem wp_appendS (base : Nat) (v : Value) (l : List ByteArray) (n : ByteArray) (T : Nat)
    (ho : o.op = .call { callee := .builtin .append, args := #[s, x], argTypes := #[23, 23] }) (hs : a.eval s = v) (hx : a.eval x = .slice (some ⟨T, 0, none⟩) 1 1) (hgd : o.guard = none)
    (hown : w.ownsRow base 9 1 v l.length (strL l)) (hT : RowAt T [.string n] w) (hn : l.length ≤ 1000) (hbase : base ≤ w.heap.size)
    (h : ∀ v' w', w'.ownsRow base 9 1 v' (l ++ [n]).length (strL (l ++ [n])) → w.grownBy w' v.ownBlock → (∀ g, v'.ownBlock = some g → v.ownBlock = some g ∨ w.heap.size ≤ g) → wpList Try.prog ops Q rest (a.put o.dst v') w') : wpList Try.prog ops Q (o :: rest) a w := by
  obtain ⟨i, hi, h0, h1, h2⟩ := lc.info_str
  refine wpList_plain hgd fun _ hK => ?_
  refine wp_append_lies w s x 23 ho base 9 i (.string ByteArray.empty) 1 16 Try.underlying23 hi h0 h1 h2 rfl (by decide) v l.length (strL l) hs hown ⟨T, 0, none⟩ 1 1 [.string n] hx rfl
    (fun j u hu => by rw [Addr.add_lit, Nat.zero_add]; exact hT.cells j u hu) (fun u hu => by simp at hu; rw [hu]; rfl) (by decide) (by unfold maxLen; omega) (by omega) hbase w.heap.size rfl ?_
  intro g cap w' a1 a2 a3 _
  refine hK _ _ (h _ _ ?_ a2 fun g' e => ?_)
  · rw [List.length_append, show strL (l ++ [n]) = strL l ++ [.string n] by simp [strL]]
    exact a1
  · have e2 : g = g' := Option.some.inj e
    subst e2
    rcases a3 with a3 | a3
    · exact .inl a3
    · exact .inr (by omega)
end
theorem blanks_succ (n : Nat) : blanks (n + 1) = blanks n ++ [lg.blank] := by
  unfold blanks
  rw [List.replicate_succ']
set_option maxHeartbeats 2000000 in
set_option maxRecDepth 4000 in
theorem refBlanks_any (n : Nat) (w : World) (hn : n ≤ 1000) :
    Calls Try.prog 36 #[.int .i64 (n : Int)] w fun e w' => ∃ v, e = .returned v ∧ w'.ownsRow w.heap.size 9 1 v n (strL (blanks n)) ∧ Below w.heap.size w w' := by
  have HNN := Lib.hid hn
  clear hn
  go_enter Try.func36, Try.ntmps36
  go_wp2_with fail
  go_loopw [3, 4] (fun s3 s4 wr => ∃ j : Nat, j ≤ n ∧ s4 = .int .i64 j ∧ Hid (wr.ownsRow w.heap.size 9 1 s3 (blanks j).length (strL (blanks j))) ∧ Hid (Below w.heap.size w wr)) (fun _ s4 _ => n - (intOf s4).toNat)
  case atStart => exact ⟨0, by omega, rfl, Lib.hid (World.ownsRow_nil _ _ _ _), Lib.hid (Below.refl _ _)⟩
  case round =>
    obtain ⟨j, hj, rfl, OW, B⟩ := hrel
    by_cases hj2 : j < n
    · have q0 : (0 : Int) ≤ (j : Int) := by omega
      have q1 : (j : Int) < (n : Int) := by omega
      have q2 : (n : Int) ≤ 1000 := by have := HNN.out; omega
      have mk := make_zero 256 (by decide) 256 rfl wr
      have c1 := conv_at (wr.alloc (zeroObj 256)) 256 wr.heap.size (fun i hi => lv.zero_cells wr 256 i hi)
      rw [zeroS_blank] at c1
      have hA : Below wr.heap.size wr (wr.alloc (zeroObj 256)) := (Below.refl _ _).alloc (Nat.le_refl _) _
      have O2 := Lib.hid (own_keep OW.out hA)
      have B2 := Lib.hid (B.out.trans (hA.mono B.out.size))
      have LL : Hid ((blanks j).length ≤ 1000) := Lib.hid (by have := HNN.out; simp [blanks]; omega)
      clear hA OW B
      generalize wr.alloc (zeroObj 256) = w7 at *
      go_wp2_with (first
        | (refine wp_buildS1W lg.blank rfl rfl rfl ?_; intro w8 hP hb _; have TT := Lib.hid hP; have O3 := Lib.hid (own_keep O2.out hb); have B3 := Lib.hid (B2.out.trans (hb.mono B2.out.size)); clear hP hb O2 B2 mk c1)
        | (refine wp_appendS w.heap.size _ _ lg.blank _ rfl rfl rfl rfl O3.out TT.out LL.out B3.out.size ?_; intro v4 w9 hO hg hb; have O4 := Lib.hid hO; have B4 := Lib.hid (below_step B3.out hg (fun g e => (O3.out.lt g e).1)); clear hO hg hb))
      go_roundw
      case measure => simp [intOf]; omega
      case rel => exact ⟨j + 1, by omega, by go_num, Lib.hid (by rw [blanks_succ]; exact O4.out), B4⟩
    · have hj3 : ¬ (j : Int) < (n : Int) := by omega
      have EN : Hid (j = n) := Lib.hid (by omega)
      go_wp2_with fail
      go_ret
      exact ⟨_, rfl, by have := OW.out; rw [EN.out, show (blanks n).length = n by simp [blanks]] at this; exact this, B.out⟩
set_option maxHeartbeats 2000000 in
set_option maxRecDepth 4000 in
theorem refNew_any (n : Int) (w : World) :
    Calls Try.prog 14 #[.int .i64 n] w fun e w' => ∃ vs', e = .returned (.tuple #[.agg vs'.toArray, .int .i64 (newE n)]) ∧ DevV vs' (newD n) w' ∧ (∀ b, b ≤ w.heap.size → Lo b vs') ∧ Below w.heap.size w w' := by
  by_cases c1 : 1 ≤ n ∧ n ≤ 64
  · have E : Hid (newE n = 0) := Lib.hid (by unfold newE; rw [if_pos c1])
    obtain ⟨k, rfl⟩ : ∃ k : Nat, n = (k : Int) := ⟨n.toNat, by omega⟩
    have D : Hid (newD (k : Int) = ⟨blanks k, 0, [], false, []⟩) := Lib.hid (by unfold newD; rw [if_pos c1, Int.toNat_natCast])
    have C := Lib.hid (decide_eq_true c1)
    have K1 := Lib.hid (show 1 ≤ k by omega)
    have K2 := Lib.hid (show k ≤ 1000 by omega)
    have y1 : decide ((k : Int) < 1) = false := decide_eq_false (by omega)
    have y2 : decide ((64 : Int) < (k : Int)) = false := decide_eq_false (by omega)
    clear c1 C
    have bd := build_devP
    go_enter Try.func14, Try.ntmps14
    go_wp2_with (first
      | (refine wp_newW dev0 _ zero_dev rfl rfl ?_; intro w1 hP hb1 hz1; have HB1 := Lib.hid hb1; have HR1 := Lib.hid hP; clear hP hb1)
      | (go_at_call 36; refine (refBlanks_any k _ K2.out).mono ?_; rintro e w2 ⟨v, rfl, hO, hb⟩; obtain ⟨sv, cv, rfl, _⟩ := (Sl.of_own hO).form; have HB2 := Lib.hid (HB1.out.trans (hb.mono HB1.out.size)); have HR2 := Lib.hid (HR1.out.keep hb); have O2 := Lib.hid hO; clear hO hb HB1 HR1)
      | (refine wp_storeDevW _ 0 nil3 false nil3 (one_slice ..) (one_slice ..) (one_slice ..) HR2.out rfl rfl rfl rfl rfl ?_; intro w3 hP hS; have HR3 := Lib.hid hP; have HB3 := Lib.hid (hS.below HB2.out (Nat.le_refl _)); have O3 := Lib.hid (own_storedNe O2.out hS (fun g e => by have := (O2.out.lt g e).1; omega)); clear hP hS))
    refine bodyPost_ret (res_devE rfl rfl HR3.out rfl) rfl ⟨_, by rw [E.out]; rfl, ?_, fun b hb => lo_dvals (fun g e => by have := (O3.out.lt g e).1; omega) (fun _ h => by cases h) (fun _ h => by cases h), HB3.out⟩
    rw [D.out]
    exact devP_vals O3.out
  · have E : Hid (newE n = 1) := Lib.hid (by unfold newE; rw [if_neg c1])
    have D : Hid (newD n = noDev) := Lib.hid (by unfold newD; rw [if_neg c1])
    by_cases c2 : n < 1
    · have y1 : decide (n < 1) = true := decide_eq_true c2
      clear c1 c2
      have bd := build_dev0
      go_enter Try.func14, Try.ntmps14
      go_wp2_with (first
        | (refine wp_newW dev0 _ zero_dev rfl rfl ?_; intro w1 hP hb1 hz1; have HB1 := Lib.hid hb1; have HR1 := Lib.hid hP; clear hP hb1)
        | (refine wp_storeDevW nil3 0 nil3 false nil3 (one_slice ..) (one_slice ..) (one_slice ..) HR1.out rfl rfl rfl rfl rfl ?_; intro w3 hP hS; have HR3 := Lib.hid hP; have HB3 := Lib.hid (hS.below HB1.out (Nat.le_refl _)); clear hP hS))
      refine bodyPost_ret (res_devE rfl rfl HR3.out rfl) rfl ⟨_, by rw [E.out]; rfl, ?_, fun b _ => lo_zero b, HB3.out⟩
      rw [D.out]
      exact devV0 _
    · have y1 : decide (n < 1) = false := decide_eq_false c2
      have y2 : decide ((64 : Int) < n) = true := decide_eq_true (by omega)
      clear c1 c2
      have bd := build_dev0
      go_enter Try.func14, Try.ntmps14
      go_wp2_with (first
        | (refine wp_newW dev0 _ zero_dev rfl rfl ?_; intro w1 hP hb1 hz1; have HB1 := Lib.hid hb1; have HR1 := Lib.hid hP; clear hP hb1)
        | (refine wp_storeDevW nil3 0 nil3 false nil3 (one_slice ..) (one_slice ..) (one_slice ..) HR1.out rfl rfl rfl rfl rfl ?_; intro w3 hP hS; have HR3 := Lib.hid hP; have HB3 := Lib.hid (hS.below HB1.out (Nat.le_refl _)); clear hP hS))
      refine bodyPost_ret (res_devE rfl rfl HR3.out rfl) rfl ⟨_, by rw [E.out]; rfl, ?_, fun b _ => lo_zero b, HB3.out⟩
      rw [D.out]
      exact devV0 _
end Go.Proofs.Ytikpchhhenonaaa.ne
