/- Which devices are valid; whether a page can be read or written: the program. -/
import Derived.Test.YtikpchhhenonaaaLi
namespace Go.Proofs.Ytikpchhhenonaaa.lj
open Go.ChangeShapes Go.WideShapes Go.ChangeAt Go.RowKit Go.Proofs.Ytikpchhhenonaaa.cx Go.Proofs.Ytikpchhhenonaaa.ra Go.Proofs.Ytikpchhhenonaaa.la Go.Proofs.Ytikpchhhenonaaa.lb Go.Proofs.Ytikpchhhenonaaa.lc Go.Proofs.Ytikpchhhenonaaa.ld Go.Proofs.Ytikpchhhenonaaa.lg Go.Proofs.Ytikpchhhenonaaa.lh Go.Proofs.Ytikpchhhenonaaa.li

def okFault (d : Dev) (f : Flt) : Bool := decide (d.writes < f.at') && (decide (f.at' ≤ 1099511627776) && (inR f.page d.pages.length && (inR f.target d.pages.length && (decide (0 ≤ f.byte) && (decide (f.byte < 256) && okKind f)))))
theorem validKind_b (f : Flt) (b : Bool) (h : okKind f = b) (w : World) : Calls Try.prog 71 #[.agg f.arr] w fun e w' => e = .returned (.bool b) ∧ Below w.heap.size w w' := h ▸ validKind_any f w
set_option maxHeartbeats 2000000 in
set_option maxRecDepth 4000 in
theorem validFault_any (vs : List Value) (d : Dev) (f : Flt) (w : World) (h : DevV vs d w) :
    Calls Try.prog 53 #[.agg vs.toArray, .agg f.arr] w fun e w' => e = .returned (.bool (okFault d f)) ∧ Below w.heap.size w w' := by
  obtain ⟨sp, cp, su, cu, sf, cf, rfl, P, U, F⟩ := h.form
  have DV := Lib.hid h
  clear h P U F
  by_cases c1 : d.writes < f.at'
  rotate_left
  · have d1 : decide (d.writes < f.at') = false := decide_eq_false c1
    have E : Hid (okFault d f = false) := Lib.hid (by unfold okFault; rw [d1, Bool.false_and])
    clear c1
    go_enter Try.func53, Try.ntmps53
    go_wp2_with (first
      | (refine wp_boxW (dvals (.slice sp d.pages.length cp) d.writes (.slice su d.unr.length cu) d.dead (.slice sf d.faults.length cf)) _ rfl rfl rfl ?_; intro w0 hP hb0 _; have HB0 := Lib.hid hb0; have HD0 := Lib.hid hP; clear hP hb0)
      | (refine wp_boxW f.vals _ rfl rfl rfl ?_; intro w1 hP hb1 _; have HB1 := Lib.hid (HB0.out.trans (hb1.mono HB0.out.size)); have HD1 := Lib.hid (HD0.out.keep hb1); have HF1 := Lib.hid hP; have HV1 := Lib.hid (DV.out.keep HB1.out); obtain ⟨a0, a1, a2, a3, a4⟩ := HD1.out.all5; obtain ⟨b0, b1, b2, b3, b4, b5⟩ := HF1.out.all6; clear hP hb1 HD0 HB0)
      | (refine wp_loadDev _ _ _ _ _ HD1.out rfl rfl rfl ?_)
      | (refine wp_loadDev _ _ _ _ _ HD2.out rfl rfl rfl ?_)
      | (refine wp_loadDev _ _ _ _ _ HD3.out rfl rfl rfl ?_)
      | (refine wp_loadFlt f HF1.out rfl rfl rfl ?_)
      | (refine wp_loadFlt f HF2.out rfl rfl rfl ?_)
      | (refine wp_loadFlt f HF3.out rfl rfl rfl ?_))
    go_ret
    exact ⟨by rw [E.out]; rfl, HB1.out⟩
  by_cases c2 : f.at' ≤ 1099511627776
  rotate_left
  · have d1 : decide (f.at' ≤ 1099511627776) = false := decide_eq_false c2
    have E : Hid (okFault d f = false) := Lib.hid (by unfold okFault; rw [d1, Bool.false_and, Bool.and_false])
    clear c2
    go_enter Try.func53, Try.ntmps53
    go_wp2_with (first
      | (refine wp_boxW (dvals (.slice sp d.pages.length cp) d.writes (.slice su d.unr.length cu) d.dead (.slice sf d.faults.length cf)) _ rfl rfl rfl ?_; intro w0 hP hb0 _; have HB0 := Lib.hid hb0; have HD0 := Lib.hid hP; clear hP hb0)
      | (refine wp_boxW f.vals _ rfl rfl rfl ?_; intro w1 hP hb1 _; have HB1 := Lib.hid (HB0.out.trans (hb1.mono HB0.out.size)); have HD1 := Lib.hid (HD0.out.keep hb1); have HF1 := Lib.hid hP; have HV1 := Lib.hid (DV.out.keep HB1.out); obtain ⟨a0, a1, a2, a3, a4⟩ := HD1.out.all5; obtain ⟨b0, b1, b2, b3, b4, b5⟩ := HF1.out.all6; clear hP hb1 HD0 HB0)
      | (refine wp_loadDev _ _ _ _ _ HD1.out rfl rfl rfl ?_)
      | (refine wp_loadDev _ _ _ _ _ HD2.out rfl rfl rfl ?_)
      | (refine wp_loadDev _ _ _ _ _ HD3.out rfl rfl rfl ?_)
      | (refine wp_loadFlt f HF1.out rfl rfl rfl ?_)
      | (refine wp_loadFlt f HF2.out rfl rfl rfl ?_)
      | (refine wp_loadFlt f HF3.out rfl rfl rfl ?_))
    go_ret
    exact ⟨by rw [E.out]; rfl, HB1.out⟩
  have E2 : Hid (okFault d f = (inR f.page d.pages.length && (inR f.target d.pages.length && (decide (0 ≤ f.byte) && (decide (f.byte < 256) && okKind f))))) := Lib.hid (by unfold okFault; rw [decide_eq_true c1, decide_eq_true c2, Bool.true_and, Bool.true_and])
  cases c3 : inR f.page d.pages.length
  · have C3 := Lib.hid c3
    clear c3
    go_enter Try.func53, Try.ntmps53
    go_wp2_with (first
      | (refine wp_boxW (dvals (.slice sp d.pages.length cp) d.writes (.slice su d.unr.length cu) d.dead (.slice sf d.faults.length cf)) _ rfl rfl rfl ?_; intro w0 hP hb0 _; have HB0 := Lib.hid hb0; have HD0 := Lib.hid hP; clear hP hb0)
      | (refine wp_boxW f.vals _ rfl rfl rfl ?_; intro w1 hP hb1 _; have HB1 := Lib.hid (HB0.out.trans (hb1.mono HB0.out.size)); have HD1 := Lib.hid (HD0.out.keep hb1); have HF1 := Lib.hid hP; have HV1 := Lib.hid (DV.out.keep HB1.out); obtain ⟨a0, a1, a2, a3, a4⟩ := HD1.out.all5; obtain ⟨b0, b1, b2, b3, b4, b5⟩ := HF1.out.all6; clear hP hb1 HD0 HB0)
      | (refine wp_loadDev _ _ _ _ _ HD1.out rfl rfl rfl ?_)
      | (refine wp_loadDev _ _ _ _ _ HD2.out rfl rfl rfl ?_)
      | (refine wp_loadDev _ _ _ _ _ HD3.out rfl rfl rfl ?_)
      | (refine wp_loadFlt f HF1.out rfl rfl rfl ?_)
      | (refine wp_loadFlt f HF2.out rfl rfl rfl ?_)
      | (refine wp_loadFlt f HF3.out rfl rfl rfl ?_)
      | (go_at_call 70; (with_reducible refine (hasPage_b _ d f.page false C3.out _ HV1.out).mono ?_); rintro e w2 ⟨rfl, hb2⟩; clear a0 a1 a2 a3 a4 b0 b1 b2 b3 b4 b5; have HB2 := Lib.hid (HB1.out.trans (hb2.mono HB1.out.size)); have HD2 := Lib.hid (HD1.out.keep hb2); have HF2 := Lib.hid (HF1.out.keep hb2); have HV2 := Lib.hid (HV1.out.keep hb2); obtain ⟨a0, a1, a2, a3, a4⟩ := HD2.out.all5; obtain ⟨b0, b1, b2, b3, b4, b5⟩ := HF2.out.all6; clear hb2 HB1 HD1 HF1 HV1))
    go_ret
    exact ⟨by rw [E2.out, C3.out]; rfl, HB2.out⟩
  cases c4 : inR f.target d.pages.length
  · have C3 := Lib.hid c3
    have C4 := Lib.hid c4
    clear c3 c4
    go_enter Try.func53, Try.ntmps53
    go_wp2_with (first
      | (refine wp_boxW (dvals (.slice sp d.pages.length cp) d.writes (.slice su d.unr.length cu) d.dead (.slice sf d.faults.length cf)) _ rfl rfl rfl ?_; intro w0 hP hb0 _; have HB0 := Lib.hid hb0; have HD0 := Lib.hid hP; clear hP hb0)
      | (refine wp_boxW f.vals _ rfl rfl rfl ?_; intro w1 hP hb1 _; have HB1 := Lib.hid (HB0.out.trans (hb1.mono HB0.out.size)); have HD1 := Lib.hid (HD0.out.keep hb1); have HF1 := Lib.hid hP; have HV1 := Lib.hid (DV.out.keep HB1.out); obtain ⟨a0, a1, a2, a3, a4⟩ := HD1.out.all5; obtain ⟨b0, b1, b2, b3, b4, b5⟩ := HF1.out.all6; clear hP hb1 HD0 HB0)
      | (refine wp_loadDev _ _ _ _ _ HD1.out rfl rfl rfl ?_)
      | (refine wp_loadDev _ _ _ _ _ HD2.out rfl rfl rfl ?_)
      | (refine wp_loadDev _ _ _ _ _ HD3.out rfl rfl rfl ?_)
      | (refine wp_loadFlt f HF1.out rfl rfl rfl ?_)
      | (refine wp_loadFlt f HF2.out rfl rfl rfl ?_)
      | (refine wp_loadFlt f HF3.out rfl rfl rfl ?_)
      | (go_at_call 70; (with_reducible refine (hasPage_b _ d f.page true C3.out _ HV1.out).mono ?_); rintro e w2 ⟨rfl, hb2⟩; clear a0 a1 a2 a3 a4 b0 b1 b2 b3 b4 b5; have HB2 := Lib.hid (HB1.out.trans (hb2.mono HB1.out.size)); have HD2 := Lib.hid (HD1.out.keep hb2); have HF2 := Lib.hid (HF1.out.keep hb2); have HV2 := Lib.hid (HV1.out.keep hb2); obtain ⟨a0, a1, a2, a3, a4⟩ := HD2.out.all5; obtain ⟨b0, b1, b2, b3, b4, b5⟩ := HF2.out.all6; clear hb2 HB1 HD1 HF1 HV1)
      | (go_at_call 70; (with_reducible refine (hasPage_b _ d f.target false C4.out _ HV2.out).mono ?_); rintro e w3 ⟨rfl, hb3⟩; clear a0 a1 a2 a3 a4 b0 b1 b2 b3 b4 b5; have HB3 := Lib.hid (HB2.out.trans (hb3.mono HB2.out.size)); have HD3 := Lib.hid (HD2.out.keep hb3); have HF3 := Lib.hid (HF2.out.keep hb3); obtain ⟨a0, a1, a2, a3, a4⟩ := HD3.out.all5; obtain ⟨b0, b1, b2, b3, b4, b5⟩ := HF3.out.all6; clear hb3 HB2 HD2 HF2))
    go_ret
    exact ⟨by rw [E2.out, C3.out, C4.out]; rfl, HB3.out⟩
  have C3 := Lib.hid c3
  have C4 := Lib.hid c4
  clear c3 c4
  by_cases c5 : 0 ≤ f.byte
  rotate_left
  · have d1 : decide (0 ≤ f.byte) = false := decide_eq_false c5
    have E : Hid (okFault d f = false) := Lib.hid (by rw [E2.out, d1, Bool.false_and, Bool.and_false, Bool.and_false])
    clear c5
    go_enter Try.func53, Try.ntmps53
    go_wp2_with (first
      | (refine wp_boxW (dvals (.slice sp d.pages.length cp) d.writes (.slice su d.unr.length cu) d.dead (.slice sf d.faults.length cf)) _ rfl rfl rfl ?_; intro w0 hP hb0 _; have HB0 := Lib.hid hb0; have HD0 := Lib.hid hP; clear hP hb0)
      | (refine wp_boxW f.vals _ rfl rfl rfl ?_; intro w1 hP hb1 _; have HB1 := Lib.hid (HB0.out.trans (hb1.mono HB0.out.size)); have HD1 := Lib.hid (HD0.out.keep hb1); have HF1 := Lib.hid hP; have HV1 := Lib.hid (DV.out.keep HB1.out); obtain ⟨a0, a1, a2, a3, a4⟩ := HD1.out.all5; obtain ⟨b0, b1, b2, b3, b4, b5⟩ := HF1.out.all6; clear hP hb1 HD0 HB0)
      | (refine wp_loadDev _ _ _ _ _ HD1.out rfl rfl rfl ?_)
      | (refine wp_loadDev _ _ _ _ _ HD2.out rfl rfl rfl ?_)
      | (refine wp_loadDev _ _ _ _ _ HD3.out rfl rfl rfl ?_)
      | (refine wp_loadFlt f HF1.out rfl rfl rfl ?_)
      | (refine wp_loadFlt f HF2.out rfl rfl rfl ?_)
      | (refine wp_loadFlt f HF3.out rfl rfl rfl ?_)
      | (go_at_call 70; (with_reducible refine (hasPage_b _ d f.page true C3.out _ HV1.out).mono ?_); rintro e w2 ⟨rfl, hb2⟩; clear a0 a1 a2 a3 a4 b0 b1 b2 b3 b4 b5; have HB2 := Lib.hid (HB1.out.trans (hb2.mono HB1.out.size)); have HD2 := Lib.hid (HD1.out.keep hb2); have HF2 := Lib.hid (HF1.out.keep hb2); have HV2 := Lib.hid (HV1.out.keep hb2); obtain ⟨a0, a1, a2, a3, a4⟩ := HD2.out.all5; obtain ⟨b0, b1, b2, b3, b4, b5⟩ := HF2.out.all6; clear hb2 HB1 HD1 HF1 HV1)
      | (go_at_call 70; (with_reducible refine (hasPage_b _ d f.target true C4.out _ HV2.out).mono ?_); rintro e w3 ⟨rfl, hb3⟩; clear a0 a1 a2 a3 a4 b0 b1 b2 b3 b4 b5; have HB3 := Lib.hid (HB2.out.trans (hb3.mono HB2.out.size)); have HD3 := Lib.hid (HD2.out.keep hb3); have HF3 := Lib.hid (HF2.out.keep hb3); obtain ⟨a0, a1, a2, a3, a4⟩ := HD3.out.all5; obtain ⟨b0, b1, b2, b3, b4, b5⟩ := HF3.out.all6; clear hb3 HB2 HD2 HF2))
    go_ret
    exact ⟨by rw [E.out]; rfl, HB3.out⟩
  by_cases c6 : f.byte < 256
  rotate_left
  · have d1 : decide (f.byte < 256) = false := decide_eq_false c6
    have E : Hid (okFault d f = false) := Lib.hid (by rw [E2.out, d1, Bool.false_and, Bool.and_false, Bool.and_false, Bool.and_false])
    clear c6
    go_enter Try.func53, Try.ntmps53
    go_wp2_with (first
      | (refine wp_boxW (dvals (.slice sp d.pages.length cp) d.writes (.slice su d.unr.length cu) d.dead (.slice sf d.faults.length cf)) _ rfl rfl rfl ?_; intro w0 hP hb0 _; have HB0 := Lib.hid hb0; have HD0 := Lib.hid hP; clear hP hb0)
      | (refine wp_boxW f.vals _ rfl rfl rfl ?_; intro w1 hP hb1 _; have HB1 := Lib.hid (HB0.out.trans (hb1.mono HB0.out.size)); have HD1 := Lib.hid (HD0.out.keep hb1); have HF1 := Lib.hid hP; have HV1 := Lib.hid (DV.out.keep HB1.out); obtain ⟨a0, a1, a2, a3, a4⟩ := HD1.out.all5; obtain ⟨b0, b1, b2, b3, b4, b5⟩ := HF1.out.all6; clear hP hb1 HD0 HB0)
      | (refine wp_loadDev _ _ _ _ _ HD1.out rfl rfl rfl ?_)
      | (refine wp_loadDev _ _ _ _ _ HD2.out rfl rfl rfl ?_)
      | (refine wp_loadDev _ _ _ _ _ HD3.out rfl rfl rfl ?_)
      | (refine wp_loadFlt f HF1.out rfl rfl rfl ?_)
      | (refine wp_loadFlt f HF2.out rfl rfl rfl ?_)
      | (refine wp_loadFlt f HF3.out rfl rfl rfl ?_)
      | (go_at_call 70; (with_reducible refine (hasPage_b _ d f.page true C3.out _ HV1.out).mono ?_); rintro e w2 ⟨rfl, hb2⟩; clear a0 a1 a2 a3 a4 b0 b1 b2 b3 b4 b5; have HB2 := Lib.hid (HB1.out.trans (hb2.mono HB1.out.size)); have HD2 := Lib.hid (HD1.out.keep hb2); have HF2 := Lib.hid (HF1.out.keep hb2); have HV2 := Lib.hid (HV1.out.keep hb2); obtain ⟨a0, a1, a2, a3, a4⟩ := HD2.out.all5; obtain ⟨b0, b1, b2, b3, b4, b5⟩ := HF2.out.all6; clear hb2 HB1 HD1 HF1 HV1)
      | (go_at_call 70; (with_reducible refine (hasPage_b _ d f.target true C4.out _ HV2.out).mono ?_); rintro e w3 ⟨rfl, hb3⟩; clear a0 a1 a2 a3 a4 b0 b1 b2 b3 b4 b5; have HB3 := Lib.hid (HB2.out.trans (hb3.mono HB2.out.size)); have HD3 := Lib.hid (HD2.out.keep hb3); have HF3 := Lib.hid (HF2.out.keep hb3); obtain ⟨a0, a1, a2, a3, a4⟩ := HD3.out.all5; obtain ⟨b0, b1, b2, b3, b4, b5⟩ := HF3.out.all6; clear hb3 HB2 HD2 HF2))
    go_ret
    exact ⟨by rw [E.out]; rfl, HB3.out⟩
  have E : Hid (okFault d f = okKind f) := Lib.hid (by rw [E2.out, C3.out, C4.out, decide_eq_true c5, decide_eq_true c6]; rfl)
  go_enter Try.func53, Try.ntmps53
  go_wp2_with (first
      | (refine wp_boxW (dvals (.slice sp d.pages.length cp) d.writes (.slice su d.unr.length cu) d.dead (.slice sf d.faults.length cf)) _ rfl rfl rfl ?_; intro w0 hP hb0 _; have HB0 := Lib.hid hb0; have HD0 := Lib.hid hP; clear hP hb0)
      | (refine wp_boxW f.vals _ rfl rfl rfl ?_; intro w1 hP hb1 _; have HB1 := Lib.hid (HB0.out.trans (hb1.mono HB0.out.size)); have HD1 := Lib.hid (HD0.out.keep hb1); have HF1 := Lib.hid hP; have HV1 := Lib.hid (DV.out.keep HB1.out); obtain ⟨a0, a1, a2, a3, a4⟩ := HD1.out.all5; obtain ⟨b0, b1, b2, b3, b4, b5⟩ := HF1.out.all6; clear hP hb1 HD0 HB0)
      | (refine wp_loadDev _ _ _ _ _ HD1.out rfl rfl rfl ?_)
      | (refine wp_loadDev _ _ _ _ _ HD2.out rfl rfl rfl ?_)
      | (refine wp_loadDev _ _ _ _ _ HD3.out rfl rfl rfl ?_)
      | (refine wp_loadFlt f HF1.out rfl rfl rfl ?_)
      | (refine wp_loadFlt f HF2.out rfl rfl rfl ?_)
      | (refine wp_loadFlt f HF3.out rfl rfl rfl ?_)
      | (go_at_call 70; (with_reducible refine (hasPage_b _ d f.page true C3.out _ HV1.out).mono ?_); rintro e w2 ⟨rfl, hb2⟩; clear a0 a1 a2 a3 a4 b0 b1 b2 b3 b4 b5; have HB2 := Lib.hid (HB1.out.trans (hb2.mono HB1.out.size)); have HD2 := Lib.hid (HD1.out.keep hb2); have HF2 := Lib.hid (HF1.out.keep hb2); have HV2 := Lib.hid (HV1.out.keep hb2); obtain ⟨a0, a1, a2, a3, a4⟩ := HD2.out.all5; obtain ⟨b0, b1, b2, b3, b4, b5⟩ := HF2.out.all6; clear hb2 HB1 HD1 HF1 HV1)
      | (go_at_call 70; (with_reducible refine (hasPage_b _ d f.target true C4.out _ HV2.out).mono ?_); rintro e w3 ⟨rfl, hb3⟩; clear a0 a1 a2 a3 a4 b0 b1 b2 b3 b4 b5; have HB3 := Lib.hid (HB2.out.trans (hb3.mono HB2.out.size)); have HD3 := Lib.hid (HD2.out.keep hb3); have HF3 := Lib.hid (HF2.out.keep hb3); obtain ⟨a0, a1, a2, a3, a4⟩ := HD3.out.all5; obtain ⟨b0, b1, b2, b3, b4, b5⟩ := HF3.out.all6; clear hb3 HB2 HD2 HF2)
      | (go_at_call 71; (with_reducible refine (validKind_any f _).mono ?_); rintro e w4 ⟨rfl, hb4⟩; have HB4 := Lib.hid (HB3.out.trans (hb4.mono HB3.out.size)); clear hb4 HB3))
  go_ret
  exact ⟨by rw [E.out]; rfl, HB4.out⟩
theorem validFault_b (vs : List Value) (d : Dev) (f : Flt) (b : Bool) (hb : okFault d f = b) (w : World) (h : DevV vs d w) :
    Calls Try.prog 53 #[.agg vs.toArray, .agg f.arr] w fun e w' => e = .returned (.bool b) ∧ Below w.heap.size w w' := hb ▸ validFault_any vs d f w h
def okFaults (d : Dev) : Bool := decide (d.faults.length ≤ 64) && d.faults.all (okFault d)
set_option maxHeartbeats 2000000 in
set_option maxRecDepth 4000 in
theorem validFaults_any (vs : List Value) (d : Dev) (w : World) (h : DevV vs d w) :
    Calls Try.prog 51 #[.agg vs.toArray] w fun e w' => e = .returned (.bool (okFaults d)) ∧ Below w.heap.size w w' := by
  obtain ⟨sp, cp, su, cu, sf, cf, rfl, P, U, F⟩ := h.form
  have DV := Lib.hid h
  have hlen := Sl.len_le F.out
  clear h P U
  by_cases c1 : d.faults.length ≤ 64
  rotate_left
  · have d1 : decide ((64 : Int) < (d.faults.length : Int)) = true := decide_eq_true (by omega)
    have d1' : ((64 : Int) < (d.faults.length : Int)) = True := by simp; omega
    have E : Hid (okFaults d = false) := Lib.hid (by unfold okFaults; rw [decide_eq_false c1, Bool.false_and])
    clear c1
    go_enter Try.func51, Try.ntmps51
    go_wp2_with (first
      | (refine wp_boxW (dvals (.slice sp d.pages.length cp) d.writes (.slice su d.unr.length cu) d.dead (.slice sf d.faults.length cf)) _ rfl rfl rfl ?_; intro w0 hP hb0 _; have HB0 := Lib.hid hb0; obtain ⟨a0, a1, a2, a3, a4⟩ := hP.all5; clear hP hb0))
    go_ret
    exact ⟨by rw [E.out]; rfl, HB0.out⟩
  have d1' : ((64 : Int) < (d.faults.length : Int)) = False := by simp; omega
  have C1 := Lib.hid c1
  clear c1
  go_enter Try.func51, Try.ntmps51
  go_wp2_with (first
    | (refine wp_boxW (dvals (.slice sp d.pages.length cp) d.writes (.slice su d.unr.length cu) d.dead (.slice sf d.faults.length cf)) _ rfl rfl rfl ?_; intro w0 hP hb0 _; have HB0 := Lib.hid hb0; have HD0 := Lib.hid hP; obtain ⟨a0, a1, a2, a3, a4⟩ := hP.all5; clear hP hb0))
  go_loopw [4, 12] (fun _ s12 wr => ∃ (kk : Nat), kk ≤ d.faults.length ∧ s12 = .int .i64 kk ∧ Hid (Below w.heap.size w wr) ∧ Hid (RowAt w.heap.size (dvals (.slice sp d.pages.length cp) d.writes (.slice su d.unr.length cu) d.dead (.slice sf d.faults.length cf)) wr) ∧ Hid (∀ j y, j < kk → d.faults[j]? = some y → okFault d y = true)) (fun _ s12 _ => d.faults.length - (intOf s12).toNat)
  case atStart => exact ⟨0, Nat.zero_le _, rfl, HB0, HD0, fun j _ hj => absurd hj (Nat.not_lt_zero _)⟩
  case round =>
    obtain ⟨kk, hkk, rfl, BW, RD, A⟩ := hrel
    clear HB0 HD0
    by_cases hlt : kk < d.faults.length
    · have hltz : (kk : Int) < (d.faults.length : Int) := by omega
      have q0 : (0 : Int) ≤ (kk : Int) := by omega
      obtain ⟨x, hx⟩ : ∃ x, d.faults[kk]? = some x := ⟨_, List.getElem?_eq_getElem hlt⟩
      obtain ⟨b, off, hso, hb, HC⟩ : ∃ b off, sf = some ⟨b, off, none⟩ ∧ b < w.heap.size ∧ Hid (∀ i u, (fltL d.faults)[i]? = some u → w.cell? ⟨b, off + i, none⟩ = some u) := by
        rcases F.out.2.2 with ⟨_, h0⟩ | ⟨b, off, cap', e, _, hb, hcc⟩
        · omega
        · simp only [Value.slice.injEq, true_and] at e
          exact ⟨b, off, e.1, hb, Lib.hid hcc⟩
      subst hso
      have LC : Hid (∀ i u, x.vals[i]? = some u → wr.cell? ⟨b, off + kk * 6 + i, none⟩ = some u) := Lib.hid fun i u hu => by
        rw [BW.out.cell (p := ⟨b, off + kk * 6 + i, none⟩) hb, Nat.add_assoc]
        exact HC.out _ _ (fltL_at d.faults kk x i u hx hu)
      have HX := Lib.hid hx
      clear hx
      cases hr : okFault d x
      all_goals
        have HRR := Lib.hid hr
        clear hr
        go_wp2_with (first
          | (refine wp_loadFltAt x (off + kk * 6) LC.out rfl rfl rfl ?_)
          | (refine wp_newW flt0.vals _ zero_flt rfl rfl ?_; intro w1 hP hb1 _; have N1 := Lib.hid hP; have M1 := Lib.hid hb1; clear hP hb1 LC)
          | (refine wp_storeFltW x N1.out rfl rfl rfl rfl rfl ?_; intro w2 hP hS; have N2 := Lib.hid hP; have B2 := Lib.hid (hS.below (BW.out.trans (M1.out.mono BW.out.size)) BW.out.size); have D2 := Lib.hid (hS.row (RD.out.keep M1.out) (Nat.ne_of_gt RD.out.lt)); have V2 := Lib.hid (DV.out.keep B2.out); clear hP hS N1 M1 RD)
          | (refine wp_loadDev _ _ _ _ _ D2.out rfl rfl rfl ?_)
          | (refine wp_loadFlt x N2.out rfl rfl rfl ?_)
          | (go_at_call 53; (with_reducible refine (validFault_b _ d x _ HRR.out _ V2.out).mono ?_); rintro e w3 ⟨rfl, hb3⟩; have B3 := Lib.hid (B2.out.trans (hb3.mono B2.out.size)); have D3 := Lib.hid (D2.out.keep hb3); clear hb3 B2 D2 N2 V2))
      · go_ret
        refine ⟨?_, B3.out⟩
        have : okFaults d = false := by
          unfold okFaults
          rw [Bool.and_eq_false_iff]
          refine .inr ?_
          rw [Bool.eq_false_iff]
          intro hh
          rw [List.all_eq_true] at hh
          have := hh x (List.mem_of_getElem? HX.out)
          rw [HRR.out] at this
          cases this
        rw [this]; rfl
      · go_roundw
        case measure => simp [intOf]; omega
        case rel =>
          refine ⟨kk + 1, by omega, by go_num, B3, D3, Lib.hid fun j y hj hy => ?_⟩
          by_cases e : j = kk
          · subst e
            rw [HX.out] at hy
            injection hy with hy
            rw [← hy]; exact HRR.out
          · exact A.out j y (by omega) hy
    · have hltz : ¬ (kk : Int) < (d.faults.length : Int) := by omega
      obtain rfl : kk = d.faults.length := by omega
      go_wp2
      go_ret
      refine ⟨?_, BW.out⟩
      have : okFaults d = true := by
        unfold okFaults
        rw [decide_eq_true C1.out, Bool.true_and, List.all_eq_true]
        intro y hy
        obtain ⟨j, hj, rfl⟩ := List.mem_iff_getElem.1 hy
        exact A.out j _ hj (List.getElem?_eq_getElem hj)
      rw [this]; rfl
end Go.Proofs.Ytikpchhhenonaaa.lj
