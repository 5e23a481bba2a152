/- The reference's fault. -/
import Derived.Test.YtikpchhhenonaaaLy
namespace Go.Proofs.Ytikpchhhenonaaa.na
open Go.ChangeShapes Go.WideShapes Go.ChangeAt Go.RowKit Go.Proofs.Ytikpchhhenonaaa.cx Go.Proofs.Ytikpchhhenonaaa.ra Go.Proofs.Ytikpchhhenonaaa.la Go.Proofs.Ytikpchhhenonaaa.lb Go.Proofs.Ytikpchhhenonaaa.lc Go.Proofs.Ytikpchhhenonaaa.ld Go.Proofs.Ytikpchhhenonaaa.le Go.Proofs.Ytikpchhhenonaaa.lf Go.Proofs.Ytikpchhhenonaaa.lg Go.Proofs.Ytikpchhhenonaaa.lh Go.Proofs.Ytikpchhhenonaaa.li Go.Proofs.Ytikpchhhenonaaa.lj Go.Proofs.Ytikpchhhenonaaa.lk Go.Proofs.Ytikpchhhenonaaa.ll Go.Proofs.Ytikpchhhenonaaa.lm Go.Proofs.Ytikpchhhenonaaa.ln Go.Proofs.Ytikpchhhenonaaa.lo Go.Proofs.Ytikpchhhenonaaa.lp Go.Proofs.Ytikpchhhenonaaa.lq Go.Proofs.Ytikpchhhenonaaa.lr Go.Proofs.Ytikpchhhenonaaa.ls Go.Proofs.Ytikpchhhenonaaa.lt Go.Proofs.Ytikpchhhenonaaa.lu Go.Proofs.Ytikpchhhenonaaa.lv Go.Proofs.Ytikpchhhenonaaa.lw Go.Proofs.Ytikpchhhenonaaa.lx Go.Proofs.Ytikpchhhenonaaa.ly
set_option linter.unusedSimpArgs false
theorem wp_one {c : Code} {Q : Exit → Act → World → Prop} {a : Act} {w : World} (A : Act) (W : World) (h : c.wp Try.prog (NormalQ fun a w => a = A ∧ w = W) a w) (hq : Q .normal A W) : c.wp Try.prog Q a w :=
  Code.wp_mono (fun e a w he => by
    cases e with
    | normal =>
      obtain ⟨rfl, rfl⟩ := he
      exact hq
    | _ => exact he.elim) h
theorem okFault_false {d : Dev} {f : Flt} (h : ¬ ((d.writes < f.at' ∧ f.at' ≤ 1099511627776) ∧ (0 ≤ f.page ∧ f.page < (d.pages.length : Int)) ∧ (0 ≤ f.target ∧ f.target < (d.pages.length : Int)) ∧ 0 ≤ f.byte ∧ f.byte < 256)) : okFault d f = false := by
  cases hh : okFault d f
  · rfl
  · exact absurd (okFault_in hh) h
theorem okFault_is {d : Dev} {f : Flt} (h : (d.writes < f.at' ∧ f.at' ≤ 1099511627776) ∧ (0 ≤ f.page ∧ f.page < (d.pages.length : Int)) ∧ (0 ≤ f.target ∧ f.target < (d.pages.length : Int)) ∧ 0 ≤ f.byte ∧ f.byte < 256) : okFault d f = okKind f := by
  obtain ⟨⟨h1, h2⟩, h3, h4, h5, h6⟩ := h
  unfold okFault inR
  rw [decide_eq_true h1, decide_eq_true h2, decide_eq_true h3, decide_eq_true h4, decide_eq_true h5, decide_eq_true h6]
  simp only [Bool.true_and]
set_option maxHeartbeats 4000000 in
set_option maxRecDepth 4000 in
theorem refFault_out (d : Dev) (sp su sf : Option Addr) (cp cu cf : Nat) (kd at' pg tg bt mk : Int) (w : World) (hr : ¬ ((d.writes < at' ∧ at' ≤ 1099511627776) ∧ (0 ≤ pg ∧ pg < (d.pages.length : Int)) ∧ (0 ≤ tg ∧ tg < (d.pages.length : Int)) ∧ 0 ≤ bt ∧ bt < 256)) :
    Calls Try.prog 52 #[.agg (dvals (.slice sp d.pages.length cp) d.writes (.slice su d.unr.length cu) d.dead (.slice sf d.faults.length cf)).toArray, .agg (Flt.vals ⟨kd, at', pg, tg, bt, mk⟩).toArray] w fun e w' => e = .returned (.bool (okFault d ⟨kd, at', pg, tg, bt, mk⟩)) ∧ Below w.heap.size w w' := by
  by_cases q0 : at' ≤ d.writes
  · have E : Hid (okFault d ⟨kd, at', pg, tg, bt, mk⟩ = false) := Lib.hid (okFault_false (by intro hh; simp only at hh; omega))
    have e0 : decide (at' ≤ d.writes) = true := decide_eq_true q0
    go_enter Try.func52, Try.ntmps52
    go_wp2_with (first
      | (refine wp_boxW (dvals (.slice sp d.pages.length cp) d.writes (.slice su d.unr.length cu) d.dead (.slice sf d.faults.length cf)) _ rfl rfl rfl ?_; intro w0 hP hb0 hz0; have HB0 := Lib.hid hb0; have HD0 := Lib.hid hP; clear hP hb0)
      | (refine wp_boxW (Flt.vals ⟨kd, at', pg, tg, bt, mk⟩) _ rfl rfl rfl ?_; intro w1 hP hb1 hz1; have HF1 := Lib.hid hP; have HD1 := Lib.hid (HD0.out.keep hb1); have HB1 := Lib.hid (HB0.out.trans (hb1.mono HB0.out.size)); obtain ⟨c0, c1, c2, c3, c4, c5⟩ := hP.all6; obtain ⟨a0, a1, a2, a3, a4⟩ := HD1.out.all5; clear hP hb1 HD0 HB0))
    go_ret
    exact ⟨by rw [E.out]; rfl, HB1.out⟩
  by_cases q1 : (1099511627776 : Int) < at'
  · have E : Hid (okFault d ⟨kd, at', pg, tg, bt, mk⟩ = false) := Lib.hid (okFault_false (by intro hh; simp only at hh; omega))
    have e0 : decide (at' ≤ d.writes) = false := decide_eq_false q0
    have e1 : decide ((1099511627776 : Int) < at') = true := decide_eq_true q1
    go_enter Try.func52, Try.ntmps52
    go_wp2_with (first
      | (refine wp_boxW (dvals (.slice sp d.pages.length cp) d.writes (.slice su d.unr.length cu) d.dead (.slice sf d.faults.length cf)) _ rfl rfl rfl ?_; intro w0 hP hb0 hz0; have HB0 := Lib.hid hb0; have HD0 := Lib.hid hP; clear hP hb0)
      | (refine wp_boxW (Flt.vals ⟨kd, at', pg, tg, bt, mk⟩) _ rfl rfl rfl ?_; intro w1 hP hb1 hz1; have HF1 := Lib.hid hP; have HD1 := Lib.hid (HD0.out.keep hb1); have HB1 := Lib.hid (HB0.out.trans (hb1.mono HB0.out.size)); obtain ⟨c0, c1, c2, c3, c4, c5⟩ := hP.all6; obtain ⟨a0, a1, a2, a3, a4⟩ := HD1.out.all5; clear hP hb1 HD0 HB0))
    go_ret
    exact ⟨by rw [E.out]; rfl, HB1.out⟩
  by_cases q2 : pg < 0
  · have E : Hid (okFault d ⟨kd, at', pg, tg, bt, mk⟩ = false) := Lib.hid (okFault_false (by intro hh; simp only at hh; omega))
    have e0 : decide (at' ≤ d.writes) = false := decide_eq_false q0
    have e1 : decide ((1099511627776 : Int) < at') = false := decide_eq_false q1
    have e2 : decide (pg < 0) = true := decide_eq_true q2
    go_enter Try.func52, Try.ntmps52
    go_wp2_with (first
      | (refine wp_boxW (dvals (.slice sp d.pages.length cp) d.writes (.slice su d.unr.length cu) d.dead (.slice sf d.faults.length cf)) _ rfl rfl rfl ?_; intro w0 hP hb0 hz0; have HB0 := Lib.hid hb0; have HD0 := Lib.hid hP; clear hP hb0)
      | (refine wp_boxW (Flt.vals ⟨kd, at', pg, tg, bt, mk⟩) _ rfl rfl rfl ?_; intro w1 hP hb1 hz1; have HF1 := Lib.hid hP; have HD1 := Lib.hid (HD0.out.keep hb1); have HB1 := Lib.hid (HB0.out.trans (hb1.mono HB0.out.size)); obtain ⟨c0, c1, c2, c3, c4, c5⟩ := hP.all6; obtain ⟨a0, a1, a2, a3, a4⟩ := HD1.out.all5; clear hP hb1 HD0 HB0))
    go_ret
    exact ⟨by rw [E.out]; rfl, HB1.out⟩
  by_cases q3 : (d.pages.length : Int) ≤ pg
  · have E : Hid (okFault d ⟨kd, at', pg, tg, bt, mk⟩ = false) := Lib.hid (okFault_false (by intro hh; simp only at hh; omega))
    have e0 : decide (at' ≤ d.writes) = false := decide_eq_false q0
    have e1 : decide ((1099511627776 : Int) < at') = false := decide_eq_false q1
    have e2 : decide (pg < 0) = false := decide_eq_false q2
    have e3 : decide ((d.pages.length : Int) ≤ pg) = true := decide_eq_true q3
    go_enter Try.func52, Try.ntmps52
    go_wp2_with (first
      | (refine wp_boxW (dvals (.slice sp d.pages.length cp) d.writes (.slice su d.unr.length cu) d.dead (.slice sf d.faults.length cf)) _ rfl rfl rfl ?_; intro w0 hP hb0 hz0; have HB0 := Lib.hid hb0; have HD0 := Lib.hid hP; clear hP hb0)
      | (refine wp_boxW (Flt.vals ⟨kd, at', pg, tg, bt, mk⟩) _ rfl rfl rfl ?_; intro w1 hP hb1 hz1; have HF1 := Lib.hid hP; have HD1 := Lib.hid (HD0.out.keep hb1); have HB1 := Lib.hid (HB0.out.trans (hb1.mono HB0.out.size)); obtain ⟨c0, c1, c2, c3, c4, c5⟩ := hP.all6; obtain ⟨a0, a1, a2, a3, a4⟩ := HD1.out.all5; clear hP hb1 HD0 HB0))
    go_ret
    exact ⟨by rw [E.out]; rfl, HB1.out⟩
  by_cases q4 : tg < 0
  · have E : Hid (okFault d ⟨kd, at', pg, tg, bt, mk⟩ = false) := Lib.hid (okFault_false (by intro hh; simp only at hh; omega))
    have e0 : decide (at' ≤ d.writes) = false := decide_eq_false q0
    have e1 : decide ((1099511627776 : Int) < at') = false := decide_eq_false q1
    have e2 : decide (pg < 0) = false := decide_eq_false q2
    have e3 : decide ((d.pages.length : Int) ≤ pg) = false := decide_eq_false q3
    have e4 : decide (tg < 0) = true := decide_eq_true q4
    go_enter Try.func52, Try.ntmps52
    go_wp2_with (first
      | (refine wp_boxW (dvals (.slice sp d.pages.length cp) d.writes (.slice su d.unr.length cu) d.dead (.slice sf d.faults.length cf)) _ rfl rfl rfl ?_; intro w0 hP hb0 hz0; have HB0 := Lib.hid hb0; have HD0 := Lib.hid hP; clear hP hb0)
      | (refine wp_boxW (Flt.vals ⟨kd, at', pg, tg, bt, mk⟩) _ rfl rfl rfl ?_; intro w1 hP hb1 hz1; have HF1 := Lib.hid hP; have HD1 := Lib.hid (HD0.out.keep hb1); have HB1 := Lib.hid (HB0.out.trans (hb1.mono HB0.out.size)); obtain ⟨c0, c1, c2, c3, c4, c5⟩ := hP.all6; obtain ⟨a0, a1, a2, a3, a4⟩ := HD1.out.all5; clear hP hb1 HD0 HB0))
    go_ret
    exact ⟨by rw [E.out]; rfl, HB1.out⟩
  by_cases q5 : (d.pages.length : Int) ≤ tg
  · have E : Hid (okFault d ⟨kd, at', pg, tg, bt, mk⟩ = false) := Lib.hid (okFault_false (by intro hh; simp only at hh; omega))
    have e0 : decide (at' ≤ d.writes) = false := decide_eq_false q0
    have e1 : decide ((1099511627776 : Int) < at') = false := decide_eq_false q1
    have e2 : decide (pg < 0) = false := decide_eq_false q2
    have e3 : decide ((d.pages.length : Int) ≤ pg) = false := decide_eq_false q3
    have e4 : decide (tg < 0) = false := decide_eq_false q4
    have e5 : decide ((d.pages.length : Int) ≤ tg) = true := decide_eq_true q5
    go_enter Try.func52, Try.ntmps52
    go_wp2_with (first
      | (refine wp_boxW (dvals (.slice sp d.pages.length cp) d.writes (.slice su d.unr.length cu) d.dead (.slice sf d.faults.length cf)) _ rfl rfl rfl ?_; intro w0 hP hb0 hz0; have HB0 := Lib.hid hb0; have HD0 := Lib.hid hP; clear hP hb0)
      | (refine wp_boxW (Flt.vals ⟨kd, at', pg, tg, bt, mk⟩) _ rfl rfl rfl ?_; intro w1 hP hb1 hz1; have HF1 := Lib.hid hP; have HD1 := Lib.hid (HD0.out.keep hb1); have HB1 := Lib.hid (HB0.out.trans (hb1.mono HB0.out.size)); obtain ⟨c0, c1, c2, c3, c4, c5⟩ := hP.all6; obtain ⟨a0, a1, a2, a3, a4⟩ := HD1.out.all5; clear hP hb1 HD0 HB0))
    go_ret
    exact ⟨by rw [E.out]; rfl, HB1.out⟩
  by_cases q6 : bt < 0
  · have E : Hid (okFault d ⟨kd, at', pg, tg, bt, mk⟩ = false) := Lib.hid (okFault_false (by intro hh; simp only at hh; omega))
    have e0 : decide (at' ≤ d.writes) = false := decide_eq_false q0
    have e1 : decide ((1099511627776 : Int) < at') = false := decide_eq_false q1
    have e2 : decide (pg < 0) = false := decide_eq_false q2
    have e3 : decide ((d.pages.length : Int) ≤ pg) = false := decide_eq_false q3
    have e4 : decide (tg < 0) = false := decide_eq_false q4
    have e5 : decide ((d.pages.length : Int) ≤ tg) = false := decide_eq_false q5
    have e6 : decide (bt < 0) = true := decide_eq_true q6
    go_enter Try.func52, Try.ntmps52
    go_wp2_with (first
      | (refine wp_boxW (dvals (.slice sp d.pages.length cp) d.writes (.slice su d.unr.length cu) d.dead (.slice sf d.faults.length cf)) _ rfl rfl rfl ?_; intro w0 hP hb0 hz0; have HB0 := Lib.hid hb0; have HD0 := Lib.hid hP; clear hP hb0)
      | (refine wp_boxW (Flt.vals ⟨kd, at', pg, tg, bt, mk⟩) _ rfl rfl rfl ?_; intro w1 hP hb1 hz1; have HF1 := Lib.hid hP; have HD1 := Lib.hid (HD0.out.keep hb1); have HB1 := Lib.hid (HB0.out.trans (hb1.mono HB0.out.size)); obtain ⟨c0, c1, c2, c3, c4, c5⟩ := hP.all6; obtain ⟨a0, a1, a2, a3, a4⟩ := HD1.out.all5; clear hP hb1 HD0 HB0))
    go_ret
    exact ⟨by rw [E.out]; rfl, HB1.out⟩
  by_cases q7 : (256 : Int) ≤ bt
  · have E : Hid (okFault d ⟨kd, at', pg, tg, bt, mk⟩ = false) := Lib.hid (okFault_false (by intro hh; simp only at hh; omega))
    have e0 : decide (at' ≤ d.writes) = false := decide_eq_false q0
    have e1 : decide ((1099511627776 : Int) < at') = false := decide_eq_false q1
    have e2 : decide (pg < 0) = false := decide_eq_false q2
    have e3 : decide ((d.pages.length : Int) ≤ pg) = false := decide_eq_false q3
    have e4 : decide (tg < 0) = false := decide_eq_false q4
    have e5 : decide ((d.pages.length : Int) ≤ tg) = false := decide_eq_false q5
    have e6 : decide (bt < 0) = false := decide_eq_false q6
    have e7 : decide ((256 : Int) ≤ bt) = true := decide_eq_true q7
    go_enter Try.func52, Try.ntmps52
    go_wp2_with (first
      | (refine wp_boxW (dvals (.slice sp d.pages.length cp) d.writes (.slice su d.unr.length cu) d.dead (.slice sf d.faults.length cf)) _ rfl rfl rfl ?_; intro w0 hP hb0 hz0; have HB0 := Lib.hid hb0; have HD0 := Lib.hid hP; clear hP hb0)
      | (refine wp_boxW (Flt.vals ⟨kd, at', pg, tg, bt, mk⟩) _ rfl rfl rfl ?_; intro w1 hP hb1 hz1; have HF1 := Lib.hid hP; have HD1 := Lib.hid (HD0.out.keep hb1); have HB1 := Lib.hid (HB0.out.trans (hb1.mono HB0.out.size)); obtain ⟨c0, c1, c2, c3, c4, c5⟩ := hP.all6; obtain ⟨a0, a1, a2, a3, a4⟩ := HD1.out.all5; clear hP hb1 HD0 HB0))
    go_ret
    exact ⟨by rw [E.out]; rfl, HB1.out⟩
  exact absurd ⟨⟨by omega, by omega⟩, ⟨by omega, by omega⟩, ⟨by omega, by omega⟩, by omega, by omega⟩ hr
set_option maxHeartbeats 4000000 in
set_option maxRecDepth 4000 in
theorem refFault_1 (d : Dev) (sp su sf : Option Addr) (cp cu cf : Nat) (at' pg tg bt mk : Int) (w : World) (hr : (d.writes < at' ∧ at' ≤ 1099511627776) ∧ (0 ≤ pg ∧ pg < (d.pages.length : Int)) ∧ (0 ≤ tg ∧ tg < (d.pages.length : Int)) ∧ 0 ≤ bt ∧ bt < 256) :
    Calls Try.prog 52 #[.agg (dvals (.slice sp d.pages.length cp) d.writes (.slice su d.unr.length cu) d.dead (.slice sf d.faults.length cf)).toArray, .agg (Flt.vals ⟨1, at', pg, tg, bt, mk⟩).toArray] w fun e w' => e = .returned (.bool (okFault d ⟨1, at', pg, tg, bt, mk⟩)) ∧ Below w.heap.size w w' := by
  have E := Lib.hid (okFault_is (d := d) (f := ⟨1, at', pg, tg, bt, mk⟩) hr)
  have e0 : decide (at' ≤ d.writes) = false := decide_eq_false (by omega)
  have e1 : decide ((1099511627776 : Int) < at') = false := decide_eq_false (by omega)
  have e2 : decide (pg < 0) = false := decide_eq_false (by omega)
  have e3 : decide ((d.pages.length : Int) ≤ pg) = false := decide_eq_false (by omega)
  have e4 : decide (tg < 0) = false := decide_eq_false (by omega)
  have e5 : decide ((d.pages.length : Int) ≤ tg) = false := decide_eq_false (by omega)
  have e6 : decide (bt < 0) = false := decide_eq_false (by omega)
  have e7 : decide ((256 : Int) ≤ bt) = false := decide_eq_false (by omega)
  clear hr
  have bf := build_flt2
  have fe := flt_eql ⟨1, at', pg, tg, bt, mk⟩ ⟨1, at', 0, 0, 0, 0⟩
  have EK : Hid (okKind ⟨1, at', pg, tg, bt, mk⟩ = sameF ⟨1, at', pg, tg, bt, mk⟩ ⟨1, at', 0, 0, 0, 0⟩) := Lib.hid (by simp [okKind, usedF])
  go_enter Try.func52, Try.ntmps52
  go_wp2_with (first
    | (refine wp_boxW (dvals (.slice sp d.pages.length cp) d.writes (.slice su d.unr.length cu) d.dead (.slice sf d.faults.length cf)) _ rfl rfl rfl ?_; intro w0 hP hb0 hz0; have HB0 := Lib.hid hb0; have HD0 := Lib.hid hP; clear hP hb0)
    | (refine wp_boxW (Flt.vals ⟨1, at', pg, tg, bt, mk⟩) _ rfl rfl rfl ?_; intro w1 hP hb1 hz1; have HF1 := Lib.hid hP; have HD1 := Lib.hid (HD0.out.keep hb1); have HB1 := Lib.hid (HB0.out.trans (hb1.mono HB0.out.size)); obtain ⟨c0, c1, c2, c3, c4, c5⟩ := hP.all6; obtain ⟨a0, a1, a2, a3, a4⟩ := HD1.out.all5; clear hP hb1 HD0 HB0)
    | (refine wp_newW flt0.vals _ zero_flt rfl rfl ?_; intro w2 hP hb _; have N2 := Lib.hid hP; have M2 := Lib.hid hb; clear hP hb)
    | (refine wp_storeFltW ⟨1, at', 0, 0, 0, 0⟩ N2.out rfl rfl rfl rfl rfl ?_; intro w3 hP hS; have N3 := Lib.hid hP; have HB3 := Lib.hid (HB1.out.trans ((hS.below M2.out (Nat.le_refl _)).mono HB1.out.size)); have HF3 := Lib.hid (hS.row (HF1.out.keep M2.out) (Nat.ne_of_gt HF1.out.lt)); have hne : Hid (w1.heap.size ≠ w0.heap.size ∧ w.heap.size ≤ w1.heap.size) := Lib.hid ⟨Nat.ne_of_gt HF1.out.lt, HB1.out.size⟩; clear c0 c1 c2 c3 c4 c5 a0 a1 a2 a3 a4; obtain ⟨c0, c1, c2, c3, c4, c5⟩ := HF3.out.all6; clear hP hS N2 M2 HF1 HD1 HB1)
    | (refine wp_loadFlt ⟨1, at', pg, tg, bt, mk⟩ HF3.out rfl rfl rfl ?_)
    | (refine wp_loadFlt ⟨1, at', 0, 0, 0, 0⟩ N3.out rfl rfl rfl ?_))
  go_ret
  exact ⟨by rw [E.out, EK.out]; rfl, HB3.out⟩
set_option maxHeartbeats 4000000 in
set_option maxRecDepth 4000 in
theorem refFault_6 (d : Dev) (sp su sf : Option Addr) (cp cu cf : Nat) (at' pg tg bt mk : Int) (w : World) (hr : (d.writes < at' ∧ at' ≤ 1099511627776) ∧ (0 ≤ pg ∧ pg < (d.pages.length : Int)) ∧ (0 ≤ tg ∧ tg < (d.pages.length : Int)) ∧ 0 ≤ bt ∧ bt < 256) :
    Calls Try.prog 52 #[.agg (dvals (.slice sp d.pages.length cp) d.writes (.slice su d.unr.length cu) d.dead (.slice sf d.faults.length cf)).toArray, .agg (Flt.vals ⟨6, at', pg, tg, bt, mk⟩).toArray] w fun e w' => e = .returned (.bool (okFault d ⟨6, at', pg, tg, bt, mk⟩)) ∧ Below w.heap.size w w' := by
  have E := Lib.hid (okFault_is (d := d) (f := ⟨6, at', pg, tg, bt, mk⟩) hr)
  have e0 : decide (at' ≤ d.writes) = false := decide_eq_false (by omega)
  have e1 : decide ((1099511627776 : Int) < at') = false := decide_eq_false (by omega)
  have e2 : decide (pg < 0) = false := decide_eq_false (by omega)
  have e3 : decide ((d.pages.length : Int) ≤ pg) = false := decide_eq_false (by omega)
  have e4 : decide (tg < 0) = false := decide_eq_false (by omega)
  have e5 : decide ((d.pages.length : Int) ≤ tg) = false := decide_eq_false (by omega)
  have e6 : decide (bt < 0) = false := decide_eq_false (by omega)
  have e7 : decide ((256 : Int) ≤ bt) = false := decide_eq_false (by omega)
  clear hr
  have bf := build_flt2
  have fe := flt_eql ⟨6, at', pg, tg, bt, mk⟩ ⟨6, at', 0, 0, 0, 0⟩
  have EK : Hid (okKind ⟨6, at', pg, tg, bt, mk⟩ = sameF ⟨6, at', pg, tg, bt, mk⟩ ⟨6, at', 0, 0, 0, 0⟩) := Lib.hid (by simp [okKind, usedF])
  go_enter Try.func52, Try.ntmps52
  go_wp2_with (first
    | (refine wp_boxW (dvals (.slice sp d.pages.length cp) d.writes (.slice su d.unr.length cu) d.dead (.slice sf d.faults.length cf)) _ rfl rfl rfl ?_; intro w0 hP hb0 hz0; have HB0 := Lib.hid hb0; have HD0 := Lib.hid hP; clear hP hb0)
    | (refine wp_boxW (Flt.vals ⟨6, at', pg, tg, bt, mk⟩) _ rfl rfl rfl ?_; intro w1 hP hb1 hz1; have HF1 := Lib.hid hP; have HD1 := Lib.hid (HD0.out.keep hb1); have HB1 := Lib.hid (HB0.out.trans (hb1.mono HB0.out.size)); obtain ⟨c0, c1, c2, c3, c4, c5⟩ := hP.all6; obtain ⟨a0, a1, a2, a3, a4⟩ := HD1.out.all5; clear hP hb1 HD0 HB0)
    | (refine wp_newW flt0.vals _ zero_flt rfl rfl ?_; intro w2 hP hb _; have N2 := Lib.hid hP; have M2 := Lib.hid hb; clear hP hb)
    | (refine wp_storeFltW ⟨6, at', 0, 0, 0, 0⟩ N2.out rfl rfl rfl rfl rfl ?_; intro w3 hP hS; have N3 := Lib.hid hP; have HB3 := Lib.hid (HB1.out.trans ((hS.below M2.out (Nat.le_refl _)).mono HB1.out.size)); have HF3 := Lib.hid (hS.row (HF1.out.keep M2.out) (Nat.ne_of_gt HF1.out.lt)); have hne : Hid (w1.heap.size ≠ w0.heap.size ∧ w.heap.size ≤ w1.heap.size) := Lib.hid ⟨Nat.ne_of_gt HF1.out.lt, HB1.out.size⟩; clear c0 c1 c2 c3 c4 c5 a0 a1 a2 a3 a4; obtain ⟨c0, c1, c2, c3, c4, c5⟩ := HF3.out.all6; clear hP hS N2 M2 HF1 HD1 HB1)
    | (refine wp_loadFlt ⟨6, at', pg, tg, bt, mk⟩ HF3.out rfl rfl rfl ?_)
    | (refine wp_loadFlt ⟨6, at', 0, 0, 0, 0⟩ N3.out rfl rfl rfl ?_))
  go_ret
  exact ⟨by rw [E.out, EK.out]; rfl, HB3.out⟩
set_option maxHeartbeats 4000000 in
set_option maxRecDepth 4000 in
theorem refFault_2 (d : Dev) (sp su sf : Option Addr) (cp cu cf : Nat) (at' pg tg bt mk : Int) (w : World) (hr : (d.writes < at' ∧ at' ≤ 1099511627776) ∧ (0 ≤ pg ∧ pg < (d.pages.length : Int)) ∧ (0 ≤ tg ∧ tg < (d.pages.length : Int)) ∧ 0 ≤ bt ∧ bt < 256) :
    Calls Try.prog 52 #[.agg (dvals (.slice sp d.pages.length cp) d.writes (.slice su d.unr.length cu) d.dead (.slice sf d.faults.length cf)).toArray, .agg (Flt.vals ⟨2, at', pg, tg, bt, mk⟩).toArray] w fun e w' => e = .returned (.bool (okFault d ⟨2, at', pg, tg, bt, mk⟩)) ∧ Below w.heap.size w w' := by
  have E := Lib.hid (okFault_is (d := d) (f := ⟨2, at', pg, tg, bt, mk⟩) hr)
  have e0 : decide (at' ≤ d.writes) = false := decide_eq_false (by omega)
  have e1 : decide ((1099511627776 : Int) < at') = false := decide_eq_false (by omega)
  have e2 : decide (pg < 0) = false := decide_eq_false (by omega)
  have e3 : decide ((d.pages.length : Int) ≤ pg) = false := decide_eq_false (by omega)
  have e4 : decide (tg < 0) = false := decide_eq_false (by omega)
  have e5 : decide ((d.pages.length : Int) ≤ tg) = false := decide_eq_false (by omega)
  have e6 : decide (bt < 0) = false := decide_eq_false (by omega)
  have e7 : decide ((256 : Int) ≤ bt) = false := decide_eq_false (by omega)
  clear hr
  have bf := build_flt2
  have fe := flt_eql ⟨2, at', pg, tg, bt, mk⟩ ⟨2, at', 0, tg, 0, 0⟩
  have EK : Hid (okKind ⟨2, at', pg, tg, bt, mk⟩ = sameF ⟨2, at', pg, tg, bt, mk⟩ ⟨2, at', 0, tg, 0, 0⟩) := Lib.hid (by simp [okKind, usedF])
  go_enter Try.func52, Try.ntmps52
  go_wp2_with (first
    | (refine wp_boxW (dvals (.slice sp d.pages.length cp) d.writes (.slice su d.unr.length cu) d.dead (.slice sf d.faults.length cf)) _ rfl rfl rfl ?_; intro w0 hP hb0 hz0; have HB0 := Lib.hid hb0; have HD0 := Lib.hid hP; clear hP hb0)
    | (refine wp_boxW (Flt.vals ⟨2, at', pg, tg, bt, mk⟩) _ rfl rfl rfl ?_; intro w1 hP hb1 hz1; have HF1 := Lib.hid hP; have HD1 := Lib.hid (HD0.out.keep hb1); have HB1 := Lib.hid (HB0.out.trans (hb1.mono HB0.out.size)); obtain ⟨c0, c1, c2, c3, c4, c5⟩ := hP.all6; obtain ⟨a0, a1, a2, a3, a4⟩ := HD1.out.all5; clear hP hb1 HD0 HB0)
    | (refine wp_newW flt0.vals _ zero_flt rfl rfl ?_; intro w2 hP hb _; have N2 := Lib.hid hP; have M2 := Lib.hid hb; clear hP hb)
    | (refine wp_storeFltW ⟨2, at', 0, 0, 0, 0⟩ N2.out rfl rfl rfl rfl rfl ?_; intro w3 hP hS; have N3 := Lib.hid hP; have HB3 := Lib.hid (HB1.out.trans ((hS.below M2.out (Nat.le_refl _)).mono HB1.out.size)); have HF3 := Lib.hid (hS.row (HF1.out.keep M2.out) (Nat.ne_of_gt HF1.out.lt)); have hne : Hid (w1.heap.size ≠ w0.heap.size ∧ w.heap.size ≤ w1.heap.size) := Lib.hid ⟨Nat.ne_of_gt HF1.out.lt, HB1.out.size⟩; clear c0 c1 c2 c3 c4 c5 a0 a1 a2 a3 a4; obtain ⟨c0, c1, c2, c3, c4, c5⟩ := HF3.out.all6; clear hP hS N2 M2 HF1 HD1 HB1)
    | (refine wp_storeFieldW (i := 3) 3 (.int .i64 tg) rfl rfl info_int1 N3.out (show 3 < 6 by decide) rfl rfl rfl rfl ?_; intro w4 hP hS; have N4 : Hid (RowAt w1.heap.size (Flt.vals ⟨2, at', 0, tg, 0, 0⟩) w4) := Lib.hid hP; have HB4 := Lib.hid (hS.below HB3.out hne.out.2); have HF4 := Lib.hid (hS.row HF3.out hne.out.1); clear c0 c1 c2 c3 c4 c5; obtain ⟨c0, c1, c2, c3, c4, c5⟩ := HF4.out.all6; clear hP hS N3 HB3 HF3)
    | (refine wp_loadFlt ⟨2, at', pg, tg, bt, mk⟩ HF4.out rfl rfl rfl ?_)
    | (refine wp_loadFlt ⟨2, at', 0, tg, 0, 0⟩ N4.out rfl rfl rfl ?_))
  go_ret
  exact ⟨by rw [E.out, EK.out]; rfl, HB4.out⟩
set_option maxHeartbeats 4000000 in
set_option maxRecDepth 4000 in
theorem refFault_3 (d : Dev) (sp su sf : Option Addr) (cp cu cf : Nat) (at' pg tg bt mk : Int) (w : World) (hr : (d.writes < at' ∧ at' ≤ 1099511627776) ∧ (0 ≤ pg ∧ pg < (d.pages.length : Int)) ∧ (0 ≤ tg ∧ tg < (d.pages.length : Int)) ∧ 0 ≤ bt ∧ bt < 256) :
    Calls Try.prog 52 #[.agg (dvals (.slice sp d.pages.length cp) d.writes (.slice su d.unr.length cu) d.dead (.slice sf d.faults.length cf)).toArray, .agg (Flt.vals ⟨3, at', pg, tg, bt, mk⟩).toArray] w fun e w' => e = .returned (.bool (okFault d ⟨3, at', pg, tg, bt, mk⟩)) ∧ Below w.heap.size w w' := by
  have E := Lib.hid (okFault_is (d := d) (f := ⟨3, at', pg, tg, bt, mk⟩) hr)
  have e0 : decide (at' ≤ d.writes) = false := decide_eq_false (by omega)
  have e1 : decide ((1099511627776 : Int) < at') = false := decide_eq_false (by omega)
  have e2 : decide (pg < 0) = false := decide_eq_false (by omega)
  have e3 : decide ((d.pages.length : Int) ≤ pg) = false := decide_eq_false (by omega)
  have e4 : decide (tg < 0) = false := decide_eq_false (by omega)
  have e5 : decide ((d.pages.length : Int) ≤ tg) = false := decide_eq_false (by omega)
  have e6 : decide (bt < 0) = false := decide_eq_false (by omega)
  have e7 : decide ((256 : Int) ≤ bt) = false := decide_eq_false (by omega)
  clear hr
  have bf := build_flt2
  have fe := flt_eql ⟨3, at', pg, tg, bt, mk⟩ ⟨3, at', 0, 0, bt, 0⟩
  have EK : Hid (okKind ⟨3, at', pg, tg, bt, mk⟩ = sameF ⟨3, at', pg, tg, bt, mk⟩ ⟨3, at', 0, 0, bt, 0⟩) := Lib.hid (by simp [okKind, usedF])
  go_enter Try.func52, Try.ntmps52
  go_wp2_with (first
    | (refine wp_boxW (dvals (.slice sp d.pages.length cp) d.writes (.slice su d.unr.length cu) d.dead (.slice sf d.faults.length cf)) _ rfl rfl rfl ?_; intro w0 hP hb0 hz0; have HB0 := Lib.hid hb0; have HD0 := Lib.hid hP; clear hP hb0)
    | (refine wp_boxW (Flt.vals ⟨3, at', pg, tg, bt, mk⟩) _ rfl rfl rfl ?_; intro w1 hP hb1 hz1; have HF1 := Lib.hid hP; have HD1 := Lib.hid (HD0.out.keep hb1); have HB1 := Lib.hid (HB0.out.trans (hb1.mono HB0.out.size)); obtain ⟨c0, c1, c2, c3, c4, c5⟩ := hP.all6; obtain ⟨a0, a1, a2, a3, a4⟩ := HD1.out.all5; clear hP hb1 HD0 HB0)
    | (refine wp_newW flt0.vals _ zero_flt rfl rfl ?_; intro w2 hP hb _; have N2 := Lib.hid hP; have M2 := Lib.hid hb; clear hP hb)
    | (refine wp_storeFltW ⟨3, at', 0, 0, 0, 0⟩ N2.out rfl rfl rfl rfl rfl ?_; intro w3 hP hS; have N3 := Lib.hid hP; have HB3 := Lib.hid (HB1.out.trans ((hS.below M2.out (Nat.le_refl _)).mono HB1.out.size)); have HF3 := Lib.hid (hS.row (HF1.out.keep M2.out) (Nat.ne_of_gt HF1.out.lt)); have hne : Hid (w1.heap.size ≠ w0.heap.size ∧ w.heap.size ≤ w1.heap.size) := Lib.hid ⟨Nat.ne_of_gt HF1.out.lt, HB1.out.size⟩; clear c0 c1 c2 c3 c4 c5 a0 a1 a2 a3 a4; obtain ⟨c0, c1, c2, c3, c4, c5⟩ := HF3.out.all6; clear hP hS N2 M2 HF1 HD1 HB1)
    | (refine wp_storeFieldW (i := 4) 3 (.int .i64 bt) rfl rfl info_int1 N3.out (show 4 < 6 by decide) rfl rfl rfl rfl ?_; intro w4 hP hS; have N4 : Hid (RowAt w1.heap.size (Flt.vals ⟨3, at', 0, 0, bt, 0⟩) w4) := Lib.hid hP; have HB4 := Lib.hid (hS.below HB3.out hne.out.2); have HF4 := Lib.hid (hS.row HF3.out hne.out.1); clear c0 c1 c2 c3 c4 c5; obtain ⟨c0, c1, c2, c3, c4, c5⟩ := HF4.out.all6; clear hP hS N3 HB3 HF3)
    | (refine wp_loadFlt ⟨3, at', pg, tg, bt, mk⟩ HF4.out rfl rfl rfl ?_)
    | (refine wp_loadFlt ⟨3, at', 0, 0, bt, 0⟩ N4.out rfl rfl rfl ?_))
  go_ret
  exact ⟨by rw [E.out, EK.out]; rfl, HB4.out⟩
set_option maxHeartbeats 4000000 in
set_option maxRecDepth 4000 in
theorem refFault_5 (d : Dev) (sp su sf : Option Addr) (cp cu cf : Nat) (at' pg tg bt mk : Int) (w : World) (hr : (d.writes < at' ∧ at' ≤ 1099511627776) ∧ (0 ≤ pg ∧ pg < (d.pages.length : Int)) ∧ (0 ≤ tg ∧ tg < (d.pages.length : Int)) ∧ 0 ≤ bt ∧ bt < 256) :
    Calls Try.prog 52 #[.agg (dvals (.slice sp d.pages.length cp) d.writes (.slice su d.unr.length cu) d.dead (.slice sf d.faults.length cf)).toArray, .agg (Flt.vals ⟨5, at', pg, tg, bt, mk⟩).toArray] w fun e w' => e = .returned (.bool (okFault d ⟨5, at', pg, tg, bt, mk⟩)) ∧ Below w.heap.size w w' := by
  have E := Lib.hid (okFault_is (d := d) (f := ⟨5, at', pg, tg, bt, mk⟩) hr)
  have e0 : decide (at' ≤ d.writes) = false := decide_eq_false (by omega)
  have e1 : decide ((1099511627776 : Int) < at') = false := decide_eq_false (by omega)
  have e2 : decide (pg < 0) = false := decide_eq_false (by omega)
  have e3 : decide ((d.pages.length : Int) ≤ pg) = false := decide_eq_false (by omega)
  have e4 : decide (tg < 0) = false := decide_eq_false (by omega)
  have e5 : decide ((d.pages.length : Int) ≤ tg) = false := decide_eq_false (by omega)
  have e6 : decide (bt < 0) = false := decide_eq_false (by omega)
  have e7 : decide ((256 : Int) ≤ bt) = false := decide_eq_false (by omega)
  clear hr
  have bf := build_flt2
  have fe := flt_eql ⟨5, at', pg, tg, bt, mk⟩ ⟨5, at', pg, 0, 0, 0⟩
  have EK : Hid (okKind ⟨5, at', pg, tg, bt, mk⟩ = sameF ⟨5, at', pg, tg, bt, mk⟩ ⟨5, at', pg, 0, 0, 0⟩) := Lib.hid (by simp [okKind, usedF])
  go_enter Try.func52, Try.ntmps52
  go_wp2_with (first
    | (refine wp_boxW (dvals (.slice sp d.pages.length cp) d.writes (.slice su d.unr.length cu) d.dead (.slice sf d.faults.length cf)) _ rfl rfl rfl ?_; intro w0 hP hb0 hz0; have HB0 := Lib.hid hb0; have HD0 := Lib.hid hP; clear hP hb0)
    | (refine wp_boxW (Flt.vals ⟨5, at', pg, tg, bt, mk⟩) _ rfl rfl rfl ?_; intro w1 hP hb1 hz1; have HF1 := Lib.hid hP; have HD1 := Lib.hid (HD0.out.keep hb1); have HB1 := Lib.hid (HB0.out.trans (hb1.mono HB0.out.size)); obtain ⟨c0, c1, c2, c3, c4, c5⟩ := hP.all6; obtain ⟨a0, a1, a2, a3, a4⟩ := HD1.out.all5; clear hP hb1 HD0 HB0)
    | (refine wp_newW flt0.vals _ zero_flt rfl rfl ?_; intro w2 hP hb _; have N2 := Lib.hid hP; have M2 := Lib.hid hb; clear hP hb)
    | (refine wp_storeFltW ⟨5, at', 0, 0, 0, 0⟩ N2.out rfl rfl rfl rfl rfl ?_; intro w3 hP hS; have N3 := Lib.hid hP; have HB3 := Lib.hid (HB1.out.trans ((hS.below M2.out (Nat.le_refl _)).mono HB1.out.size)); have HF3 := Lib.hid (hS.row (HF1.out.keep M2.out) (Nat.ne_of_gt HF1.out.lt)); have hne : Hid (w1.heap.size ≠ w0.heap.size ∧ w.heap.size ≤ w1.heap.size) := Lib.hid ⟨Nat.ne_of_gt HF1.out.lt, HB1.out.size⟩; clear c0 c1 c2 c3 c4 c5 a0 a1 a2 a3 a4; obtain ⟨c0, c1, c2, c3, c4, c5⟩ := HF3.out.all6; clear hP hS N2 M2 HF1 HD1 HB1)
    | (refine wp_storeFieldW (i := 2) 3 (.int .i64 pg) rfl rfl info_int1 N3.out (show 2 < 6 by decide) rfl rfl rfl rfl ?_; intro w4 hP hS; have N4 : Hid (RowAt w1.heap.size (Flt.vals ⟨5, at', pg, 0, 0, 0⟩) w4) := Lib.hid hP; have HB4 := Lib.hid (hS.below HB3.out hne.out.2); have HF4 := Lib.hid (hS.row HF3.out hne.out.1); clear c0 c1 c2 c3 c4 c5; obtain ⟨c0, c1, c2, c3, c4, c5⟩ := HF4.out.all6; clear hP hS N3 HB3 HF3)
    | (refine wp_loadFlt ⟨5, at', pg, tg, bt, mk⟩ HF4.out rfl rfl rfl ?_)
    | (refine wp_loadFlt ⟨5, at', pg, 0, 0, 0⟩ N4.out rfl rfl rfl ?_))
  go_ret
  exact ⟨by rw [E.out, EK.out]; rfl, HB4.out⟩
set_option maxHeartbeats 4000000 in
set_option maxRecDepth 4000 in
theorem refFault_4 (d : Dev) (sp su sf : Option Addr) (cp cu cf : Nat) (at' pg tg bt mk : Int) (w : World) (hr : (d.writes < at' ∧ at' ≤ 1099511627776) ∧ (0 ≤ pg ∧ pg < (d.pages.length : Int)) ∧ (0 ≤ tg ∧ tg < (d.pages.length : Int)) ∧ 0 ≤ bt ∧ bt < 256) :
    Calls Try.prog 52 #[.agg (dvals (.slice sp d.pages.length cp) d.writes (.slice su d.unr.length cu) d.dead (.slice sf d.faults.length cf)).toArray, .agg (Flt.vals ⟨4, at', pg, tg, bt, mk⟩).toArray] w fun e w' => e = .returned (.bool (okFault d ⟨4, at', pg, tg, bt, mk⟩)) ∧ Below w.heap.size w w' := by
  have E := Lib.hid (okFault_is (d := d) (f := ⟨4, at', pg, tg, bt, mk⟩) hr)
  have e0 : decide (at' ≤ d.writes) = false := decide_eq_false (by omega)
  have e1 : decide ((1099511627776 : Int) < at') = false := decide_eq_false (by omega)
  have e2 : decide (pg < 0) = false := decide_eq_false (by omega)
  have e3 : decide ((d.pages.length : Int) ≤ pg) = false := decide_eq_false (by omega)
  have e4 : decide (tg < 0) = false := decide_eq_false (by omega)
  have e5 : decide ((d.pages.length : Int) ≤ tg) = false := decide_eq_false (by omega)
  have e6 : decide (bt < 0) = false := decide_eq_false (by omega)
  have e7 : decide ((256 : Int) ≤ bt) = false := decide_eq_false (by omega)
  clear hr
  have bf := build_flt2
  · have fe := flt_eql ⟨4, at', pg, tg, bt, mk⟩ ⟨4, at', pg, 0, bt, mk⟩
    go_enter Try.func52, Try.ntmps52
    go_upto_region 13 with (first
      | (refine wp_boxW (dvals (.slice sp d.pages.length cp) d.writes (.slice su d.unr.length cu) d.dead (.slice sf d.faults.length cf)) _ rfl rfl rfl ?_; intro w0 hP hb0 hz0; have HB0 := Lib.hid hb0; have HD0 := Lib.hid hP; clear hP hb0)
      | (refine wp_boxW (Flt.vals ⟨4, at', pg, tg, bt, mk⟩) _ rfl rfl rfl ?_; intro w1 hP hb1 hz1; have HF1 := Lib.hid hP; have HD1 := Lib.hid (HD0.out.keep hb1); have HB1 := Lib.hid (HB0.out.trans (hb1.mono HB0.out.size)); obtain ⟨c0, c1, c2, c3, c4, c5⟩ := hP.all6; obtain ⟨a0, a1, a2, a3, a4⟩ := HD1.out.all5; clear hP hb1 HD0 HB0)
      | (refine wp_newW flt0.vals _ zero_flt rfl rfl ?_; intro w2 hP hb _; have N2 := Lib.hid hP; have M2 := Lib.hid hb; clear hP hb)
      | (refine wp_storeFltW ⟨4, at', 0, 0, 0, 0⟩ N2.out rfl rfl rfl rfl rfl ?_; intro w3 hP hS; have N3 := Lib.hid hP; have HB3 := Lib.hid (HB1.out.trans ((hS.below M2.out (Nat.le_refl _)).mono HB1.out.size)); have HF3 := Lib.hid (hS.row (HF1.out.keep M2.out) (Nat.ne_of_gt HF1.out.lt)); have hne : Hid (w1.heap.size ≠ w0.heap.size ∧ w.heap.size ≤ w1.heap.size) := Lib.hid ⟨Nat.ne_of_gt HF1.out.lt, HB1.out.size⟩; clear c0 c1 c2 c3 c4 c5 a0 a1 a2 a3 a4; obtain ⟨c0, c1, c2, c3, c4, c5⟩ := HF3.out.all6; clear hP hS N2 M2 HF1 HD1 HB1))
    have S1 := N3.out.setAt 2 (show 2 < 6 by decide) (.int .i64 pg)
    have S2 := S1.1.setAt 4 (show 4 < 6 by decide) (.int .i64 bt)
    have S3 := S2.1.setAt 5 (show 5 < 6 by decide) (.int .u8 mk)
    have F1 := S1.2.row HF3.out hne.out.1
    have F2 := S2.2.row F1 hne.out.1
    have F3 := S3.2.row F2 hne.out.1
    have n2 := N3.out.cells 2 _ rfl
    have n4 := N3.out.cells 4 _ rfl
    have n5 := N3.out.cells 5 _ rfl
    have p2 := N3.out.free 2
    have p4 := N3.out.free 4
    have p5 := N3.out.free 5
    have m4 := S1.1.cells 4 _ rfl
    have m5 := S2.1.cells 5 _ rfl
    have x4 := F1.cells 4 _ rfl
    have x5 := F1.cells 5 _ rfl
    have y5 := F2.cells 5 _ rfl
    have FIN : Hid (RowAt w1.heap.size (Flt.vals ⟨4, at', pg, 0, bt, mk⟩) _ ∧ RowAt w0.heap.size (Flt.vals ⟨4, at', pg, tg, bt, mk⟩) _ ∧ Below w.heap.size w _) := Lib.hid ⟨S3.1.drew, F3.drew, (S3.2.below (S2.2.below (S1.2.below HB3.out hne.out.2) hne.out.2) hne.out.2).drew⟩
    clear S1 S2 S3 F1 F2 F3 N3 HF3 HB3
    apply wp_one
    · go_region
      all_goals exact ⟨rfl, rfl⟩
    · have N4 := Lib.hid FIN.out.1
      have HF4 := Lib.hid FIN.out.2.1
      have HB4 := Lib.hid FIN.out.2.2
      clear c0 c1 c2 c3 c4 c5 n2 n4 n5 p2 p4 p5 m4 m5 x4 x5 y5 FIN
      obtain ⟨c0, c1, c2, c3, c4, c5⟩ := HF4.out.all6
      by_cases hm : mk = 0
      · subst hm
        have EK : Hid (okKind ⟨4, at', pg, tg, bt, 0⟩ = false) := Lib.hid (by simp [okKind, usedF])
        clear fe
        go_wp2_with fail
        go_ret
        exact ⟨by rw [E.out, EK.out]; rfl, HB4.out⟩
      · have EK : Hid (okKind ⟨4, at', pg, tg, bt, mk⟩ = sameF ⟨4, at', pg, tg, bt, mk⟩ ⟨4, at', pg, 0, bt, mk⟩) := Lib.hid (by simp [okKind, usedF, hm])
        have z0 : (mk == 0) = false := by simpa using hm
        go_wp2_with (first
          | (refine wp_loadFlt ⟨4, at', pg, tg, bt, mk⟩ HF4.out rfl rfl rfl ?_)
          | (refine wp_loadFlt ⟨4, at', pg, 0, bt, mk⟩ N4.out rfl rfl rfl ?_))
        go_ret
        exact ⟨by rw [E.out, EK.out]; rfl, HB4.out⟩
set_option maxHeartbeats 4000000 in
set_option maxRecDepth 4000 in
theorem refFault_0 (d : Dev) (sp su sf : Option Addr) (cp cu cf : Nat) (kd at' pg tg bt mk : Int) (w : World) (hr : (d.writes < at' ∧ at' ≤ 1099511627776) ∧ (0 ≤ pg ∧ pg < (d.pages.length : Int)) ∧ (0 ≤ tg ∧ tg < (d.pages.length : Int)) ∧ 0 ≤ bt ∧ bt < 256) (k1 : kd ≠ 1) (k2 : kd ≠ 2) (k3 : kd ≠ 3) (k4 : kd ≠ 4) (k5 : kd ≠ 5) (k6 : kd ≠ 6) :
    Calls Try.prog 52 #[.agg (dvals (.slice sp d.pages.length cp) d.writes (.slice su d.unr.length cu) d.dead (.slice sf d.faults.length cf)).toArray, .agg (Flt.vals ⟨kd, at', pg, tg, bt, mk⟩).toArray] w fun e w' => e = .returned (.bool (okFault d ⟨kd, at', pg, tg, bt, mk⟩)) ∧ Below w.heap.size w w' := by
  have E := Lib.hid (okFault_is (d := d) (f := ⟨kd, at', pg, tg, bt, mk⟩) hr)
  have e0 : decide (at' ≤ d.writes) = false := decide_eq_false (by omega)
  have e1 : decide ((1099511627776 : Int) < at') = false := decide_eq_false (by omega)
  have e2 : decide (pg < 0) = false := decide_eq_false (by omega)
  have e3 : decide ((d.pages.length : Int) ≤ pg) = false := decide_eq_false (by omega)
  have e4 : decide (tg < 0) = false := decide_eq_false (by omega)
  have e5 : decide ((d.pages.length : Int) ≤ tg) = false := decide_eq_false (by omega)
  have e6 : decide (bt < 0) = false := decide_eq_false (by omega)
  have e7 : decide ((256 : Int) ≤ bt) = false := decide_eq_false (by omega)
  clear hr
  have bf := build_flt2
  have f1 : (kd == 1) = false := by simpa using k1
  have f2 : (kd == 2) = false := by simpa using k2
  have f3 : (kd == 3) = false := by simpa using k3
  have f4 : (kd == 4) = false := by simpa using k4
  have f5 : (kd == 5) = false := by simpa using k5
  have f6 : (kd == 6) = false := by simpa using k6
  have EK : Hid (okKind ⟨kd, at', pg, tg, bt, mk⟩ = false) := Lib.hid (by
    unfold okKind
    rw [decide_eq_false (by simp only; omega)]
    rfl)
  go_enter Try.func52, Try.ntmps52
  go_wp2_with (first
    | (refine wp_boxW (dvals (.slice sp d.pages.length cp) d.writes (.slice su d.unr.length cu) d.dead (.slice sf d.faults.length cf)) _ rfl rfl rfl ?_; intro w0 hP hb0 hz0; have HB0 := Lib.hid hb0; have HD0 := Lib.hid hP; clear hP hb0)
    | (refine wp_boxW (Flt.vals ⟨kd, at', pg, tg, bt, mk⟩) _ rfl rfl rfl ?_; intro w1 hP hb1 hz1; have HF1 := Lib.hid hP; have HD1 := Lib.hid (HD0.out.keep hb1); have HB1 := Lib.hid (HB0.out.trans (hb1.mono HB0.out.size)); obtain ⟨c0, c1, c2, c3, c4, c5⟩ := hP.all6; obtain ⟨a0, a1, a2, a3, a4⟩ := HD1.out.all5; clear hP hb1 HD0 HB0)
    | (refine wp_newW flt0.vals _ zero_flt rfl rfl ?_; intro w2 hP hb _; have N2 := Lib.hid hP; have M2 := Lib.hid hb; clear hP hb)
    | (refine wp_storeFltW ⟨kd, at', 0, 0, 0, 0⟩ N2.out rfl rfl rfl rfl rfl ?_; intro w3 hP hS; have N3 := Lib.hid hP; have HB3 := Lib.hid (HB1.out.trans ((hS.below M2.out (Nat.le_refl _)).mono HB1.out.size)); have HF3 := Lib.hid (hS.row (HF1.out.keep M2.out) (Nat.ne_of_gt HF1.out.lt)); have hne : Hid (w1.heap.size ≠ w0.heap.size ∧ w.heap.size ≤ w1.heap.size) := Lib.hid ⟨Nat.ne_of_gt HF1.out.lt, HB1.out.size⟩; clear c0 c1 c2 c3 c4 c5 a0 a1 a2 a3 a4; obtain ⟨c0, c1, c2, c3, c4, c5⟩ := HF3.out.all6; clear hP hS N2 M2 HF1 HD1 HB1))
  go_ret
  exact ⟨by rw [E.out, EK.out]; rfl, HB3.out⟩
theorem refFault_any (vs : List Value) (d : Dev) (f : Flt) (w : World) (h : DevV vs d w) :
    Calls Try.prog 52 #[.agg vs.toArray, .agg f.arr] w fun e w' => e = .returned (.bool (okFault d f)) ∧ Below w.heap.size w w' := by
  obtain ⟨sp, cp, su, cu, sf, cf, rfl, _⟩ := h.form
  obtain ⟨kd, at', pg, tg, bt, mk⟩ := f
  by_cases hr : (d.writes < at' ∧ at' ≤ 1099511627776) ∧ (0 ≤ pg ∧ pg < (d.pages.length : Int)) ∧ (0 ≤ tg ∧ tg < (d.pages.length : Int)) ∧ 0 ≤ bt ∧ bt < 256
  rotate_left
  · exact refFault_out d sp su sf cp cu cf kd at' pg tg bt mk w hr
  by_cases k1 : kd = 1
  · subst k1; exact refFault_1 d sp su sf cp cu cf at' pg tg bt mk w hr
  by_cases k2 : kd = 2
  · subst k2; exact refFault_2 d sp su sf cp cu cf at' pg tg bt mk w hr
  by_cases k3 : kd = 3
  · subst k3; exact refFault_3 d sp su sf cp cu cf at' pg tg bt mk w hr
  by_cases k4 : kd = 4
  · subst k4; exact refFault_4 d sp su sf cp cu cf at' pg tg bt mk w hr
  by_cases k5 : kd = 5
  · subst k5; exact refFault_5 d sp su sf cp cu cf at' pg tg bt mk w hr
  by_cases k6 : kd = 6
  · subst k6; exact refFault_6 d sp su sf cp cu cf at' pg tg bt mk w hr
  exact refFault_0 d sp su sf cp cu cf kd at' pg tg bt mk w hr k1 k2 k3 k4 k5 k6
end Go.Proofs.Ytikpchhhenonaaa.na
