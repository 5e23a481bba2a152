/- Which faults are valid: the program. -/
import Derived.Test.YtikpchhhenonaaaLh
namespace Go.Proofs.Ytikpchhhenonaaa.li
open Go.ChangeShapes Go.WideShapes Go.ChangeAt Go.RowKit Go.Proofs.Ytikpchhhenonaaa.cx Go.Proofs.Ytikpchhhenonaaa.ra Go.Proofs.Ytikpchhhenonaaa.la Go.Proofs.Ytikpchhhenonaaa.lb Go.Proofs.Ytikpchhhenonaaa.lc Go.Proofs.Ytikpchhhenonaaa.ld Go.Proofs.Ytikpchhhenonaaa.lg Go.Proofs.Ytikpchhhenonaaa.lh

/-- A region that ends in one state, whatever its order. -/
def NormalQ (R : Act → World → Prop) : Exit → Act → World → Prop
  | .normal, a, w => R a w
  | _, _, _ => False
theorem wp_one {c : Code} {Q : Exit → Act → World → Prop} {a : Act} {w : World} (A : Act) (W : World) (h : c.wp Try.prog (NormalQ fun a w => a = A ∧ w = W) a w) (hq : Q .normal A W) : c.wp Try.prog Q a w :=
  Code.wp_mono (fun e a w he => by
    cases e with
    | normal =>
      obtain ⟨rfl, rfl⟩ := he
      exact hq
    | _ => exact he.elim) h
theorem ret_bool {a b : Bool} (h : a = b) : Ending.returned (.bool a) = .returned (.bool b) := by rw [h]
/-- The fields that the kind of a fault uses. -/
def usedF (f : Flt) : Flt :=
  if f.kind = 2 then ⟨f.kind, f.at', 0, f.target, 0, 0⟩ else if f.kind = 3 then ⟨f.kind, f.at', 0, 0, f.byte, 0⟩ else if f.kind = 4 then ⟨f.kind, f.at', f.page, 0, f.byte, f.mask⟩ else if f.kind = 5 then ⟨f.kind, f.at', f.page, 0, 0, 0⟩ else ⟨f.kind, f.at', 0, 0, 0, 0⟩
def okKind (f : Flt) : Bool := decide (1 ≤ f.kind ∧ f.kind ≤ 6) && (!(f.kind == 4 && f.mask == 0) && sameF f (usedF f))
theorem build_flt2 (k a : Int) (W : World) : (Instr.build 29 #[(0, .int .i64 k), (1, .int .i64 a)]).run Try.prog W = .ok (.agg (Flt.arr ⟨k, a, 0, 0, 0, 0⟩)) W := by kernel_rfl
set_option maxHeartbeats 2000000 in
set_option maxRecDepth 4000 in
theorem validKind_any (f : Flt) (w : World) :
    Calls Try.prog 71 #[.agg f.arr] w fun e w' => e = .returned (.bool (okKind f)) ∧ Below w.heap.size w w' := by
  have bf := build_flt2 f.kind f.at'
  by_cases k1 : f.kind = 1
  · have hok : okKind f = sameF f ⟨f.kind, f.at', 0, 0, 0, 0⟩ := by obtain ⟨a, b, c, d, e, m⟩ := f; simp only at k1; subst k1; simp [okKind, usedF]
    have HOK := Lib.hid hok
    have e1 : (f.kind == 1) = true := by simp; omega
    have e2 : (f.kind == 2) = false := by simp; omega
    have e3 : (f.kind == 3) = false := by simp; omega
    have e4 : (f.kind == 4) = false := by simp; omega
    have e5 : (f.kind == 5) = false := by simp; omega
    have e6 : (f.kind == 6) = false := by simp; omega
    have he := flt_eql f ⟨f.kind, f.at', 0, 0, 0, 0⟩
    have K1 := Lib.hid k1
    clear hok k1
    go_enter Try.func71, Try.ntmps71
    go_wp2_with (first
    | (refine wp_boxW f.vals _ rfl rfl rfl ?_; intro w0 hP hb0 hz0; have HB0 := Lib.hid hb0; have HP0 := Lib.hid hP; obtain ⟨a0, a1, a2, a3, a4, a5⟩ := hP.all6; clear hP hb0 hz0)
    | (refine wp_newW flt0.vals _ zero_flt rfl rfl ?_; intro w1 hP hb1 _; have N1 := Lib.hid hP; have M1 := Lib.hid hb1; clear hP hb1)
    | (refine wp_storeFltW ⟨f.kind, f.at', 0, 0, 0, 0⟩ N1.out rfl rfl rfl rfl rfl ?_; intro w2 hP hS; have HB2 := Lib.hid (hS.below (HB0.out.trans (M1.out.mono HB0.out.size)) HB0.out.size); have HP2 := Lib.hid (hS.row (HP0.out.keep M1.out) (Nat.ne_of_gt HP0.out.lt)); have N2 := Lib.hid hP; obtain ⟨a0, a1, a2, a3, a4, a5⟩ := HP2.out.all6; obtain ⟨b0, b1, b2, b3, b4, b5⟩ := hP.all6; have fr2 := hP.free 2; have fr3 := hP.free 3; have fr4 := hP.free 4; have fr5 := hP.free 5; have NE := Lib.hid (Nat.ne_of_gt HP0.out.lt); have NE3 := Lib.hid HP0.out.lt; clear hP hS N1 M1 HP0 HB0)
    | (refine wp_loadFlt f (HP2.out) rfl rfl rfl ?_)
    | (refine wp_loadFlt ⟨f.kind, f.at', 0, 0, 0, 0⟩ (N2.out) rfl rfl rfl ?_))
    go_ret
    exact ⟨by rw [HOK.out]; rfl, HB2.out⟩
  by_cases k6 : f.kind = 6
  · have hok : okKind f = sameF f ⟨f.kind, f.at', 0, 0, 0, 0⟩ := by obtain ⟨a, b, c, d, e, m⟩ := f; simp only at k6; subst k6; simp [okKind, usedF]
    have HOK := Lib.hid hok
    have e1 : (f.kind == 1) = false := by simp; omega
    have e2 : (f.kind == 2) = false := by simp; omega
    have e3 : (f.kind == 3) = false := by simp; omega
    have e4 : (f.kind == 4) = false := by simp; omega
    have e5 : (f.kind == 5) = false := by simp; omega
    have e6 : (f.kind == 6) = true := by simp; omega
    have he := flt_eql f ⟨f.kind, f.at', 0, 0, 0, 0⟩
    have K6 := Lib.hid k6
    clear hok k6
    go_enter Try.func71, Try.ntmps71
    go_wp2_with (first
    | (refine wp_boxW f.vals _ rfl rfl rfl ?_; intro w0 hP hb0 hz0; have HB0 := Lib.hid hb0; have HP0 := Lib.hid hP; obtain ⟨a0, a1, a2, a3, a4, a5⟩ := hP.all6; clear hP hb0 hz0)
    | (refine wp_newW flt0.vals _ zero_flt rfl rfl ?_; intro w1 hP hb1 _; have N1 := Lib.hid hP; have M1 := Lib.hid hb1; clear hP hb1)
    | (refine wp_storeFltW ⟨f.kind, f.at', 0, 0, 0, 0⟩ N1.out rfl rfl rfl rfl rfl ?_; intro w2 hP hS; have HB2 := Lib.hid (hS.below (HB0.out.trans (M1.out.mono HB0.out.size)) HB0.out.size); have HP2 := Lib.hid (hS.row (HP0.out.keep M1.out) (Nat.ne_of_gt HP0.out.lt)); have N2 := Lib.hid hP; obtain ⟨a0, a1, a2, a3, a4, a5⟩ := HP2.out.all6; obtain ⟨b0, b1, b2, b3, b4, b5⟩ := hP.all6; have fr2 := hP.free 2; have fr3 := hP.free 3; have fr4 := hP.free 4; have fr5 := hP.free 5; have NE := Lib.hid (Nat.ne_of_gt HP0.out.lt); have NE3 := Lib.hid HP0.out.lt; clear hP hS N1 M1 HP0 HB0)
    | (refine wp_loadFlt f (HP2.out) rfl rfl rfl ?_)
    | (refine wp_loadFlt ⟨f.kind, f.at', 0, 0, 0, 0⟩ (N2.out) rfl rfl rfl ?_))
    go_ret
    exact ⟨by rw [HOK.out]; rfl, HB2.out⟩
  by_cases k2 : f.kind = 2
  · have hok : okKind f = sameF f ⟨f.kind, f.at', 0, f.target, 0, 0⟩ := by obtain ⟨a, b, c, d, e, m⟩ := f; simp only at k2; subst k2; simp [okKind, usedF]
    have HOK := Lib.hid hok
    have e1 : (f.kind == 1) = false := by simp; omega
    have e2 : (f.kind == 2) = true := by simp; omega
    have e3 : (f.kind == 3) = false := by simp; omega
    have e4 : (f.kind == 4) = false := by simp; omega
    have e5 : (f.kind == 5) = false := by simp; omega
    have e6 : (f.kind == 6) = false := by simp; omega
    have he := flt_eql f ⟨f.kind, f.at', 0, f.target, 0, 0⟩
    have K2 := Lib.hid k2
    clear hok k2
    go_enter Try.func71, Try.ntmps71
    go_wp2_with (first
    | (refine wp_boxW f.vals _ rfl rfl rfl ?_; intro w0 hP hb0 hz0; have HB0 := Lib.hid hb0; have HP0 := Lib.hid hP; obtain ⟨a0, a1, a2, a3, a4, a5⟩ := hP.all6; clear hP hb0 hz0)
    | (refine wp_newW flt0.vals _ zero_flt rfl rfl ?_; intro w1 hP hb1 _; have N1 := Lib.hid hP; have M1 := Lib.hid hb1; clear hP hb1)
    | (refine wp_storeFltW ⟨f.kind, f.at', 0, 0, 0, 0⟩ N1.out rfl rfl rfl rfl rfl ?_; intro w2 hP hS; have HB2 := Lib.hid (hS.below (HB0.out.trans (M1.out.mono HB0.out.size)) HB0.out.size); have HP2 := Lib.hid (hS.row (HP0.out.keep M1.out) (Nat.ne_of_gt HP0.out.lt)); have N2 := Lib.hid hP; obtain ⟨a0, a1, a2, a3, a4, a5⟩ := HP2.out.all6; obtain ⟨b0, b1, b2, b3, b4, b5⟩ := hP.all6; have fr2 := hP.free 2; have fr3 := hP.free 3; have fr4 := hP.free 4; have fr5 := hP.free 5; have NE := Lib.hid (Nat.ne_of_gt HP0.out.lt); have NE3 := Lib.hid HP0.out.lt; clear hP hS N1 M1 HP0 HB0)
    | (refine wp_storeFieldW 3 (.int .i64 f.target) rfl rfl info_int1 N2.out (show 3 < 6 by decide) rfl rfl rfl rfl ?_; intro w3 hP hS; have N3 : Hid (RowAt w0.heap.size (Flt.vals ⟨f.kind, f.at', 0, f.target, 0, 0⟩) w3) := Lib.hid hP; have HP3 := Lib.hid (hS.row HP2.out NE.out); have HB3 := Lib.hid (hS.below HB2.out (Nat.le_of_lt NE3.out)); clear hP hS N2 HP2 HB2 a0 a1 a2 a3 a4 a5 b0 b1 b2 b3 b4 b5 fr2 fr3 fr4 fr5)
    | (refine wp_loadFlt f (HP3.out) rfl rfl rfl ?_)
    | (refine wp_loadFlt ⟨f.kind, f.at', 0, f.target, 0, 0⟩ (N3.out) rfl rfl rfl ?_))
    go_ret
    exact ⟨by rw [HOK.out]; rfl, HB3.out⟩
  by_cases k3 : f.kind = 3
  · have hok : okKind f = sameF f ⟨f.kind, f.at', 0, 0, f.byte, 0⟩ := by obtain ⟨a, b, c, d, e, m⟩ := f; simp only at k3; subst k3; simp [okKind, usedF]
    have HOK := Lib.hid hok
    have e1 : (f.kind == 1) = false := by simp; omega
    have e2 : (f.kind == 2) = false := by simp; omega
    have e3 : (f.kind == 3) = true := by simp; omega
    have e4 : (f.kind == 4) = false := by simp; omega
    have e5 : (f.kind == 5) = false := by simp; omega
    have e6 : (f.kind == 6) = false := by simp; omega
    have he := flt_eql f ⟨f.kind, f.at', 0, 0, f.byte, 0⟩
    have K3 := Lib.hid k3
    clear hok k3
    go_enter Try.func71, Try.ntmps71
    go_wp2_with (first
    | (refine wp_boxW f.vals _ rfl rfl rfl ?_; intro w0 hP hb0 hz0; have HB0 := Lib.hid hb0; have HP0 := Lib.hid hP; obtain ⟨a0, a1, a2, a3, a4, a5⟩ := hP.all6; clear hP hb0 hz0)
    | (refine wp_newW flt0.vals _ zero_flt rfl rfl ?_; intro w1 hP hb1 _; have N1 := Lib.hid hP; have M1 := Lib.hid hb1; clear hP hb1)
    | (refine wp_storeFltW ⟨f.kind, f.at', 0, 0, 0, 0⟩ N1.out rfl rfl rfl rfl rfl ?_; intro w2 hP hS; have HB2 := Lib.hid (hS.below (HB0.out.trans (M1.out.mono HB0.out.size)) HB0.out.size); have HP2 := Lib.hid (hS.row (HP0.out.keep M1.out) (Nat.ne_of_gt HP0.out.lt)); have N2 := Lib.hid hP; obtain ⟨a0, a1, a2, a3, a4, a5⟩ := HP2.out.all6; obtain ⟨b0, b1, b2, b3, b4, b5⟩ := hP.all6; have fr2 := hP.free 2; have fr3 := hP.free 3; have fr4 := hP.free 4; have fr5 := hP.free 5; have NE := Lib.hid (Nat.ne_of_gt HP0.out.lt); have NE3 := Lib.hid HP0.out.lt; clear hP hS N1 M1 HP0 HB0)
    | (refine wp_storeFieldW 3 (.int .i64 f.byte) rfl rfl info_int1 N2.out (show 4 < 6 by decide) rfl rfl rfl rfl ?_; intro w3 hP hS; have N3 : Hid (RowAt w0.heap.size (Flt.vals ⟨f.kind, f.at', 0, 0, f.byte, 0⟩) w3) := Lib.hid hP; have HP3 := Lib.hid (hS.row HP2.out NE.out); have HB3 := Lib.hid (hS.below HB2.out (Nat.le_of_lt NE3.out)); clear hP hS N2 HP2 HB2 a0 a1 a2 a3 a4 a5 b0 b1 b2 b3 b4 b5 fr2 fr3 fr4 fr5)
    | (refine wp_loadFlt f (HP3.out) rfl rfl rfl ?_)
    | (refine wp_loadFlt ⟨f.kind, f.at', 0, 0, f.byte, 0⟩ (N3.out) rfl rfl rfl ?_))
    go_ret
    exact ⟨by rw [HOK.out]; rfl, HB3.out⟩
  by_cases k5 : f.kind = 5
  · have hok : okKind f = sameF f ⟨f.kind, f.at', f.page, 0, 0, 0⟩ := by obtain ⟨a, b, c, d, e, m⟩ := f; simp only at k5; subst k5; simp [okKind, usedF]
    have HOK := Lib.hid hok
    have e1 : (f.kind == 1) = false := by simp; omega
    have e2 : (f.kind == 2) = false := by simp; omega
    have e3 : (f.kind == 3) = false := by simp; omega
    have e4 : (f.kind == 4) = false := by simp; omega
    have e5 : (f.kind == 5) = true := by simp; omega
    have e6 : (f.kind == 6) = false := by simp; omega
    have he := flt_eql f ⟨f.kind, f.at', f.page, 0, 0, 0⟩
    have K5 := Lib.hid k5
    clear hok k5
    go_enter Try.func71, Try.ntmps71
    go_wp2_with (first
    | (refine wp_boxW f.vals _ rfl rfl rfl ?_; intro w0 hP hb0 hz0; have HB0 := Lib.hid hb0; have HP0 := Lib.hid hP; obtain ⟨a0, a1, a2, a3, a4, a5⟩ := hP.all6; clear hP hb0 hz0)
    | (refine wp_newW flt0.vals _ zero_flt rfl rfl ?_; intro w1 hP hb1 _; have N1 := Lib.hid hP; have M1 := Lib.hid hb1; clear hP hb1)
    | (refine wp_storeFltW ⟨f.kind, f.at', 0, 0, 0, 0⟩ N1.out rfl rfl rfl rfl rfl ?_; intro w2 hP hS; have HB2 := Lib.hid (hS.below (HB0.out.trans (M1.out.mono HB0.out.size)) HB0.out.size); have HP2 := Lib.hid (hS.row (HP0.out.keep M1.out) (Nat.ne_of_gt HP0.out.lt)); have N2 := Lib.hid hP; obtain ⟨a0, a1, a2, a3, a4, a5⟩ := HP2.out.all6; obtain ⟨b0, b1, b2, b3, b4, b5⟩ := hP.all6; have fr2 := hP.free 2; have fr3 := hP.free 3; have fr4 := hP.free 4; have fr5 := hP.free 5; have NE := Lib.hid (Nat.ne_of_gt HP0.out.lt); have NE3 := Lib.hid HP0.out.lt; clear hP hS N1 M1 HP0 HB0)
    | (refine wp_storeFieldW 3 (.int .i64 f.page) rfl rfl info_int1 N2.out (show 2 < 6 by decide) rfl rfl rfl rfl ?_; intro w3 hP hS; have N3 : Hid (RowAt w0.heap.size (Flt.vals ⟨f.kind, f.at', f.page, 0, 0, 0⟩) w3) := Lib.hid hP; have HP3 := Lib.hid (hS.row HP2.out NE.out); have HB3 := Lib.hid (hS.below HB2.out (Nat.le_of_lt NE3.out)); clear hP hS N2 HP2 HB2 a0 a1 a2 a3 a4 a5 b0 b1 b2 b3 b4 b5 fr2 fr3 fr4 fr5)
    | (refine wp_loadFlt f (HP3.out) rfl rfl rfl ?_)
    | (refine wp_loadFlt ⟨f.kind, f.at', f.page, 0, 0, 0⟩ (N3.out) rfl rfl rfl ?_))
    go_ret
    exact ⟨by rw [HOK.out]; rfl, HB3.out⟩
  by_cases k4 : f.kind = 4
  · have hok : okKind f = (!(f.mask == 0) && sameF f ⟨f.kind, f.at', f.page, 0, f.byte, f.mask⟩) := by obtain ⟨a, b, c, d, e, m⟩ := f; simp only at k4; subst k4; simp [okKind, usedF]
    have HOK := Lib.hid hok
    have e1 : (f.kind == 1) = false := by simp; omega
    have e2 : (f.kind == 2) = false := by simp; omega
    have e3 : (f.kind == 3) = false := by simp; omega
    have e4 : (f.kind == 4) = true := by simp; omega
    have e5 : (f.kind == 5) = false := by simp; omega
    have e6 : (f.kind == 6) = false := by simp; omega
    have he := flt_eql f ⟨f.kind, f.at', f.page, 0, f.byte, f.mask⟩
    have K4 := Lib.hid k4
    clear hok k4
    go_enter Try.func71, Try.ntmps71
    go_wp2_with (first
    | (refine wp_boxW f.vals _ rfl rfl rfl ?_; intro w0 hP hb0 hz0; have HB0 := Lib.hid hb0; have HP0 := Lib.hid hP; obtain ⟨a0, a1, a2, a3, a4, a5⟩ := hP.all6; clear hP hb0 hz0)
    | (refine wp_newW flt0.vals _ zero_flt rfl rfl ?_; intro w1 hP hb1 _; have N1 := Lib.hid hP; have M1 := Lib.hid hb1; clear hP hb1)
    | (refine wp_storeFltW ⟨f.kind, f.at', 0, 0, 0, 0⟩ N1.out rfl rfl rfl rfl rfl ?_; intro w2 hP hS; have HB2 := Lib.hid (hS.below (HB0.out.trans (M1.out.mono HB0.out.size)) HB0.out.size); have HP2 := Lib.hid (hS.row (HP0.out.keep M1.out) (Nat.ne_of_gt HP0.out.lt)); have N2 := Lib.hid hP; obtain ⟨a0, a1, a2, a3, a4, a5⟩ := HP2.out.all6; obtain ⟨b0, b1, b2, b3, b4, b5⟩ := hP.all6; have fr2 := hP.free 2; have fr3 := hP.free 3; have fr4 := hP.free 4; have fr5 := hP.free 5; have NE := Lib.hid (Nat.ne_of_gt HP0.out.lt); have NE3 := Lib.hid HP0.out.lt; clear hP hS N1 M1 HP0 HB0))
    apply wp_one
    · go_region
      iterate 40 (try exact ⟨rfl, rfl⟩)
    · have R1 := RowAt.setOther (RowAt.setOther (RowAt.setOther HP2.out (a := ⟨w0.heap.size, 2, none⟩) NE.out (.int .i64 f.page)) (a := ⟨w0.heap.size, 4, none⟩) NE.out (.int .i64 f.byte)) (a := ⟨w0.heap.size, 5, none⟩) NE.out (.int .u8 f.mask)
      have R1 := R1.drew
      have R2 : RowAt w0.heap.size (Flt.vals ⟨f.kind, f.at', f.page, 0, f.byte, f.mask⟩) _ := (RowAt.set (RowAt.set (RowAt.set N2.out 2 (show 2 < 6 by decide) (.int .i64 f.page)) 4 (show 4 < 6 by decide) (.int .i64 f.byte)) 5 (show 5 < 6 by decide) (.int .u8 f.mask)).drew
      have R3 := Below.setCell (Below.setCell (Below.setCell HB2.out (p := ⟨w0.heap.size, 2, none⟩) (Nat.le_of_lt NE3.out) (.int .i64 f.page)) (p := ⟨w0.heap.size, 4, none⟩) (Nat.le_of_lt NE3.out) (.int .i64 f.byte)) (p := ⟨w0.heap.size, 5, none⟩) (Nat.le_of_lt NE3.out) (.int .u8 f.mask)
      have R3 := R3.drew
      generalize (((w2.setCell ⟨w0.heap.size, 2, none⟩ (.int .i64 f.page)).setCell ⟨w0.heap.size, 4, none⟩ (.int .i64 f.byte)).setCell ⟨w0.heap.size, 5, none⟩ (.int .u8 f.mask)).drew = w5 at *
      obtain ⟨c0, c1, c2, c3, c4, c5⟩ := R1.all6
      have R1 := Lib.hid R1
      have R2 := Lib.hid R2
      have R3 := Lib.hid R3
      clear a0 a1 a2 a3 a4 a5 b0 b1 b2 b3 b4 b5 fr2 fr3 fr4 fr5
      by_cases hm : f.mask = 0
      · have hm1 : (f.mask == 0) = true := by simp [hm]
        have HM := Lib.hid hm1
        clear hm
        go_wp2
        go_ret
        exact ⟨by rw [HOK.out, HM.out]; rfl, R3.out⟩
      · have hm1 : (f.mask == 0) = false := by simp [hm]
        have HM := Lib.hid hm1
        clear hm
        go_wp2_with (first
          | (refine wp_loadFlt f R1.out rfl rfl rfl ?_)
          | (refine wp_loadFlt ⟨f.kind, f.at', f.page, 0, f.byte, f.mask⟩ R2.out rfl rfl rfl ?_))
        go_ret
        exact ⟨by rw [HOK.out, HM.out]; rfl, R3.out⟩
  have hok : okKind f = false := by
    have : ¬ (1 ≤ f.kind ∧ f.kind ≤ 6) := by omega
    unfold okKind; rw [decide_eq_false this]; rfl
  have HOK := Lib.hid hok
  have e1 : (f.kind == 1) = false := by simp; omega
  have e2 : (f.kind == 2) = false := by simp; omega
  have e3 : (f.kind == 3) = false := by simp; omega
  have e4 : (f.kind == 4) = false := by simp; omega
  have e5 : (f.kind == 5) = false := by simp; omega
  have e6 : (f.kind == 6) = false := by simp; omega
  clear hok k1 k2 k3 k4 k5 k6
  go_enter Try.func71, Try.ntmps71
  go_wp2_with (first
  | (refine wp_boxW f.vals _ rfl rfl rfl ?_; intro w0 hP hb0 hz0; have HB0 := Lib.hid hb0; have HP0 := Lib.hid hP; obtain ⟨a0, a1, a2, a3, a4, a5⟩ := hP.all6; clear hP hb0 hz0)
  | (refine wp_newW flt0.vals _ zero_flt rfl rfl ?_; intro w1 hP hb1 _; have N1 := Lib.hid hP; have M1 := Lib.hid hb1; clear hP hb1)
  | (refine wp_storeFltW ⟨f.kind, f.at', 0, 0, 0, 0⟩ N1.out rfl rfl rfl rfl rfl ?_; intro w2 hP hS; have HB2 := Lib.hid (hS.below (HB0.out.trans (M1.out.mono HB0.out.size)) HB0.out.size); have HP2 := Lib.hid (hS.row (HP0.out.keep M1.out) (Nat.ne_of_gt HP0.out.lt)); have N2 := Lib.hid hP; obtain ⟨a0, a1, a2, a3, a4, a5⟩ := HP2.out.all6; obtain ⟨b0, b1, b2, b3, b4, b5⟩ := hP.all6; have fr2 := hP.free 2; have fr3 := hP.free 3; have fr4 := hP.free 4; have fr5 := hP.free 5; have NE := Lib.hid (Nat.ne_of_gt HP0.out.lt); have NE3 := Lib.hid HP0.out.lt; clear hP hS N1 M1 HP0 HB0))
  go_ret
  exact ⟨by rw [HOK.out]; rfl, HB2.out⟩
end Go.Proofs.Ytikpchhhenonaaa.li
