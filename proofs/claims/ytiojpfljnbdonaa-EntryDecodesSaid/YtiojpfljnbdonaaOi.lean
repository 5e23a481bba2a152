/- Encode of the reference. -/
import Derived.Test.YtiojpfljnbdonaaOg
import Derived.Test.YtiojpfljnbdonaaOh
namespace Go.Proofs.Ytiojpfljnbdonaa.oi
open Go.ChangeShapes Go.WideShapes Go.ChangeAt Go.RowKit Go.Proofs.Ytiojpfljnbdonaa.cp Go.Proofs.Ytiojpfljnbdonaa.cx Go.Proofs.Ytiojpfljnbdonaa.ra Go.Proofs.Ytiojpfljnbdonaa.rb Go.Proofs.Ytiojpfljnbdonaa.rc Go.Proofs.Ytiojpfljnbdonaa.da Go.Proofs.Ytiojpfljnbdonaa.ea Go.Proofs.Ytiojpfljnbdonaa.eb Go.Proofs.Ytiojpfljnbdonaa.ed Go.Proofs.Ytiojpfljnbdonaa.fb Go.Proofs.Ytiojpfljnbdonaa.ka Go.Proofs.Ytiojpfljnbdonaa.kb Go.Proofs.Ytiojpfljnbdonaa.kg Go.Proofs.Ytiojpfljnbdonaa.kj Go.Proofs.Ytiojpfljnbdonaa.oa Go.Proofs.Ytiojpfljnbdonaa.os Go.Proofs.Ytiojpfljnbdonaa.ob Go.Proofs.Ytiojpfljnbdonaa.oc Go.Proofs.Ytiojpfljnbdonaa.od Go.Proofs.Ytiojpfljnbdonaa.oe Go.Proofs.Ytiojpfljnbdonaa.of Go.Proofs.Ytiojpfljnbdonaa.og Go.Proofs.Ytiojpfljnbdonaa.oh
set_option linter.unusedSimpArgs false

set_option maxRecDepth 4000 in
set_option maxHeartbeats 4000000 in
theorem refEncode_any (e : Ent) (w : World) (hF : FitsE e) : Calls Try.prog 13 #[.agg e.arr] w fun e' w' => e' = .returned (.tuple #[.string (encS e), .int .i64 (encE e)]) ∧ Below w.heap.size w w' := by
  unfold encS encE
  cases hv : validE e
  · have HU : Hid True := Lib.hid trivial
    have CV : Hid (Says 15 #[.agg e.arr] false) := Lib.hid fun w => by have := refValid_any e w hF; rwa [hv] at this
    clear hv
    go_enter Try.func13, Try.ntmps13
    go_wp2_with (first
      | (clear HU; refine wp_boxEntW e rfl rfl rfl ?_; intro w0 hP hb0 z0; have E0 := Lib.hid hP; have HB0 := Lib.hid hb0; clear hP hb0)
      | (refine wp_loadEnt e E0.out rfl rfl rfl ?_)
      | (go_at_call 15; (with_reducible refine (CV.out _).mono ?_); rintro e1 w1 ⟨rfl, hb⟩; have HB1 := Lib.hid (HB0.out.trans (hb.mono HB0.out.size)); clear hb))
    go_ret2
    exact ⟨rfl, HB1.out⟩
  have CV : Hid (Says 15 #[.agg e.arr] true) := Lib.hid fun w => by have := refValid_any e w hF; rwa [hv] at this
  have hf := valid_fits hv
  clear hv
  obtain ⟨f1, f2, f3⟩ := hf
  have hcat := cat_run (putS (cellS (cellS (headS e) e.change.before) e.change.after) e.blob.size 4) e.blob (by rw [putS_size]; have := headS_size e; have := cellS_size (headS e) e.change.before; have := cellS_size (cellS (headS e) e.change.before) e.change.after; omega)
  have HU : Hid True := Lib.hid trivial
  go_enter Try.func13, Try.ntmps13
  go_upto_region 11 with (first
    | (clear HU; refine wp_boxEntW e rfl rfl rfl ?_; intro w0 hP hb0 z0; have E0 := Lib.hid hP; have HB0 := Lib.hid hb0; clear hP hb0; obtain ⟨a0, a1, a2, a3, a4, a5, a6, a7, a8, a9, a10, a11, a12⟩ := EnAt.all E0.out)
    | (refine wp_loadEnt e E0.out rfl rfl rfl ?_)
    | (go_at_call 15; (with_reducible refine (CV.out _).mono ?_); rintro e1 w1 ⟨rfl, hb⟩; have E20 := Lib.hid (RowAt.keep E0.out hb); have HB20 := Lib.hid (HB0.out.trans (hb.mono HB0.out.size)); clear hb E0 HB0 a0 a1 a2 a3 a4 a5 a6 a7 a8 a9 a10 a11 a12; obtain ⟨a0, a1, a2, a3, a4, a5, a6, a7, a8, a9, a10, a11, a12⟩ := EnAt.all E20.out)
    | (go_at_call 27; have hq := E20.out; clear hq; (with_reducible refine (rput8 _ _ _ (by first | decide | (simp only [putS_size]; decide))).mono ?_); rintro e1 w21 ⟨rfl, hb⟩; have E21 := Lib.hid (RowAt.keep E20.out hb); have HB21 := Lib.hid (HB20.out.trans (hb.mono HB20.out.size)); clear hb E20 HB20 a0 a1 a2 a3 a4 a5 a6 a7 a8 a9 a10 a11 a12; obtain ⟨a0, a1, a2, a3, a4, a5, a6, a7, a8, a9, a10, a11, a12⟩ := EnAt.all E21.out)
    | (go_at_call 27; have hq := E21.out; clear hq; (with_reducible refine (rput1 _ _ _ (by first | decide | (simp only [putS_size]; decide))).mono ?_); rintro e1 w22 ⟨rfl, hb⟩; have E22 := Lib.hid (RowAt.keep E21.out hb); have HB22 := Lib.hid (HB21.out.trans (hb.mono HB21.out.size)); clear hb E21 HB21 a0 a1 a2 a3 a4 a5 a6 a7 a8 a9 a10 a11 a12; obtain ⟨a0, a1, a2, a3, a4, a5, a6, a7, a8, a9, a10, a11, a12⟩ := EnAt.all E22.out)
    | (go_at_call 27; have hq := E22.out; clear hq; (with_reducible refine (rput4 _ _ _ (by first | decide | (simp only [putS_size]; decide))).mono ?_); rintro e1 w23 ⟨rfl, hb⟩; have E23 := Lib.hid (RowAt.keep E22.out hb); have HB23 := Lib.hid (HB22.out.trans (hb.mono HB22.out.size)); clear hb E22 HB22 a0 a1 a2 a3 a4 a5 a6 a7 a8 a9 a10 a11 a12; obtain ⟨a0, a1, a2, a3, a4, a5, a6, a7, a8, a9, a10, a11, a12⟩ := EnAt.all E23.out)
    | (go_at_call 27; have hq := E23.out; clear hq; (with_reducible refine (rput8 _ _ _ (by first | decide | (simp only [putS_size]; decide))).mono ?_); rintro e1 w24 ⟨rfl, hb⟩; have E24 := Lib.hid (RowAt.keep E23.out hb); have HB24 := Lib.hid (HB23.out.trans (hb.mono HB23.out.size)); clear hb E23 HB23 a0 a1 a2 a3 a4 a5 a6 a7 a8 a9 a10 a11 a12; obtain ⟨a0, a1, a2, a3, a4, a5, a6, a7, a8, a9, a10, a11, a12⟩ := EnAt.all E24.out)
    | (go_at_call 27; have hq := E24.out; clear hq; (with_reducible refine (rput8 _ _ _ (by first | decide | (simp only [putS_size]; decide))).mono ?_); rintro e1 w25 ⟨rfl, hb⟩; have E25 := Lib.hid (RowAt.keep E24.out hb); have HB25 := Lib.hid (HB24.out.trans (hb.mono HB24.out.size)); clear hb E24 HB24 a0 a1 a2 a3 a4 a5 a6 a7 a8 a9 a10 a11 a12; obtain ⟨a0, a1, a2, a3, a4, a5, a6, a7, a8, a9, a10, a11, a12⟩ := EnAt.all E25.out)
    | (go_at_call 27; have hq := E25.out; clear hq; (with_reducible refine (rput8 _ _ _ (by first | decide | (simp only [putS_size]; decide))).mono ?_); rintro e1 w26 ⟨rfl, hb⟩; have E26 := Lib.hid (RowAt.keep E25.out hb); have HB26 := Lib.hid (HB25.out.trans (hb.mono HB25.out.size)); clear hb E25 HB25 a0 a1 a2 a3 a4 a5 a6 a7 a8 a9 a10 a11 a12; obtain ⟨a0, a1, a2, a3, a4, a5, a6, a7, a8, a9, a10, a11, a12⟩ := EnAt.all E26.out)
    | (go_at_call 27; have hq := E26.out; clear hq; (with_reducible refine (rput4 _ _ _ (by first | decide | (simp only [putS_size]; decide))).mono ?_); rintro e1 w27 ⟨rfl, hb⟩; have E27 := Lib.hid (RowAt.keep E26.out hb); have HB27 := Lib.hid (HB26.out.trans (hb.mono HB26.out.size)); clear hb E26 HB26 a0 a1 a2 a3 a4 a5 a6 a7 a8 a9 a10 a11 a12; obtain ⟨a0, a1, a2, a3, a4, a5, a6, a7, a8, a9, a10, a11, a12⟩ := EnAt.all E27.out)
    | (go_at_call 27; have hq := E27.out; clear hq; (with_reducible refine (rput1 _ _ _ (by first | decide | (simp only [putS_size]; decide))).mono ?_); rintro e1 w28 ⟨rfl, hb⟩; have E28 := Lib.hid (RowAt.keep E27.out hb); have HB28 := Lib.hid (HB27.out.trans (hb.mono HB27.out.size)); clear hb E27 HB27 a0 a1 a2 a3 a4 a5 a6 a7 a8 a9 a10 a11 a12; obtain ⟨a0, a1, a2, a3, a4, a5, a6, a7, a8, a9, a10, a11, a12⟩ := EnAt.all E28.out))
  have HS := Lib.hid (St.add (st_nil (w := w) HB28.out) E28.out)
  clear a0 a1 a2 a3 a4 a5 a6 a7 a8 a9 a10 a11 a12 HB28
  refine wp_region_held_drew (S := St [(w.heap.size, (Ent.vals e))] w) (by kernel_rfl) (St.drew HS.out) (fun hHeld => ?_)
  refine wpAnyH_take (i := 0) (v := ?_) rfl (by kernel_rfl) (by kernel_rfl) (by kernel_rfl) (fun _ _ _ h => h) (Or.inl ⟨by rfl, ?_⟩) (by assumption) ?_
  rotate_left
  · (intro W _; go_simp; try with_reducible rfl)
  try simp only [Act.put, List.getElem_toArray, List.getElem_cons_zero, List.setIfInBounds_toArray, List.set_cons_zero, List.set_cons_succ]
  refine wpAnyH_take (i := 1) (v := ?_) rfl (by kernel_rfl) (by kernel_rfl) (by kernel_rfl) (fun _ _ _ h => h) (Or.inl ⟨by rfl, ?_⟩) (by assumption) ?_
  rotate_left
  · (intro W _; go_simp; try with_reducible rfl)
  try simp only [Act.put, List.getElem_toArray, List.getElem_cons_zero, List.getElem_cons_succ, List.setIfInBounds_toArray, List.set_cons_zero, List.set_cons_succ]
  refine wpAnyH_take (i := 2) (v := ?_) rfl (by kernel_rfl) (by kernel_rfl) (by kernel_rfl) (fun _ _ _ h => h) (Or.inl ⟨by rfl, ?_⟩) (by assumption) ?_
  rotate_left
  · (intro W _; go_simp; try with_reducible rfl)
  try simp only [Act.put, List.getElem_toArray, List.getElem_cons_zero, List.getElem_cons_succ, List.setIfInBounds_toArray, List.set_cons_zero, List.set_cons_succ]
  refine wpAnyH_take (i := 3) (v := (.agg #[.bool e.change.before.set, .string e.change.before.data])) rfl (by kernel_rfl) (by kernel_rfl) (by kernel_rfl) (fun _ _ _ h => h) (yieldsIf_load_mid (by rfl) 24 _ rfl w.heap.size 8 rfl e.change.before.vals _ (fun W hSw => RowAt.range (St.row hSw (b := w.heap.size) (vs := (Ent.vals e)) (by simp)) 8 (fun j v hv => before_in _ j v hv)) Try.underlying24 rfl info_cell) (by assumption) ?_
  try simp only [Act.put, List.getElem_toArray, List.getElem_cons_zero, List.getElem_cons_succ, List.setIfInBounds_toArray, List.set_cons_zero, List.set_cons_succ]
  refine wpAnyH_take (i := 5) (v := ?_) rfl (by kernel_rfl) (by kernel_rfl) (by kernel_rfl) (fun _ _ _ h => h) (Or.inl ⟨by rfl, ?_⟩) (by assumption) ?_
  rotate_left
  · (intro W _; go_simp; try with_reducible rfl)
  try simp only [Act.put, List.getElem_toArray, List.getElem_cons_zero, List.getElem_cons_succ, List.setIfInBounds_toArray, List.set_cons_zero, List.set_cons_succ]
  refine wpAnyH_take (i := 6) (v := ?_) rfl (by kernel_rfl) (by kernel_rfl) (by kernel_rfl) (fun _ _ _ h => h) (Or.inl ⟨by rfl, ?_⟩) (by assumption) ?_
  rotate_left
  · (intro W _; go_simp; try with_reducible rfl)
  try simp only [Act.put, List.getElem_toArray, List.getElem_cons_zero, List.getElem_cons_succ, List.setIfInBounds_toArray, List.set_cons_zero, List.set_cons_succ]
  refine wpAnyH_take (i := 7) (v := (.agg #[.bool e.change.after.set, .string e.change.after.data])) rfl (by kernel_rfl) (by kernel_rfl) (by kernel_rfl) (fun _ _ _ h => h) (yieldsIf_load_mid (by rfl) 24 _ rfl w.heap.size 10 rfl e.change.after.vals _ (fun W hSw => RowAt.range (St.row hSw (b := w.heap.size) (vs := (Ent.vals e)) (by simp)) 10 (fun j v hv => after_in _ j v hv)) Try.underlying24 rfl info_cell) (by assumption) ?_
  try simp only [Act.put, List.getElem_toArray, List.getElem_cons_zero, List.getElem_cons_succ, List.setIfInBounds_toArray, List.set_cons_zero, List.set_cons_succ]
  refine wpAnyH_ready (rs := [4]) (by kernel_rfl) (by simp) (AllReadyH.cons rfl (fun K hK => ?_) AllReadyH.nil)
  go_simp
  go_wp2_with (go_at_call 28; (refine (refCell_any (headS e) e.change.before _ (by have := headS_size e; have := cellS_size (headS e) e.change.before; have := cellS_size (cellS (headS e) e.change.before) e.change.after; omega) (by omega)).mono ?_); rintro e W11_1 ⟨rfl, hb11_3⟩)
  refine hK.out _ _ (St.keep hHeld hb11_3) (fun hH11_2 => ?_)
  clear hK K
  try simp only [Act.put, List.getElem_toArray, List.getElem_cons_zero, List.getElem_cons_succ, List.setIfInBounds_toArray, List.set_cons_zero, List.set_cons_succ]
  refine wpAnyH_ready (rs := [8]) (by kernel_rfl) (by simp) (AllReadyH.cons rfl (fun K hK => ?_) AllReadyH.nil)
  go_simp
  go_wp2_with (go_at_call 28; (with_reducible refine (refCell_any (cellS (headS e) e.change.before) e.change.after _ (by have := headS_size e; have := cellS_size (headS e) e.change.before; have := cellS_size (cellS (headS e) e.change.before) e.change.after; omega) (by omega)).mono ?_); rintro e W11_4 ⟨rfl, hb11_6⟩)
  refine hK.out _ _ (St.keep hH11_2 hb11_6) (fun hH11_5 => ?_)
  clear hK K
  try simp only [Act.put, List.getElem_toArray, List.getElem_cons_zero, List.getElem_cons_succ, List.setIfInBounds_toArray, List.set_cons_zero, List.set_cons_succ]
  refine wpAnyH_take (i := 9) (v := ?_) rfl (by kernel_rfl) (by kernel_rfl) (by kernel_rfl) (fun _ _ _ h => h) (Or.inl ⟨by rfl, ?_⟩) (by assumption) ?_
  rotate_left
  · (intro W _; go_simp; try with_reducible rfl)
  try simp only [Act.put, List.getElem_toArray, List.getElem_cons_zero, List.getElem_cons_succ, List.setIfInBounds_toArray, List.set_cons_zero, List.set_cons_succ]
  refine wpAnyH_done (by kernel_rfl) ?_ _
  go_upto_region 12 with (fail)
  refine wp_region_held_drew (S := St [(w.heap.size, (Ent.vals e))] w) (by kernel_rfl) (St.drew hH11_5) (fun hHeld => ?_)
  refine wpAnyH_take (i := 0) (v := ?_) rfl (by kernel_rfl) (by kernel_rfl) (by kernel_rfl) (fun _ _ _ h => h) (Or.inl ⟨by rfl, ?_⟩) (by assumption) ?_
  rotate_left
  · (intro W _; go_simp; try with_reducible rfl)
  try simp only [Act.put, List.getElem_toArray, List.getElem_cons_zero, List.setIfInBounds_toArray, List.set_cons_zero, List.set_cons_succ]
  refine wpAnyH_take (i := 1) (v := ?_) rfl (by kernel_rfl) (by kernel_rfl) (by kernel_rfl) (fun _ _ _ h => h) (Or.inl ⟨by rfl, ?_⟩) (by assumption) ?_
  rotate_left
  · (intro W _; go_simp; try with_reducible rfl)
  try simp only [Act.put, List.getElem_toArray, List.getElem_cons_zero, List.getElem_cons_succ, List.setIfInBounds_toArray, List.set_cons_zero, List.set_cons_succ]
  refine wpAnyH_take (i := 2) (v := ?_) rfl (by kernel_rfl) (by kernel_rfl) (by kernel_rfl) (fun _ _ _ h => h) (Or.inl ⟨by rfl, ?_⟩) (by assumption) ?_
  rotate_left
  · (intro W hSw; have c0 := (St.row hSw (b := w.heap.size) (vs := (Ent.vals e)) (by simp)).cells 12 _ rfl; clear hSw; go_simp; try with_reducible rfl)
  try simp only [Act.put, List.getElem_toArray, List.getElem_cons_zero, List.getElem_cons_succ, List.setIfInBounds_toArray, List.set_cons_zero, List.set_cons_succ]
  refine wpAnyH_take (i := 3) (v := ?_) rfl (by kernel_rfl) (by kernel_rfl) (by kernel_rfl) (fun _ _ _ h => h) (Or.inl ⟨by rfl, ?_⟩) (by assumption) ?_
  rotate_left
  · (intro W _; go_simp; try with_reducible rfl)
  try simp only [Act.put, List.getElem_toArray, List.getElem_cons_zero, List.getElem_cons_succ, List.setIfInBounds_toArray, List.set_cons_zero, List.set_cons_succ]
  refine wpAnyH_take (i := 5) (v := ?_) rfl (by kernel_rfl) (by kernel_rfl) (by kernel_rfl) (fun _ _ _ h => h) (Or.inl ⟨by rfl, ?_⟩) (by assumption) ?_
  rotate_left
  · (intro W _; go_simp; try with_reducible rfl)
  try simp only [Act.put, List.getElem_toArray, List.getElem_cons_zero, List.getElem_cons_succ, List.setIfInBounds_toArray, List.set_cons_zero, List.set_cons_succ]
  refine wpAnyH_take (i := 6) (v := ?_) rfl (by kernel_rfl) (by kernel_rfl) (by kernel_rfl) (fun _ _ _ h => h) (Or.inl ⟨by rfl, ?_⟩) (by assumption) ?_
  rotate_left
  · (intro W hSw; have c0 := (St.row hSw (b := w.heap.size) (vs := (Ent.vals e)) (by simp)).cells 12 _ rfl; clear hSw; go_simp; try with_reducible rfl)
  try simp only [Act.put, List.getElem_toArray, List.getElem_cons_zero, List.getElem_cons_succ, List.setIfInBounds_toArray, List.set_cons_zero, List.set_cons_succ]
  refine wpAnyH_ready (rs := [4]) (by kernel_rfl) (by simp) (AllReadyH.cons rfl (fun K hK => ?_) AllReadyH.nil)
  go_simp
  go_wp2_with (go_at_call 27; (with_reducible refine (rput4 _ _ _ (by have := headS_size e; have := cellS_size (headS e) e.change.before; have := cellS_size (cellS (headS e) e.change.before) e.change.after; omega)).mono ?_); rintro e W12_1 ⟨rfl, hb12_3⟩)
  refine hK.out _ _ (St.keep hHeld hb12_3) (fun hH12_2 => ?_)
  clear hK K
  try simp only [Act.put, List.getElem_toArray, List.getElem_cons_zero, List.getElem_cons_succ, List.setIfInBounds_toArray, List.set_cons_zero, List.set_cons_succ]
  refine wpAnyH_take (i := 7) (v := ?_) rfl (by kernel_rfl) (by kernel_rfl) (by kernel_rfl) (fun _ _ _ h => h) (Or.inl ⟨by rfl, ?_⟩) (by assumption) ?_
  rotate_left
  · (intro W _; go_simp; try with_reducible rfl)
  try simp only [Act.put, List.getElem_toArray, List.getElem_cons_zero, List.getElem_cons_succ, List.setIfInBounds_toArray, List.set_cons_zero, List.set_cons_succ]
  refine wpAnyH_take (i := 8) (v := ?_) rfl (by kernel_rfl) (by kernel_rfl) (by kernel_rfl) (fun _ _ _ h => h) (Or.inl ⟨by rfl, ?_⟩) (by assumption) ?_
  rotate_left
  · (intro W _; go_simp; try with_reducible rfl)
  try simp only [Act.put, List.getElem_toArray, List.getElem_cons_zero, List.getElem_cons_succ, List.setIfInBounds_toArray, List.set_cons_zero, List.set_cons_succ]
  refine wpAnyH_take (i := 9) (v := ?_) rfl (by kernel_rfl) (by kernel_rfl) (by kernel_rfl) (fun _ _ _ h => h) (Or.inl ⟨by rfl, ?_⟩) (by assumption) ?_
  rotate_left
  · (intro W _; go_simp; try with_reducible rfl)
  try simp only [Act.put, List.getElem_toArray, List.getElem_cons_zero, List.getElem_cons_succ, List.setIfInBounds_toArray, List.set_cons_zero, List.set_cons_succ]
  refine wpAnyH_done (by kernel_rfl) ?_ _
  go_wp2
  go_ret2
  exact ⟨rfl, And.right hH12_2⟩
end Go.Proofs.Ytiojpfljnbdonaa.oi
