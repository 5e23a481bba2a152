/- The shape of an entry: the reference. -/
import Derived.Test.YtiojpfljnbdonaaOd
namespace Go.Proofs.Ytiojpfljnbdonaa.oe
open Go.ChangeShapes Go.WideShapes Go.ChangeAt Go.RowKit Go.Proofs.Ytiojpfljnbdonaa.cx Go.Proofs.Ytiojpfljnbdonaa.ra Go.Proofs.Ytiojpfljnbdonaa.rb Go.Proofs.Ytiojpfljnbdonaa.rc Go.Proofs.Ytiojpfljnbdonaa.da Go.Proofs.Ytiojpfljnbdonaa.ea Go.Proofs.Ytiojpfljnbdonaa.eb Go.Proofs.Ytiojpfljnbdonaa.ed Go.Proofs.Ytiojpfljnbdonaa.fb Go.Proofs.Ytiojpfljnbdonaa.ka Go.Proofs.Ytiojpfljnbdonaa.kb Go.Proofs.Ytiojpfljnbdonaa.kg Go.Proofs.Ytiojpfljnbdonaa.kj Go.Proofs.Ytiojpfljnbdonaa.oa Go.Proofs.Ytiojpfljnbdonaa.os Go.Proofs.Ytiojpfljnbdonaa.ob Go.Proofs.Ytiojpfljnbdonaa.oc Go.Proofs.Ytiojpfljnbdonaa.od
set_option linter.unusedSimpArgs false

set_option maxRecDepth 4000 in
set_option maxHeartbeats 4000000 in
theorem shape1a (l t pt pp r : Int) (c : Chg) (s : ByteArray) (hf : FitsH c) (hv : validH c = false) (w : World) : Calls Try.prog 33 #[.agg (Ent.arr (Ent.mk l 1 t pt pp r c s))] w fun e' w' => e' = .returned (.tuple #[.agg (Ent.arr (Ent.mk l 1 t pt pp 0 c ⟨#[]⟩)), .bool false]) ∧ Below w.heap.size w w' := by
  have CV : Hid (Says 53 #[.agg c.arr] false) := Lib.hid fun w => by have := kb.refValid_any c w hf; rwa [hv] at this
  clear hv
  have hbd := build_ent2 l 1
  have HU : Hid True := Lib.hid trivial
  go_enter Try.func33, Try.ntmps33
  go_upto_region 5 with (first
    | (clear HU; refine wp_boxEntW (Ent.mk l 1 t pt pp r c s) rfl rfl rfl ?_; intro w0 hE hb0 z0; have E0 := Lib.hid hE; have HB0 := Lib.hid hb0; have G0 : Hid True := Lib.hid trivial; clear hE hb0)
    | (clear G0; refine wp_newEntW rfl rfl ?_; intro w1 hR hb1 z1; have R1 := Lib.hid hR; have E1 := Lib.hid (RowAt.keep E0.out hb1); have HB1 := Lib.hid (HB0.out.trans (hb1.mono HB0.out.size)); have G1 : Hid True := Lib.hid trivial; obtain ⟨a0, a1, a2, a3, a4, a5, a6, a7, a8, a9, a10, a11, a12⟩ := EnAt.all E1.out; simp only at a0 a1 a2 a3 a4 a5 a6 a7 a8 a9 a10 a11 a12; clear hR hb1 E0 HB0)
    | (clear G1; refine wp_newEntW rfl rfl ?_; intro w2 hO hb2 z2; have O2 := Lib.hid hO; have R2 := Lib.hid (RowAt.keep R1.out hb2); have E2 := Lib.hid (RowAt.keep E1.out hb2); have HB2 := Lib.hid (HB1.out.trans (hb2.mono HB1.out.size)); clear hO hb2 R1 E1 HB1 a0 a1 a2 a3 a4 a5 a6 a7 a8 a9 a10 a11 a12)
    | (clear hbd; refine wp_storeEntW (Ent.mk l 1 0 0 0 0 chg0 ⟨#[]⟩) O2.out (evals_length _) rfl rfl rfl rfl ?_; intro w3 hO hS; have O3 := Lib.hid hO; have R3 := Lib.hid (StoredAt.row hS R2.out (by omega)); have E3 := Lib.hid (StoredAt.row hS E2.out (by omega)); have HB3 := Lib.hid (StoredAt.below hS HB2.out (by omega)); clear hO hS O2 R2 E2 HB2; obtain ⟨a0, a1, a2, a3, a4, a5, a6, a7, a8, a9, a10, a11, a12⟩ := EnAt.all E3.out; simp only at a0 a1 a2 a3 a4 a5 a6 a7 a8 a9 a10 a11 a12))
  have HS3 := Lib.hid (St.add (st_nil (w := w) HB3.out) E3.out)
  clear a0 a1 a2 a3 a4 a5 a6 a7 a8 a9 a10 a11 a12 E3 HB3
  refine wp_region_held_drew (S := St [(w.heap.size, (Ent.vals (Ent.mk l 1 t pt pp r c s)))] w) (by kernel_rfl) (St.drew HS3.out) (fun hHeld => ?_)
  have r5_1 := Lib.hid (RowAt.drew O3.out)
  have r5_2 := Lib.hid (RowAt.drew R3.out)
  refine wpAnyH_take (i := 0) (v := ?_) rfl (by kernel_rfl) (by kernel_rfl) (by kernel_rfl) (fun _ _ _ h => h) (Or.inl ⟨by rfl, ?_⟩) (by assumption) ?_
  rotate_left
  · (intro W _; go_simp; try with_reducible rfl)
  try simp only [Act.put, List.getElem_toArray, List.getElem_cons_zero, List.setIfInBounds_toArray, List.set_cons_zero, List.set_cons_succ]
  refine wpAnyH_take (i := 1) (v := ?_) rfl (by kernel_rfl) (by kernel_rfl) (by kernel_rfl) (fun _ _ _ h => h) (Or.inl ⟨by rfl, ?_⟩) (by assumption) ?_
  rotate_left
  · (intro W hSw; have c0 := (St.row hSw (b := w.heap.size) (vs := (Ent.vals (Ent.mk l 1 t pt pp r c s))) (by simp)).cells 2 _ rfl; clear hSw; go_simp; try with_reducible rfl)
  try simp only [Act.put, List.getElem_toArray, List.getElem_cons_zero, List.getElem_cons_succ, List.setIfInBounds_toArray, List.set_cons_zero, List.set_cons_succ]
  refine wpAnyH_take (i := 2) (v := ?_) rfl (by kernel_rfl) (by kernel_rfl) (by kernel_rfl) (fun _ _ _ h => h) (Or.inl ⟨by rfl, ?_⟩) (by assumption) ?_
  rotate_left
  · (intro W _; go_simp; try with_reducible rfl)
  try simp only [Act.put, List.getElem_toArray, List.getElem_cons_zero, List.getElem_cons_succ, List.setIfInBounds_toArray, List.set_cons_zero, List.set_cons_succ]
  refine wpAnyH_take (i := 3) (v := ?_) rfl (by kernel_rfl) (by kernel_rfl) (by kernel_rfl) (fun _ _ _ h => h) (Or.inl ⟨by rfl, ?_⟩) (by assumption) ?_
  rotate_left
  · (intro W hSw; have c0 := (St.row hSw (b := w.heap.size) (vs := (Ent.vals (Ent.mk l 1 t pt pp r c s))) (by simp)).cells 3 _ rfl; clear hSw; go_simp; try with_reducible rfl)
  try simp only [Act.put, List.getElem_toArray, List.getElem_cons_zero, List.getElem_cons_succ, List.setIfInBounds_toArray, List.set_cons_zero, List.set_cons_succ]
  refine wpAnyH_take (i := 4) (v := ?_) rfl (by kernel_rfl) (by kernel_rfl) (by kernel_rfl) (fun _ _ _ h => h) (Or.inl ⟨by rfl, ?_⟩) (by assumption) ?_
  rotate_left
  · (intro W _; go_simp; try with_reducible rfl)
  try simp only [Act.put, List.getElem_toArray, List.getElem_cons_zero, List.getElem_cons_succ, List.setIfInBounds_toArray, List.set_cons_zero, List.set_cons_succ]
  refine wpAnyH_take (i := 5) (v := ?_) rfl (by kernel_rfl) (by kernel_rfl) (by kernel_rfl) (fun _ _ _ h => h) (Or.inl ⟨by rfl, ?_⟩) (by assumption) ?_
  rotate_left
  · (intro W hSw; have c0 := (St.row hSw (b := w.heap.size) (vs := (Ent.vals (Ent.mk l 1 t pt pp r c s))) (by simp)).cells 4 _ rfl; clear hSw; go_simp; try with_reducible rfl)
  try simp only [Act.put, List.getElem_toArray, List.getElem_cons_zero, List.getElem_cons_succ, List.setIfInBounds_toArray, List.set_cons_zero, List.set_cons_succ]
  refine wpAnyH_take (i := 6) (v := ?_) rfl (by kernel_rfl) (by kernel_rfl) (by kernel_rfl) (fun _ _ _ h => h) (Or.inl ⟨by rfl, ?_⟩) (by assumption) ?_
  rotate_left
  · (intro W _; go_simp; try with_reducible rfl)
  try simp only [Act.put, List.getElem_toArray, List.getElem_cons_zero, List.getElem_cons_succ, List.setIfInBounds_toArray, List.set_cons_zero, List.set_cons_succ]
  refine wpAnyH_take (i := 7) (v := (.agg (Chg.arr (Ent.change (Ent.mk l 1 t pt pp r c s))))) rfl (by kernel_rfl) (by kernel_rfl) (by kernel_rfl) (fun _ _ _ h => h) (yieldsIf_load_mid (by rfl) 26 _ rfl w.heap.size 6 rfl (Chg.vals (Ent.change (Ent.mk l 1 t pt pp r c s))) _ (fun W hSw => RowAt.range (St.row hSw (b := w.heap.size) (vs := (Ent.vals (Ent.mk l 1 t pt pp r c s))) (by simp)) 6 (fun j v hv => chg_in _ j v hv)) Try.underlying26 rfl info_change) (by assumption) ?_
  try simp only [Act.put, List.getElem_toArray, List.getElem_cons_zero, List.getElem_cons_succ, List.setIfInBounds_toArray, List.set_cons_zero, List.set_cons_succ]
  refine wpAnyH_take (i := 8) (v := ?_) rfl (by kernel_rfl) (by kernel_rfl) (by kernel_rfl) (fun _ _ _ h => h) (Or.inl ⟨by rfl, ?_⟩) (by assumption) ?_
  rotate_left
  · (intro W _; go_simp; try with_reducible rfl)
  try simp only [Act.put, List.getElem_toArray, List.getElem_cons_zero, List.getElem_cons_succ, List.setIfInBounds_toArray, List.set_cons_zero, List.set_cons_succ]
  refine wpAnyH_ready (rs := [9]) (by kernel_rfl) (by simp) (AllReadyH.cons rfl (fun K hK => ?_) AllReadyH.nil)
  simp only [List.getElem_toArray, List.getElem_cons_zero, List.getElem_cons_succ]
  rw [if_pos (by rfl)]
  with_reducible refine op_storeField 3 (.int .i64 t) rfl rfl info_int1 r5_1.out (show 2 < 13 by decide) (by rfl) ?_ ?_ (fun W5_3 hP5_5 hS5_6 => ?_)
  · rfl
  · rfl
  have r5_7 : Hid (EnAt w1.heap.size (Ent.mk l 1 t 0 0 0 chg0 ⟨#[]⟩) W5_3) := Lib.hid hP5_5
  have r5_8 := Lib.hid (StoredAt.row hS5_6 r5_2.out (by omega))
  refine hK.out _ _ (St.stored hHeld (by simp; omega) (by omega) hS5_6) (fun hH5_4 => ?_)
  clear hK K
  simp only [Act.put, List.setIfInBounds_toArray, List.set_cons_zero, List.set_cons_succ]
  refine wpAnyH_take (i := 10) (v := ?_) rfl (by kernel_rfl) (by kernel_rfl) (by kernel_rfl) (fun _ _ _ h => h) (Or.inl ⟨by rfl, ?_⟩) (by assumption) ?_
  rotate_left
  · (intro W _; go_simp; try with_reducible rfl)
  try simp only [Act.put, List.getElem_toArray, List.getElem_cons_zero, List.getElem_cons_succ, List.setIfInBounds_toArray, List.set_cons_zero, List.set_cons_succ]
  refine wpAnyH_ready (rs := [11]) (by kernel_rfl) (by simp) (AllReadyH.cons rfl (fun K hK => ?_) AllReadyH.nil)
  simp only [List.getElem_toArray, List.getElem_cons_zero, List.getElem_cons_succ]
  rw [if_pos (by rfl)]
  with_reducible refine op_storeField 3 (.int .i64 pt) rfl rfl info_int1 r5_7.out (show 3 < 13 by decide) (by rfl) ?_ ?_ (fun W5_9 hP5_11 hS5_12 => ?_)
  · rfl
  · rfl
  have r5_13 : Hid (EnAt w1.heap.size (Ent.mk l 1 t pt 0 0 chg0 ⟨#[]⟩) W5_9) := Lib.hid hP5_11
  have r5_14 := Lib.hid (StoredAt.row hS5_12 r5_8.out (by omega))
  refine hK.out _ _ (St.stored hH5_4 (by simp; omega) (by omega) hS5_12) (fun hH5_10 => ?_)
  clear hK K
  simp only [Act.put, List.setIfInBounds_toArray, List.set_cons_zero, List.set_cons_succ]
  refine wpAnyH_take (i := 12) (v := ?_) rfl (by kernel_rfl) (by kernel_rfl) (by kernel_rfl) (fun _ _ _ h => h) (Or.inl ⟨by rfl, ?_⟩) (by assumption) ?_
  rotate_left
  · (intro W _; go_simp; try with_reducible rfl)
  try simp only [Act.put, List.getElem_toArray, List.getElem_cons_zero, List.getElem_cons_succ, List.setIfInBounds_toArray, List.set_cons_zero, List.set_cons_succ]
  refine wpAnyH_ready (rs := [13]) (by kernel_rfl) (by simp) (AllReadyH.cons rfl (fun K hK => ?_) AllReadyH.nil)
  simp only [List.getElem_toArray, List.getElem_cons_zero, List.getElem_cons_succ]
  rw [if_pos (by rfl)]
  with_reducible refine op_storeField 3 (.int .i64 pp) rfl rfl info_int1 r5_13.out (show 4 < 13 by decide) (by rfl) ?_ ?_ (fun W5_15 hP5_17 hS5_18 => ?_)
  · rfl
  · rfl
  have r5_19 : Hid (EnAt w1.heap.size (Ent.mk l 1 t pt pp 0 chg0 ⟨#[]⟩) W5_15) := Lib.hid hP5_17
  have r5_20 := Lib.hid (StoredAt.row hS5_18 r5_14.out (by omega))
  refine hK.out _ _ (St.stored hH5_10 (by simp; omega) (by omega) hS5_18) (fun hH5_16 => ?_)
  clear hK K
  simp only [Act.put, List.setIfInBounds_toArray, List.set_cons_zero, List.set_cons_succ]
  refine wpAnyH_take (i := 14) (v := ?_) rfl (by kernel_rfl) (by kernel_rfl) (by kernel_rfl) (fun _ _ _ h => h) (Or.inl ⟨by rfl, ?_⟩) (by assumption) ?_
  rotate_left
  · (intro W _; go_simp; try with_reducible rfl)
  try simp only [Act.put, List.getElem_toArray, List.getElem_cons_zero, List.getElem_cons_succ, List.setIfInBounds_toArray, List.set_cons_zero, List.set_cons_succ]
  refine wpAnyH_ready (rs := [15]) (by kernel_rfl) (by simp) (AllReadyH.cons rfl (fun K hK => ?_) AllReadyH.nil)
  simp only [List.getElem_toArray, List.getElem_cons_zero, List.getElem_cons_succ]
  rw [if_pos (by rfl)]
  with_reducible refine op_storeChg6 c (Ent.mk l 1 t pt pp 0 chg0 ⟨#[]⟩) r5_19.out (by rfl) ?_ ?_ (fun W5_21 hP5_23 hS5_24 => ?_)
  · rfl
  · rfl
  have r5_25 : Hid (EnAt w1.heap.size (Ent.mk l 1 t pt pp 0 c ⟨#[]⟩) W5_21) := Lib.hid hP5_23
  have r5_26 := Lib.hid (StoredAt.row hS5_24 r5_20.out (by omega))
  refine hK.out _ _ (St.stored hH5_16 (by simp; omega) (by omega) hS5_24) (fun hH5_22 => ?_)
  clear hK K
  simp only [Act.put, List.setIfInBounds_toArray, List.set_cons_zero, List.set_cons_succ]
  refine wpAnyH_done (by kernel_rfl) ?_ _
  have E5 := Lib.hid (St.row hH5_22 (b := w.heap.size) (vs := Ent.vals (Ent.mk l 1 t pt pp r c s)) (by simp))
  have HB5 := Lib.hid (And.right hH5_22)
  have O5 := Lib.hid r5_25.out
  have R5 := Lib.hid r5_26.out
  obtain ⟨a0, a1, a2, a3, a4, a5, a6, a7, a8, a9, a10, a11, a12⟩ := EnAt.all E5.out
  simp only at a0 a1 a2 a3 a4 a5 a6 a7 a8 a9 a10 a11 a12
  go_upto_region 10 with (first
    | (refine wp_loadChg6 (Ent.mk l 1 t pt pp r c s) E5.out rfl rfl rfl ?_)
    | (go_at_call 53; (with_reducible refine (CV.out _).mono ?_); rintro e6 w6 ⟨rfl, hb6⟩; have O6 := Lib.hid (RowAt.keep O5.out hb6); have R6 := Lib.hid (RowAt.keep R5.out hb6); have E6 := Lib.hid (RowAt.keep E5.out hb6); have HB6 := Lib.hid (HB5.out.trans (hb6.mono HB5.out.size)); clear hb6 O5 R5 E5 HB5 a0 a1 a2 a3 a4 a5 a6 a7 a8 a9 a10 a11 a12; obtain ⟨a0, a1, a2, a3, a4, a5, a6, a7, a8, a9, a10, a11, a12⟩ := EnAt.all E6.out; simp only at a0 a1 a2 a3 a4 a5 a6 a7 a8 a9 a10 a11 a12))
  have HS6 := Lib.hid (St.add (St.add (st_nil (w := w) HB6.out) E6.out) O6.out)
  clear a0 a1 a2 a3 a4 a5 a6 a7 a8 a9 a10 a11 a12
  refine wp_region_held_drew (S := St [(w1.heap.size, (Ent.vals (Ent.mk l 1 t pt pp 0 c ⟨#[]⟩))), (w.heap.size, (Ent.vals (Ent.mk l 1 t pt pp r c s)))] w) (by kernel_rfl) (St.drew HS6.out) (fun hHeld => ?_)
  have r10_1 := Lib.hid (RowAt.drew R6.out)
  refine wpAnyH_take (i := 0) (v := (.agg (Ent.arr (Ent.mk l 1 t pt pp 0 c ⟨#[]⟩)))) rfl (by kernel_rfl) (by kernel_rfl) (by kernel_rfl) (fun _ _ _ h => h) (yieldsIf_load_mid (by rfl) 28 _ rfl w1.heap.size 0 rfl (Ent.vals (Ent.mk l 1 t pt pp 0 c ⟨#[]⟩)) _ (fun W hSw => RowAt.range (St.row hSw (b := w1.heap.size) (vs := (Ent.vals (Ent.mk l 1 t pt pp 0 c ⟨#[]⟩))) (by simp)) 0 (fun j v hv => by rw [Nat.zero_add]; exact hv)) Try.underlying28 rfl info_ent) (by assumption) ?_
  try simp only [Act.put, List.getElem_toArray, List.getElem_cons_zero, List.setIfInBounds_toArray, List.set_cons_zero, List.set_cons_succ]
  refine wpAnyH_take (i := 1) (v := ?_) rfl (by kernel_rfl) (by kernel_rfl) (by kernel_rfl) (fun _ _ _ h => h) (Or.inl ⟨by rfl, ?_⟩) (by assumption) ?_
  rotate_left
  · (intro W _; go_simp; try with_reducible rfl)
  try simp only [Act.put, List.getElem_toArray, List.getElem_cons_zero, List.getElem_cons_succ, List.setIfInBounds_toArray, List.set_cons_zero, List.set_cons_succ]
  refine wpAnyH_take (i := 2) (v := ?_) rfl (by kernel_rfl) (by kernel_rfl) (by kernel_rfl) (fun _ _ _ h => h) (Or.inl ⟨by rfl, ?_⟩) (by assumption) ?_
  rotate_left
  · (intro W _; go_simp; try with_reducible rfl)
  try simp only [Act.put, List.getElem_toArray, List.getElem_cons_zero, List.getElem_cons_succ, List.setIfInBounds_toArray, List.set_cons_zero, List.set_cons_succ]
  refine wpAnyH_take (i := 3) (v := undef) rfl (by kernel_rfl) (by kernel_rfl) (by kernel_rfl) (fun _ _ _ h => h) (Or.inr ⟨by rfl, rfl⟩) (by assumption) ?_
  try simp only [Act.put, List.getElem_toArray, List.getElem_cons_zero, List.getElem_cons_succ, List.setIfInBounds_toArray, List.set_cons_zero, List.set_cons_succ]
  refine wpAnyH_take (i := 4) (v := undef) rfl (by kernel_rfl) (by kernel_rfl) (by kernel_rfl) (fun _ _ _ h => h) (Or.inr ⟨by rfl, rfl⟩) (by assumption) ?_
  try simp only [Act.put, List.getElem_toArray, List.getElem_cons_zero, List.getElem_cons_succ, List.setIfInBounds_toArray, List.set_cons_zero, List.set_cons_succ]
  refine wpAnyH_take (i := 5) (v := undef) rfl (by kernel_rfl) (by kernel_rfl) (by kernel_rfl) (fun _ _ _ h => h) (Or.inr ⟨by rfl, rfl⟩) (by assumption) ?_
  try simp only [Act.put, List.getElem_toArray, List.getElem_cons_zero, List.getElem_cons_succ, List.setIfInBounds_toArray, List.set_cons_zero, List.set_cons_succ]
  refine wpAnyH_take (i := 6) (v := ?_) rfl (by kernel_rfl) (by kernel_rfl) (by kernel_rfl) (fun _ _ _ h => h) (Or.inl ⟨by rfl, ?_⟩) (by assumption) ?_
  rotate_left
  · (intro W _; go_simp; try with_reducible rfl)
  try simp only [Act.put, List.getElem_toArray, List.getElem_cons_zero, List.getElem_cons_succ, List.setIfInBounds_toArray, List.set_cons_zero, List.set_cons_succ]
  refine wpAnyH_take (i := 7) (v := ?_) rfl (by kernel_rfl) (by kernel_rfl) (by kernel_rfl) (fun _ _ _ h => h) (Or.inl ⟨by rfl, ?_⟩) (by assumption) ?_
  rotate_left
  · (intro W _; go_simp; try with_reducible rfl)
  try simp only [Act.put, List.getElem_toArray, List.getElem_cons_zero, List.getElem_cons_succ, List.setIfInBounds_toArray, List.set_cons_zero, List.set_cons_succ]
  refine wpAnyH_take (i := 8) (v := undef) rfl (by kernel_rfl) (by kernel_rfl) (by kernel_rfl) (fun _ _ _ h => h) (Or.inr ⟨by rfl, rfl⟩) (by assumption) ?_
  try simp only [Act.put, List.getElem_toArray, List.getElem_cons_zero, List.getElem_cons_succ, List.setIfInBounds_toArray, List.set_cons_zero, List.set_cons_succ]
  refine wpAnyH_take (i := 9) (v := undef) rfl (by kernel_rfl) (by kernel_rfl) (by kernel_rfl) (fun _ _ _ h => h) (Or.inr ⟨by rfl, rfl⟩) (by assumption) ?_
  try simp only [Act.put, List.getElem_toArray, List.getElem_cons_zero, List.getElem_cons_succ, List.setIfInBounds_toArray, List.set_cons_zero, List.set_cons_succ]
  refine wpAnyH_take (i := 10) (v := undef) rfl (by kernel_rfl) (by kernel_rfl) (by kernel_rfl) (fun _ _ _ h => h) (Or.inr ⟨by rfl, rfl⟩) (by assumption) ?_
  try simp only [Act.put, List.getElem_toArray, List.getElem_cons_zero, List.getElem_cons_succ, List.setIfInBounds_toArray, List.set_cons_zero, List.set_cons_succ]
  refine wpAnyH_take (i := 11) (v := ?_) rfl (by kernel_rfl) (by kernel_rfl) (by kernel_rfl) (fun _ _ _ h => h) (Or.inl ⟨by rfl, ?_⟩) (by assumption) ?_
  rotate_left
  · (intro W _; go_simp; try with_reducible rfl)
  try simp only [Act.put, List.getElem_toArray, List.getElem_cons_zero, List.getElem_cons_succ, List.setIfInBounds_toArray, List.set_cons_zero, List.set_cons_succ]
  refine wpAnyH_ready (rs := [12]) (by kernel_rfl) (by simp) (AllReadyH.cons rfl (fun K hK => ?_) AllReadyH.nil)
  simp only [List.getElem_toArray, List.getElem_cons_zero, List.getElem_cons_succ]
  rw [if_pos (by rfl)]
  with_reducible refine op_storeEnt (Ent.mk l 1 t pt pp 0 c ⟨#[]⟩) r10_1.out (evals_length _) (by rfl) ?_ ?_ (fun W10_2 hP10_4 hS10_5 => ?_)
  · rfl
  · rfl
  have r10_6 : Hid (EnAt w0.heap.size (Ent.mk l 1 t pt pp 0 c ⟨#[]⟩) W10_2) := Lib.hid hP10_4
  refine hK.out _ _ (St.stored hHeld (by simp; omega) (by omega) hS10_5) (fun hH10_3 => ?_)
  clear hK K
  simp only [Act.put, List.setIfInBounds_toArray, List.set_cons_zero, List.set_cons_succ]
  refine wpAnyH_take (i := 13) (v := ?_) rfl (by kernel_rfl) (by kernel_rfl) (by kernel_rfl) (fun _ _ _ h => h) (Or.inl ⟨by rfl, ?_⟩) (by assumption) ?_
  rotate_left
  · (intro W _; go_simp; try with_reducible rfl)
  try simp only [Act.put, List.getElem_toArray, List.getElem_cons_zero, List.getElem_cons_succ, List.setIfInBounds_toArray, List.set_cons_zero, List.set_cons_succ]
  refine wpAnyH_done (by kernel_rfl) ?_ _
  go_wp2
  exact bodyPost_ret (res_entE rfl rfl r10_6.out) rfl ⟨rfl, And.right hH10_3⟩

set_option maxRecDepth 4000 in
set_option maxHeartbeats 4000000 in
theorem shape1b (l t pt pp r : Int) (c : Chg) (s : ByteArray) (hf : FitsH c) (hv : validH c = true) (h1 : ¬ 1 ≤ t) (w : World) : Calls Try.prog 33 #[.agg (Ent.arr (Ent.mk l 1 t pt pp r c s))] w fun e' w' => e' = .returned (.tuple #[.agg (Ent.arr (Ent.mk l 1 t pt pp 0 c ⟨#[]⟩)), .bool false]) ∧ Below w.heap.size w w' := by
  have CV : Hid (Says 53 #[.agg c.arr] true) := Lib.hid fun w => by have := kb.refValid_any c w hf; rwa [hv] at this
  clear hv
  have d1 : decide (1 ≤ t) = false := by simpa using h1
  have hbd := build_ent2 l 1
  have HU : Hid True := Lib.hid trivial
  go_enter Try.func33, Try.ntmps33
  go_upto_region 5 with (first
    | (clear HU; refine wp_boxEntW (Ent.mk l 1 t pt pp r c s) rfl rfl rfl ?_; intro w0 hE hb0 z0; have E0 := Lib.hid hE; have HB0 := Lib.hid hb0; have G0 : Hid True := Lib.hid trivial; clear hE hb0)
    | (clear G0; refine wp_newEntW rfl rfl ?_; intro w1 hR hb1 z1; have R1 := Lib.hid hR; have E1 := Lib.hid (RowAt.keep E0.out hb1); have HB1 := Lib.hid (HB0.out.trans (hb1.mono HB0.out.size)); have G1 : Hid True := Lib.hid trivial; obtain ⟨a0, a1, a2, a3, a4, a5, a6, a7, a8, a9, a10, a11, a12⟩ := EnAt.all E1.out; simp only at a0 a1 a2 a3 a4 a5 a6 a7 a8 a9 a10 a11 a12; clear hR hb1 E0 HB0)
    | (clear G1; refine wp_newEntW rfl rfl ?_; intro w2 hO hb2 z2; have O2 := Lib.hid hO; have R2 := Lib.hid (RowAt.keep R1.out hb2); have E2 := Lib.hid (RowAt.keep E1.out hb2); have HB2 := Lib.hid (HB1.out.trans (hb2.mono HB1.out.size)); clear hO hb2 R1 E1 HB1 a0 a1 a2 a3 a4 a5 a6 a7 a8 a9 a10 a11 a12)
    | (clear hbd; refine wp_storeEntW (Ent.mk l 1 0 0 0 0 chg0 ⟨#[]⟩) O2.out (evals_length _) rfl rfl rfl rfl ?_; intro w3 hO hS; have O3 := Lib.hid hO; have R3 := Lib.hid (StoredAt.row hS R2.out (by omega)); have E3 := Lib.hid (StoredAt.row hS E2.out (by omega)); have HB3 := Lib.hid (StoredAt.below hS HB2.out (by omega)); clear hO hS O2 R2 E2 HB2; obtain ⟨a0, a1, a2, a3, a4, a5, a6, a7, a8, a9, a10, a11, a12⟩ := EnAt.all E3.out; simp only at a0 a1 a2 a3 a4 a5 a6 a7 a8 a9 a10 a11 a12))
  have HS3 := Lib.hid (St.add (st_nil (w := w) HB3.out) E3.out)
  clear a0 a1 a2 a3 a4 a5 a6 a7 a8 a9 a10 a11 a12 E3 HB3
  refine wp_region_held_drew (S := St [(w.heap.size, (Ent.vals (Ent.mk l 1 t pt pp r c s)))] w) (by kernel_rfl) (St.drew HS3.out) (fun hHeld => ?_)
  have r5_1 := Lib.hid (RowAt.drew O3.out)
  have r5_2 := Lib.hid (RowAt.drew R3.out)
  refine wpAnyH_take (i := 0) (v := ?_) rfl (by kernel_rfl) (by kernel_rfl) (by kernel_rfl) (fun _ _ _ h => h) (Or.inl ⟨by rfl, ?_⟩) (by assumption) ?_
  rotate_left
  · (intro W _; go_simp; try with_reducible rfl)
  try simp only [Act.put, List.getElem_toArray, List.getElem_cons_zero, List.setIfInBounds_toArray, List.set_cons_zero, List.set_cons_succ]
  refine wpAnyH_take (i := 1) (v := ?_) rfl (by kernel_rfl) (by kernel_rfl) (by kernel_rfl) (fun _ _ _ h => h) (Or.inl ⟨by rfl, ?_⟩) (by assumption) ?_
  rotate_left
  · (intro W hSw; have c0 := (St.row hSw (b := w.heap.size) (vs := (Ent.vals (Ent.mk l 1 t pt pp r c s))) (by simp)).cells 2 _ rfl; clear hSw; go_simp; try with_reducible rfl)
  try simp only [Act.put, List.getElem_toArray, List.getElem_cons_zero, List.getElem_cons_succ, List.setIfInBounds_toArray, List.set_cons_zero, List.set_cons_succ]
  refine wpAnyH_take (i := 2) (v := ?_) rfl (by kernel_rfl) (by kernel_rfl) (by kernel_rfl) (fun _ _ _ h => h) (Or.inl ⟨by rfl, ?_⟩) (by assumption) ?_
  rotate_left
  · (intro W _; go_simp; try with_reducible rfl)
  try simp only [Act.put, List.getElem_toArray, List.getElem_cons_zero, List.getElem_cons_succ, List.setIfInBounds_toArray, List.set_cons_zero, List.set_cons_succ]
  refine wpAnyH_take (i := 3) (v := ?_) rfl (by kernel_rfl) (by kernel_rfl) (by kernel_rfl) (fun _ _ _ h => h) (Or.inl ⟨by rfl, ?_⟩) (by assumption) ?_
  rotate_left
  · (intro W hSw; have c0 := (St.row hSw (b := w.heap.size) (vs := (Ent.vals (Ent.mk l 1 t pt pp r c s))) (by simp)).cells 3 _ rfl; clear hSw; go_simp; try with_reducible rfl)
  try simp only [Act.put, List.getElem_toArray, List.getElem_cons_zero, List.getElem_cons_succ, List.setIfInBounds_toArray, List.set_cons_zero, List.set_cons_succ]
  refine wpAnyH_take (i := 4) (v := ?_) rfl (by kernel_rfl) (by kernel_rfl) (by kernel_rfl) (fun _ _ _ h => h) (Or.inl ⟨by rfl, ?_⟩) (by assumption) ?_
  rotate_left
  · (intro W _; go_simp; try with_reducible rfl)
  try simp only [Act.put, List.getElem_toArray, List.getElem_cons_zero, List.getElem_cons_succ, List.setIfInBounds_toArray, List.set_cons_zero, List.set_cons_succ]
  refine wpAnyH_take (i := 5) (v := ?_) rfl (by kernel_rfl) (by kernel_rfl) (by kernel_rfl) (fun _ _ _ h => h) (Or.inl ⟨by rfl, ?_⟩) (by assumption) ?_
  rotate_left
  · (intro W hSw; have c0 := (St.row hSw (b := w.heap.size) (vs := (Ent.vals (Ent.mk l 1 t pt pp r c s))) (by simp)).cells 4 _ rfl; clear hSw; go_simp; try with_reducible rfl)
  try simp only [Act.put, List.getElem_toArray, List.getElem_cons_zero, List.getElem_cons_succ, List.setIfInBounds_toArray, List.set_cons_zero, List.set_cons_succ]
  refine wpAnyH_take (i := 6) (v := ?_) rfl (by kernel_rfl) (by kernel_rfl) (by kernel_rfl) (fun _ _ _ h => h) (Or.inl ⟨by rfl, ?_⟩) (by assumption) ?_
  rotate_left
  · (intro W _; go_simp; try with_reducible rfl)
  try simp only [Act.put, List.getElem_toArray, List.getElem_cons_zero, List.getElem_cons_succ, List.setIfInBounds_toArray, List.set_cons_zero, List.set_cons_succ]
  refine wpAnyH_take (i := 7) (v := (.agg (Chg.arr (Ent.change (Ent.mk l 1 t pt pp r c s))))) rfl (by kernel_rfl) (by kernel_rfl) (by kernel_rfl) (fun _ _ _ h => h) (yieldsIf_load_mid (by rfl) 26 _ rfl w.heap.size 6 rfl (Chg.vals (Ent.change (Ent.mk l 1 t pt pp r c s))) _ (fun W hSw => RowAt.range (St.row hSw (b := w.heap.size) (vs := (Ent.vals (Ent.mk l 1 t pt pp r c s))) (by simp)) 6 (fun j v hv => chg_in _ j v hv)) Try.underlying26 rfl info_change) (by assumption) ?_
  try simp only [Act.put, List.getElem_toArray, List.getElem_cons_zero, List.getElem_cons_succ, List.setIfInBounds_toArray, List.set_cons_zero, List.set_cons_succ]
  refine wpAnyH_take (i := 8) (v := ?_) rfl (by kernel_rfl) (by kernel_rfl) (by kernel_rfl) (fun _ _ _ h => h) (Or.inl ⟨by rfl, ?_⟩) (by assumption) ?_
  rotate_left
  · (intro W _; go_simp; try with_reducible rfl)
  try simp only [Act.put, List.getElem_toArray, List.getElem_cons_zero, List.getElem_cons_succ, List.setIfInBounds_toArray, List.set_cons_zero, List.set_cons_succ]
  refine wpAnyH_ready (rs := [9]) (by kernel_rfl) (by simp) (AllReadyH.cons rfl (fun K hK => ?_) AllReadyH.nil)
  simp only [List.getElem_toArray, List.getElem_cons_zero, List.getElem_cons_succ]
  rw [if_pos (by rfl)]
  with_reducible refine op_storeField 3 (.int .i64 t) rfl rfl info_int1 r5_1.out (show 2 < 13 by decide) (by rfl) ?_ ?_ (fun W5_3 hP5_5 hS5_6 => ?_)
  · rfl
  · rfl
  have r5_7 : Hid (EnAt w1.heap.size (Ent.mk l 1 t 0 0 0 chg0 ⟨#[]⟩) W5_3) := Lib.hid hP5_5
  have r5_8 := Lib.hid (StoredAt.row hS5_6 r5_2.out (by omega))
  refine hK.out _ _ (St.stored hHeld (by simp; omega) (by omega) hS5_6) (fun hH5_4 => ?_)
  clear hK K
  simp only [Act.put, List.setIfInBounds_toArray, List.set_cons_zero, List.set_cons_succ]
  refine wpAnyH_take (i := 10) (v := ?_) rfl (by kernel_rfl) (by kernel_rfl) (by kernel_rfl) (fun _ _ _ h => h) (Or.inl ⟨by rfl, ?_⟩) (by assumption) ?_
  rotate_left
  · (intro W _; go_simp; try with_reducible rfl)
  try simp only [Act.put, List.getElem_toArray, List.getElem_cons_zero, List.getElem_cons_succ, List.setIfInBounds_toArray, List.set_cons_zero, List.set_cons_succ]
  refine wpAnyH_ready (rs := [11]) (by kernel_rfl) (by simp) (AllReadyH.cons rfl (fun K hK => ?_) AllReadyH.nil)
  simp only [List.getElem_toArray, List.getElem_cons_zero, List.getElem_cons_succ]
  rw [if_pos (by rfl)]
  with_reducible refine op_storeField 3 (.int .i64 pt) rfl rfl info_int1 r5_7.out (show 3 < 13 by decide) (by rfl) ?_ ?_ (fun W5_9 hP5_11 hS5_12 => ?_)
  · rfl
  · rfl
  have r5_13 : Hid (EnAt w1.heap.size (Ent.mk l 1 t pt 0 0 chg0 ⟨#[]⟩) W5_9) := Lib.hid hP5_11
  have r5_14 := Lib.hid (StoredAt.row hS5_12 r5_8.out (by omega))
  refine hK.out _ _ (St.stored hH5_4 (by simp; omega) (by omega) hS5_12) (fun hH5_10 => ?_)
  clear hK K
  simp only [Act.put, List.setIfInBounds_toArray, List.set_cons_zero, List.set_cons_succ]
  refine wpAnyH_take (i := 12) (v := ?_) rfl (by kernel_rfl) (by kernel_rfl) (by kernel_rfl) (fun _ _ _ h => h) (Or.inl ⟨by rfl, ?_⟩) (by assumption) ?_
  rotate_left
  · (intro W _; go_simp; try with_reducible rfl)
  try simp only [Act.put, List.getElem_toArray, List.getElem_cons_zero, List.getElem_cons_succ, List.setIfInBounds_toArray, List.set_cons_zero, List.set_cons_succ]
  refine wpAnyH_ready (rs := [13]) (by kernel_rfl) (by simp) (AllReadyH.cons rfl (fun K hK => ?_) AllReadyH.nil)
  simp only [List.getElem_toArray, List.getElem_cons_zero, List.getElem_cons_succ]
  rw [if_pos (by rfl)]
  with_reducible refine op_storeField 3 (.int .i64 pp) rfl rfl info_int1 r5_13.out (show 4 < 13 by decide) (by rfl) ?_ ?_ (fun W5_15 hP5_17 hS5_18 => ?_)
  · rfl
  · rfl
  have r5_19 : Hid (EnAt w1.heap.size (Ent.mk l 1 t pt pp 0 chg0 ⟨#[]⟩) W5_15) := Lib.hid hP5_17
  have r5_20 := Lib.hid (StoredAt.row hS5_18 r5_14.out (by omega))
  refine hK.out _ _ (St.stored hH5_10 (by simp; omega) (by omega) hS5_18) (fun hH5_16 => ?_)
  clear hK K
  simp only [Act.put, List.setIfInBounds_toArray, List.set_cons_zero, List.set_cons_succ]
  refine wpAnyH_take (i := 14) (v := ?_) rfl (by kernel_rfl) (by kernel_rfl) (by kernel_rfl) (fun _ _ _ h => h) (Or.inl ⟨by rfl, ?_⟩) (by assumption) ?_
  rotate_left
  · (intro W _; go_simp; try with_reducible rfl)
  try simp only [Act.put, List.getElem_toArray, List.getElem_cons_zero, List.getElem_cons_succ, List.setIfInBounds_toArray, List.set_cons_zero, List.set_cons_succ]
  refine wpAnyH_ready (rs := [15]) (by kernel_rfl) (by simp) (AllReadyH.cons rfl (fun K hK => ?_) AllReadyH.nil)
  simp only [List.getElem_toArray, List.getElem_cons_zero, List.getElem_cons_succ]
  rw [if_pos (by rfl)]
  with_reducible refine op_storeChg6 c (Ent.mk l 1 t pt pp 0 chg0 ⟨#[]⟩) r5_19.out (by rfl) ?_ ?_ (fun W5_21 hP5_23 hS5_24 => ?_)
  · rfl
  · rfl
  have r5_25 : Hid (EnAt w1.heap.size (Ent.mk l 1 t pt pp 0 c ⟨#[]⟩) W5_21) := Lib.hid hP5_23
  have r5_26 := Lib.hid (StoredAt.row hS5_24 r5_20.out (by omega))
  refine hK.out _ _ (St.stored hH5_16 (by simp; omega) (by omega) hS5_24) (fun hH5_22 => ?_)
  clear hK K
  simp only [Act.put, List.setIfInBounds_toArray, List.set_cons_zero, List.set_cons_succ]
  refine wpAnyH_done (by kernel_rfl) ?_ _
  have E5 := Lib.hid (St.row hH5_22 (b := w.heap.size) (vs := Ent.vals (Ent.mk l 1 t pt pp r c s)) (by simp))
  have HB5 := Lib.hid (And.right hH5_22)
  have O5 := Lib.hid r5_25.out
  have R5 := Lib.hid r5_26.out
  obtain ⟨a0, a1, a2, a3, a4, a5, a6, a7, a8, a9, a10, a11, a12⟩ := EnAt.all E5.out
  simp only at a0 a1 a2 a3 a4 a5 a6 a7 a8 a9 a10 a11 a12
  go_upto_region 10 with (first
    | (refine wp_loadChg6 (Ent.mk l 1 t pt pp r c s) E5.out rfl rfl rfl ?_)
    | (go_at_call 53; (with_reducible refine (CV.out _).mono ?_); rintro e6 w6 ⟨rfl, hb6⟩; have O6 := Lib.hid (RowAt.keep O5.out hb6); have R6 := Lib.hid (RowAt.keep R5.out hb6); have E6 := Lib.hid (RowAt.keep E5.out hb6); have HB6 := Lib.hid (HB5.out.trans (hb6.mono HB5.out.size)); clear hb6 O5 R5 E5 HB5 a0 a1 a2 a3 a4 a5 a6 a7 a8 a9 a10 a11 a12; obtain ⟨a0, a1, a2, a3, a4, a5, a6, a7, a8, a9, a10, a11, a12⟩ := EnAt.all E6.out; simp only at a0 a1 a2 a3 a4 a5 a6 a7 a8 a9 a10 a11 a12))
  have HS6 := Lib.hid (St.add (St.add (st_nil (w := w) HB6.out) E6.out) O6.out)
  clear a0 a1 a2 a3 a4 a5 a6 a7 a8 a9 a10 a11 a12
  refine wp_region_held_drew (S := St [(w1.heap.size, (Ent.vals (Ent.mk l 1 t pt pp 0 c ⟨#[]⟩))), (w.heap.size, (Ent.vals (Ent.mk l 1 t pt pp r c s)))] w) (by kernel_rfl) (St.drew HS6.out) (fun hHeld => ?_)
  have r10_1 := Lib.hid (RowAt.drew R6.out)
  refine wpAnyH_take (i := 0) (v := (.agg (Ent.arr (Ent.mk l 1 t pt pp 0 c ⟨#[]⟩)))) rfl (by kernel_rfl) (by kernel_rfl) (by kernel_rfl) (fun _ _ _ h => h) (yieldsIf_load_mid (by rfl) 28 _ rfl w1.heap.size 0 rfl (Ent.vals (Ent.mk l 1 t pt pp 0 c ⟨#[]⟩)) _ (fun W hSw => RowAt.range (St.row hSw (b := w1.heap.size) (vs := (Ent.vals (Ent.mk l 1 t pt pp 0 c ⟨#[]⟩))) (by simp)) 0 (fun j v hv => by rw [Nat.zero_add]; exact hv)) Try.underlying28 rfl info_ent) (by assumption) ?_
  try simp only [Act.put, List.getElem_toArray, List.getElem_cons_zero, List.setIfInBounds_toArray, List.set_cons_zero, List.set_cons_succ]
  refine wpAnyH_take (i := 1) (v := ?_) rfl (by kernel_rfl) (by kernel_rfl) (by kernel_rfl) (fun _ _ _ h => h) (Or.inl ⟨by rfl, ?_⟩) (by assumption) ?_
  rotate_left
  · (intro W _; go_simp; try with_reducible rfl)
  try simp only [Act.put, List.getElem_toArray, List.getElem_cons_zero, List.getElem_cons_succ, List.setIfInBounds_toArray, List.set_cons_zero, List.set_cons_succ]
  refine wpAnyH_take (i := 2) (v := ?_) rfl (by kernel_rfl) (by kernel_rfl) (by kernel_rfl) (fun _ _ _ h => h) (Or.inl ⟨by rfl, ?_⟩) (by assumption) ?_
  rotate_left
  · (intro W _; go_simp; try with_reducible rfl)
  try simp only [Act.put, List.getElem_toArray, List.getElem_cons_zero, List.getElem_cons_succ, List.setIfInBounds_toArray, List.set_cons_zero, List.set_cons_succ]
  refine wpAnyH_take (i := 3) (v := ?_) rfl (by kernel_rfl) (by kernel_rfl) (by kernel_rfl) (fun _ _ _ h => h) (Or.inl ⟨by rfl, ?_⟩) (by assumption) ?_
  rotate_left
  · (intro W _; go_simp; try with_reducible rfl)
  try simp only [Act.put, List.getElem_toArray, List.getElem_cons_zero, List.getElem_cons_succ, List.setIfInBounds_toArray, List.set_cons_zero, List.set_cons_succ]
  refine wpAnyH_take (i := 4) (v := ?_) rfl (by kernel_rfl) (by kernel_rfl) (by kernel_rfl) (fun _ _ _ h => h) (Or.inl ⟨by rfl, ?_⟩) (by assumption) ?_
  rotate_left
  · (intro W hSw; have c0 := (St.row hSw (b := w.heap.size) (vs := (Ent.vals (Ent.mk l 1 t pt pp r c s))) (by simp)).cells 2 _ rfl; clear hSw; go_simp; try with_reducible rfl)
  try simp only [Act.put, List.getElem_toArray, List.getElem_cons_zero, List.getElem_cons_succ, List.setIfInBounds_toArray, List.set_cons_zero, List.set_cons_succ]
  refine wpAnyH_take (i := 5) (v := ?_) rfl (by kernel_rfl) (by kernel_rfl) (by kernel_rfl) (fun _ _ _ h => h) (Or.inl ⟨by rfl, ?_⟩) (by assumption) ?_
  rotate_left
  · (intro W _; go_simp; try with_reducible rfl)
  try simp only [Act.put, List.getElem_toArray, List.getElem_cons_zero, List.getElem_cons_succ, List.setIfInBounds_toArray, List.set_cons_zero, List.set_cons_succ]
  refine wpAnyH_take (i := 6) (v := ?_) rfl (by kernel_rfl) (by kernel_rfl) (by kernel_rfl) (fun _ _ _ h => h) (Or.inl ⟨by rfl, ?_⟩) (by assumption) ?_
  rotate_left
  · (intro W _; go_simp; try with_reducible rfl)
  try simp only [Act.put, List.getElem_toArray, List.getElem_cons_zero, List.getElem_cons_succ, List.setIfInBounds_toArray, List.set_cons_zero, List.set_cons_succ]
  refine wpAnyH_take (i := 7) (v := ?_) rfl (by kernel_rfl) (by kernel_rfl) (by kernel_rfl) (fun _ _ _ h => h) (Or.inl ⟨by rfl, ?_⟩) (by assumption) ?_
  rotate_left
  · (intro W _; go_simp; try with_reducible rfl)
  try simp only [Act.put, List.getElem_toArray, List.getElem_cons_zero, List.getElem_cons_succ, List.setIfInBounds_toArray, List.set_cons_zero, List.set_cons_succ]
  refine wpAnyH_take (i := 8) (v := undef) rfl (by kernel_rfl) (by kernel_rfl) (by kernel_rfl) (fun _ _ _ h => h) (Or.inr ⟨by rfl, rfl⟩) (by assumption) ?_
  try simp only [Act.put, List.getElem_toArray, List.getElem_cons_zero, List.getElem_cons_succ, List.setIfInBounds_toArray, List.set_cons_zero, List.set_cons_succ]
  refine wpAnyH_take (i := 9) (v := undef) rfl (by kernel_rfl) (by kernel_rfl) (by kernel_rfl) (fun _ _ _ h => h) (Or.inr ⟨by rfl, rfl⟩) (by assumption) ?_
  try simp only [Act.put, List.getElem_toArray, List.getElem_cons_zero, List.getElem_cons_succ, List.setIfInBounds_toArray, List.set_cons_zero, List.set_cons_succ]
  refine wpAnyH_take (i := 10) (v := undef) rfl (by kernel_rfl) (by kernel_rfl) (by kernel_rfl) (fun _ _ _ h => h) (Or.inr ⟨by rfl, rfl⟩) (by assumption) ?_
  try simp only [Act.put, List.getElem_toArray, List.getElem_cons_zero, List.getElem_cons_succ, List.setIfInBounds_toArray, List.set_cons_zero, List.set_cons_succ]
  refine wpAnyH_take (i := 11) (v := ?_) rfl (by kernel_rfl) (by kernel_rfl) (by kernel_rfl) (fun _ _ _ h => h) (Or.inl ⟨by rfl, ?_⟩) (by assumption) ?_
  rotate_left
  · (intro W _; go_simp; try with_reducible rfl)
  try simp only [Act.put, List.getElem_toArray, List.getElem_cons_zero, List.getElem_cons_succ, List.setIfInBounds_toArray, List.set_cons_zero, List.set_cons_succ]
  refine wpAnyH_ready (rs := [12]) (by kernel_rfl) (by simp) (AllReadyH.cons rfl (fun K hK => ?_) AllReadyH.nil)
  simp only [List.getElem_toArray, List.getElem_cons_zero, List.getElem_cons_succ]
  rw [if_pos (by rfl)]
  with_reducible refine op_storeEnt (Ent.mk l 1 t pt pp 0 c ⟨#[]⟩) r10_1.out (evals_length _) (by rfl) ?_ ?_ (fun W10_2 hP10_4 hS10_5 => ?_)
  · rfl
  · rfl
  have r10_6 : Hid (EnAt w0.heap.size (Ent.mk l 1 t pt pp 0 c ⟨#[]⟩) W10_2) := Lib.hid hP10_4
  refine hK.out _ _ (St.stored hHeld (by simp; omega) (by omega) hS10_5) (fun hH10_3 => ?_)
  clear hK K
  simp only [Act.put, List.setIfInBounds_toArray, List.set_cons_zero, List.set_cons_succ]
  refine wpAnyH_take (i := 13) (v := ?_) rfl (by kernel_rfl) (by kernel_rfl) (by kernel_rfl) (fun _ _ _ h => h) (Or.inl ⟨by rfl, ?_⟩) (by assumption) ?_
  rotate_left
  · (intro W _; go_simp; try with_reducible rfl)
  try simp only [Act.put, List.getElem_toArray, List.getElem_cons_zero, List.getElem_cons_succ, List.setIfInBounds_toArray, List.set_cons_zero, List.set_cons_succ]
  refine wpAnyH_done (by kernel_rfl) ?_ _
  go_wp2
  exact bodyPost_ret (res_entE rfl rfl r10_6.out) rfl ⟨rfl, And.right hH10_3⟩

set_option maxRecDepth 4000 in
set_option maxHeartbeats 4000000 in
theorem shape1c (l t pt pp r : Int) (c : Chg) (s : ByteArray) (hf : FitsH c) (hv : validH c = true) (h1 : 1 ≤ t) (w : World) : Calls Try.prog 33 #[.agg (Ent.arr (Ent.mk l 1 t pt pp r c s))] w fun e' w' => e' = .returned (.tuple #[.agg (Ent.arr (Ent.mk l 1 t pt pp 0 c ⟨#[]⟩)), .bool (decide (t ≤ 1073741824))]) ∧ Below w.heap.size w w' := by
  have CV : Hid (Says 53 #[.agg c.arr] true) := Lib.hid fun w => by have := kb.refValid_any c w hf; rwa [hv] at this
  clear hv
  have d1 : decide (1 ≤ t) = true := by simpa using h1
  have hbd := build_ent2 l 1
  have HU : Hid True := Lib.hid trivial
  go_enter Try.func33, Try.ntmps33
  go_upto_region 5 with (first
    | (clear HU; refine wp_boxEntW (Ent.mk l 1 t pt pp r c s) rfl rfl rfl ?_; intro w0 hE hb0 z0; have E0 := Lib.hid hE; have HB0 := Lib.hid hb0; have G0 : Hid True := Lib.hid trivial; clear hE hb0)
    | (clear G0; refine wp_newEntW rfl rfl ?_; intro w1 hR hb1 z1; have R1 := Lib.hid hR; have E1 := Lib.hid (RowAt.keep E0.out hb1); have HB1 := Lib.hid (HB0.out.trans (hb1.mono HB0.out.size)); have G1 : Hid True := Lib.hid trivial; obtain ⟨a0, a1, a2, a3, a4, a5, a6, a7, a8, a9, a10, a11, a12⟩ := EnAt.all E1.out; simp only at a0 a1 a2 a3 a4 a5 a6 a7 a8 a9 a10 a11 a12; clear hR hb1 E0 HB0)
    | (clear G1; refine wp_newEntW rfl rfl ?_; intro w2 hO hb2 z2; have O2 := Lib.hid hO; have R2 := Lib.hid (RowAt.keep R1.out hb2); have E2 := Lib.hid (RowAt.keep E1.out hb2); have HB2 := Lib.hid (HB1.out.trans (hb2.mono HB1.out.size)); clear hO hb2 R1 E1 HB1 a0 a1 a2 a3 a4 a5 a6 a7 a8 a9 a10 a11 a12)
    | (clear hbd; refine wp_storeEntW (Ent.mk l 1 0 0 0 0 chg0 ⟨#[]⟩) O2.out (evals_length _) rfl rfl rfl rfl ?_; intro w3 hO hS; have O3 := Lib.hid hO; have R3 := Lib.hid (StoredAt.row hS R2.out (by omega)); have E3 := Lib.hid (StoredAt.row hS E2.out (by omega)); have HB3 := Lib.hid (StoredAt.below hS HB2.out (by omega)); clear hO hS O2 R2 E2 HB2; obtain ⟨a0, a1, a2, a3, a4, a5, a6, a7, a8, a9, a10, a11, a12⟩ := EnAt.all E3.out; simp only at a0 a1 a2 a3 a4 a5 a6 a7 a8 a9 a10 a11 a12))
  have HS3 := Lib.hid (St.add (st_nil (w := w) HB3.out) E3.out)
  clear a0 a1 a2 a3 a4 a5 a6 a7 a8 a9 a10 a11 a12 E3 HB3
  refine wp_region_held_drew (S := St [(w.heap.size, (Ent.vals (Ent.mk l 1 t pt pp r c s)))] w) (by kernel_rfl) (St.drew HS3.out) (fun hHeld => ?_)
  have r5_1 := Lib.hid (RowAt.drew O3.out)
  have r5_2 := Lib.hid (RowAt.drew R3.out)
  refine wpAnyH_take (i := 0) (v := ?_) rfl (by kernel_rfl) (by kernel_rfl) (by kernel_rfl) (fun _ _ _ h => h) (Or.inl ⟨by rfl, ?_⟩) (by assumption) ?_
  rotate_left
  · (intro W _; go_simp; try with_reducible rfl)
  try simp only [Act.put, List.getElem_toArray, List.getElem_cons_zero, List.setIfInBounds_toArray, List.set_cons_zero, List.set_cons_succ]
  refine wpAnyH_take (i := 1) (v := ?_) rfl (by kernel_rfl) (by kernel_rfl) (by kernel_rfl) (fun _ _ _ h => h) (Or.inl ⟨by rfl, ?_⟩) (by assumption) ?_
  rotate_left
  · (intro W hSw; have c0 := (St.row hSw (b := w.heap.size) (vs := (Ent.vals (Ent.mk l 1 t pt pp r c s))) (by simp)).cells 2 _ rfl; clear hSw; go_simp; try with_reducible rfl)
  try simp only [Act.put, List.getElem_toArray, List.getElem_cons_zero, List.getElem_cons_succ, List.setIfInBounds_toArray, List.set_cons_zero, List.set_cons_succ]
  refine wpAnyH_take (i := 2) (v := ?_) rfl (by kernel_rfl) (by kernel_rfl) (by kernel_rfl) (fun _ _ _ h => h) (Or.inl ⟨by rfl, ?_⟩) (by assumption) ?_
  rotate_left
  · (intro W _; go_simp; try with_reducible rfl)
  try simp only [Act.put, List.getElem_toArray, List.getElem_cons_zero, List.getElem_cons_succ, List.setIfInBounds_toArray, List.set_cons_zero, List.set_cons_succ]
  refine wpAnyH_take (i := 3) (v := ?_) rfl (by kernel_rfl) (by kernel_rfl) (by kernel_rfl) (fun _ _ _ h => h) (Or.inl ⟨by rfl, ?_⟩) (by assumption) ?_
  rotate_left
  · (intro W hSw; have c0 := (St.row hSw (b := w.heap.size) (vs := (Ent.vals (Ent.mk l 1 t pt pp r c s))) (by simp)).cells 3 _ rfl; clear hSw; go_simp; try with_reducible rfl)
  try simp only [Act.put, List.getElem_toArray, List.getElem_cons_zero, List.getElem_cons_succ, List.setIfInBounds_toArray, List.set_cons_zero, List.set_cons_succ]
  refine wpAnyH_take (i := 4) (v := ?_) rfl (by kernel_rfl) (by kernel_rfl) (by kernel_rfl) (fun _ _ _ h => h) (Or.inl ⟨by rfl, ?_⟩) (by assumption) ?_
  rotate_left
  · (intro W _; go_simp; try with_reducible rfl)
  try simp only [Act.put, List.getElem_toArray, List.getElem_cons_zero, List.getElem_cons_succ, List.setIfInBounds_toArray, List.set_cons_zero, List.set_cons_succ]
  refine wpAnyH_take (i := 5) (v := ?_) rfl (by kernel_rfl) (by kernel_rfl) (by kernel_rfl) (fun _ _ _ h => h) (Or.inl ⟨by rfl, ?_⟩) (by assumption) ?_
  rotate_left
  · (intro W hSw; have c0 := (St.row hSw (b := w.heap.size) (vs := (Ent.vals (Ent.mk l 1 t pt pp r c s))) (by simp)).cells 4 _ rfl; clear hSw; go_simp; try with_reducible rfl)
  try simp only [Act.put, List.getElem_toArray, List.getElem_cons_zero, List.getElem_cons_succ, List.setIfInBounds_toArray, List.set_cons_zero, List.set_cons_succ]
  refine wpAnyH_take (i := 6) (v := ?_) rfl (by kernel_rfl) (by kernel_rfl) (by kernel_rfl) (fun _ _ _ h => h) (Or.inl ⟨by rfl, ?_⟩) (by assumption) ?_
  rotate_left
  · (intro W _; go_simp; try with_reducible rfl)
  try simp only [Act.put, List.getElem_toArray, List.getElem_cons_zero, List.getElem_cons_succ, List.setIfInBounds_toArray, List.set_cons_zero, List.set_cons_succ]
  refine wpAnyH_take (i := 7) (v := (.agg (Chg.arr (Ent.change (Ent.mk l 1 t pt pp r c s))))) rfl (by kernel_rfl) (by kernel_rfl) (by kernel_rfl) (fun _ _ _ h => h) (yieldsIf_load_mid (by rfl) 26 _ rfl w.heap.size 6 rfl (Chg.vals (Ent.change (Ent.mk l 1 t pt pp r c s))) _ (fun W hSw => RowAt.range (St.row hSw (b := w.heap.size) (vs := (Ent.vals (Ent.mk l 1 t pt pp r c s))) (by simp)) 6 (fun j v hv => chg_in _ j v hv)) Try.underlying26 rfl info_change) (by assumption) ?_
  try simp only [Act.put, List.getElem_toArray, List.getElem_cons_zero, List.getElem_cons_succ, List.setIfInBounds_toArray, List.set_cons_zero, List.set_cons_succ]
  refine wpAnyH_take (i := 8) (v := ?_) rfl (by kernel_rfl) (by kernel_rfl) (by kernel_rfl) (fun _ _ _ h => h) (Or.inl ⟨by rfl, ?_⟩) (by assumption) ?_
  rotate_left
  · (intro W _; go_simp; try with_reducible rfl)
  try simp only [Act.put, List.getElem_toArray, List.getElem_cons_zero, List.getElem_cons_succ, List.setIfInBounds_toArray, List.set_cons_zero, List.set_cons_succ]
  refine wpAnyH_ready (rs := [9]) (by kernel_rfl) (by simp) (AllReadyH.cons rfl (fun K hK => ?_) AllReadyH.nil)
  simp only [List.getElem_toArray, List.getElem_cons_zero, List.getElem_cons_succ]
  rw [if_pos (by rfl)]
  with_reducible refine op_storeField 3 (.int .i64 t) rfl rfl info_int1 r5_1.out (show 2 < 13 by decide) (by rfl) ?_ ?_ (fun W5_3 hP5_5 hS5_6 => ?_)
  · rfl
  · rfl
  have r5_7 : Hid (EnAt w1.heap.size (Ent.mk l 1 t 0 0 0 chg0 ⟨#[]⟩) W5_3) := Lib.hid hP5_5
  have r5_8 := Lib.hid (StoredAt.row hS5_6 r5_2.out (by omega))
  refine hK.out _ _ (St.stored hHeld (by simp; omega) (by omega) hS5_6) (fun hH5_4 => ?_)
  clear hK K
  simp only [Act.put, List.setIfInBounds_toArray, List.set_cons_zero, List.set_cons_succ]
  refine wpAnyH_take (i := 10) (v := ?_) rfl (by kernel_rfl) (by kernel_rfl) (by kernel_rfl) (fun _ _ _ h => h) (Or.inl ⟨by rfl, ?_⟩) (by assumption) ?_
  rotate_left
  · (intro W _; go_simp; try with_reducible rfl)
  try simp only [Act.put, List.getElem_toArray, List.getElem_cons_zero, List.getElem_cons_succ, List.setIfInBounds_toArray, List.set_cons_zero, List.set_cons_succ]
  refine wpAnyH_ready (rs := [11]) (by kernel_rfl) (by simp) (AllReadyH.cons rfl (fun K hK => ?_) AllReadyH.nil)
  simp only [List.getElem_toArray, List.getElem_cons_zero, List.getElem_cons_succ]
  rw [if_pos (by rfl)]
  with_reducible refine op_storeField 3 (.int .i64 pt) rfl rfl info_int1 r5_7.out (show 3 < 13 by decide) (by rfl) ?_ ?_ (fun W5_9 hP5_11 hS5_12 => ?_)
  · rfl
  · rfl
  have r5_13 : Hid (EnAt w1.heap.size (Ent.mk l 1 t pt 0 0 chg0 ⟨#[]⟩) W5_9) := Lib.hid hP5_11
  have r5_14 := Lib.hid (StoredAt.row hS5_12 r5_8.out (by omega))
  refine hK.out _ _ (St.stored hH5_4 (by simp; omega) (by omega) hS5_12) (fun hH5_10 => ?_)
  clear hK K
  simp only [Act.put, List.setIfInBounds_toArray, List.set_cons_zero, List.set_cons_succ]
  refine wpAnyH_take (i := 12) (v := ?_) rfl (by kernel_rfl) (by kernel_rfl) (by kernel_rfl) (fun _ _ _ h => h) (Or.inl ⟨by rfl, ?_⟩) (by assumption) ?_
  rotate_left
  · (intro W _; go_simp; try with_reducible rfl)
  try simp only [Act.put, List.getElem_toArray, List.getElem_cons_zero, List.getElem_cons_succ, List.setIfInBounds_toArray, List.set_cons_zero, List.set_cons_succ]
  refine wpAnyH_ready (rs := [13]) (by kernel_rfl) (by simp) (AllReadyH.cons rfl (fun K hK => ?_) AllReadyH.nil)
  simp only [List.getElem_toArray, List.getElem_cons_zero, List.getElem_cons_succ]
  rw [if_pos (by rfl)]
  with_reducible refine op_storeField 3 (.int .i64 pp) rfl rfl info_int1 r5_13.out (show 4 < 13 by decide) (by rfl) ?_ ?_ (fun W5_15 hP5_17 hS5_18 => ?_)
  · rfl
  · rfl
  have r5_19 : Hid (EnAt w1.heap.size (Ent.mk l 1 t pt pp 0 chg0 ⟨#[]⟩) W5_15) := Lib.hid hP5_17
  have r5_20 := Lib.hid (StoredAt.row hS5_18 r5_14.out (by omega))
  refine hK.out _ _ (St.stored hH5_10 (by simp; omega) (by omega) hS5_18) (fun hH5_16 => ?_)
  clear hK K
  simp only [Act.put, List.setIfInBounds_toArray, List.set_cons_zero, List.set_cons_succ]
  refine wpAnyH_take (i := 14) (v := ?_) rfl (by kernel_rfl) (by kernel_rfl) (by kernel_rfl) (fun _ _ _ h => h) (Or.inl ⟨by rfl, ?_⟩) (by assumption) ?_
  rotate_left
  · (intro W _; go_simp; try with_reducible rfl)
  try simp only [Act.put, List.getElem_toArray, List.getElem_cons_zero, List.getElem_cons_succ, List.setIfInBounds_toArray, List.set_cons_zero, List.set_cons_succ]
  refine wpAnyH_ready (rs := [15]) (by kernel_rfl) (by simp) (AllReadyH.cons rfl (fun K hK => ?_) AllReadyH.nil)
  simp only [List.getElem_toArray, List.getElem_cons_zero, List.getElem_cons_succ]
  rw [if_pos (by rfl)]
  with_reducible refine op_storeChg6 c (Ent.mk l 1 t pt pp 0 chg0 ⟨#[]⟩) r5_19.out (by rfl) ?_ ?_ (fun W5_21 hP5_23 hS5_24 => ?_)
  · rfl
  · rfl
  have r5_25 : Hid (EnAt w1.heap.size (Ent.mk l 1 t pt pp 0 c ⟨#[]⟩) W5_21) := Lib.hid hP5_23
  have r5_26 := Lib.hid (StoredAt.row hS5_24 r5_20.out (by omega))
  refine hK.out _ _ (St.stored hH5_16 (by simp; omega) (by omega) hS5_24) (fun hH5_22 => ?_)
  clear hK K
  simp only [Act.put, List.setIfInBounds_toArray, List.set_cons_zero, List.set_cons_succ]
  refine wpAnyH_done (by kernel_rfl) ?_ _
  have E5 := Lib.hid (St.row hH5_22 (b := w.heap.size) (vs := Ent.vals (Ent.mk l 1 t pt pp r c s)) (by simp))
  have HB5 := Lib.hid (And.right hH5_22)
  have O5 := Lib.hid r5_25.out
  have R5 := Lib.hid r5_26.out
  obtain ⟨a0, a1, a2, a3, a4, a5, a6, a7, a8, a9, a10, a11, a12⟩ := EnAt.all E5.out
  simp only at a0 a1 a2 a3 a4 a5 a6 a7 a8 a9 a10 a11 a12
  go_upto_region 10 with (first
    | (refine wp_loadChg6 (Ent.mk l 1 t pt pp r c s) E5.out rfl rfl rfl ?_)
    | (go_at_call 53; (with_reducible refine (CV.out _).mono ?_); rintro e6 w6 ⟨rfl, hb6⟩; have O6 := Lib.hid (RowAt.keep O5.out hb6); have R6 := Lib.hid (RowAt.keep R5.out hb6); have E6 := Lib.hid (RowAt.keep E5.out hb6); have HB6 := Lib.hid (HB5.out.trans (hb6.mono HB5.out.size)); clear hb6 O5 R5 E5 HB5 a0 a1 a2 a3 a4 a5 a6 a7 a8 a9 a10 a11 a12; obtain ⟨a0, a1, a2, a3, a4, a5, a6, a7, a8, a9, a10, a11, a12⟩ := EnAt.all E6.out; simp only at a0 a1 a2 a3 a4 a5 a6 a7 a8 a9 a10 a11 a12))
  have HS6 := Lib.hid (St.add (St.add (st_nil (w := w) HB6.out) E6.out) O6.out)
  clear a0 a1 a2 a3 a4 a5 a6 a7 a8 a9 a10 a11 a12
  refine wp_region_held_drew (S := St [(w1.heap.size, (Ent.vals (Ent.mk l 1 t pt pp 0 c ⟨#[]⟩))), (w.heap.size, (Ent.vals (Ent.mk l 1 t pt pp r c s)))] w) (by kernel_rfl) (St.drew HS6.out) (fun hHeld => ?_)
  have r10_1 := Lib.hid (RowAt.drew R6.out)
  refine wpAnyH_take (i := 0) (v := (.agg (Ent.arr (Ent.mk l 1 t pt pp 0 c ⟨#[]⟩)))) rfl (by kernel_rfl) (by kernel_rfl) (by kernel_rfl) (fun _ _ _ h => h) (yieldsIf_load_mid (by rfl) 28 _ rfl w1.heap.size 0 rfl (Ent.vals (Ent.mk l 1 t pt pp 0 c ⟨#[]⟩)) _ (fun W hSw => RowAt.range (St.row hSw (b := w1.heap.size) (vs := (Ent.vals (Ent.mk l 1 t pt pp 0 c ⟨#[]⟩))) (by simp)) 0 (fun j v hv => by rw [Nat.zero_add]; exact hv)) Try.underlying28 rfl info_ent) (by assumption) ?_
  try simp only [Act.put, List.getElem_toArray, List.getElem_cons_zero, List.setIfInBounds_toArray, List.set_cons_zero, List.set_cons_succ]
  refine wpAnyH_take (i := 1) (v := ?_) rfl (by kernel_rfl) (by kernel_rfl) (by kernel_rfl) (fun _ _ _ h => h) (Or.inl ⟨by rfl, ?_⟩) (by assumption) ?_
  rotate_left
  · (intro W _; go_simp; try with_reducible rfl)
  try simp only [Act.put, List.getElem_toArray, List.getElem_cons_zero, List.getElem_cons_succ, List.setIfInBounds_toArray, List.set_cons_zero, List.set_cons_succ]
  refine wpAnyH_take (i := 2) (v := ?_) rfl (by kernel_rfl) (by kernel_rfl) (by kernel_rfl) (fun _ _ _ h => h) (Or.inl ⟨by rfl, ?_⟩) (by assumption) ?_
  rotate_left
  · (intro W _; go_simp; try with_reducible rfl)
  try simp only [Act.put, List.getElem_toArray, List.getElem_cons_zero, List.getElem_cons_succ, List.setIfInBounds_toArray, List.set_cons_zero, List.set_cons_succ]
  refine wpAnyH_take (i := 3) (v := ?_) rfl (by kernel_rfl) (by kernel_rfl) (by kernel_rfl) (fun _ _ _ h => h) (Or.inl ⟨by rfl, ?_⟩) (by assumption) ?_
  rotate_left
  · (intro W _; go_simp; try with_reducible rfl)
  try simp only [Act.put, List.getElem_toArray, List.getElem_cons_zero, List.getElem_cons_succ, List.setIfInBounds_toArray, List.set_cons_zero, List.set_cons_succ]
  refine wpAnyH_take (i := 4) (v := ?_) rfl (by kernel_rfl) (by kernel_rfl) (by kernel_rfl) (fun _ _ _ h => h) (Or.inl ⟨by rfl, ?_⟩) (by assumption) ?_
  rotate_left
  · (intro W hSw; have c0 := (St.row hSw (b := w.heap.size) (vs := (Ent.vals (Ent.mk l 1 t pt pp r c s))) (by simp)).cells 2 _ rfl; clear hSw; go_simp; try with_reducible rfl)
  try simp only [Act.put, List.getElem_toArray, List.getElem_cons_zero, List.getElem_cons_succ, List.setIfInBounds_toArray, List.set_cons_zero, List.set_cons_succ]
  refine wpAnyH_take (i := 5) (v := ?_) rfl (by kernel_rfl) (by kernel_rfl) (by kernel_rfl) (fun _ _ _ h => h) (Or.inl ⟨by rfl, ?_⟩) (by assumption) ?_
  rotate_left
  · (intro W _; go_simp; try with_reducible rfl)
  try simp only [Act.put, List.getElem_toArray, List.getElem_cons_zero, List.getElem_cons_succ, List.setIfInBounds_toArray, List.set_cons_zero, List.set_cons_succ]
  refine wpAnyH_take (i := 6) (v := ?_) rfl (by kernel_rfl) (by kernel_rfl) (by kernel_rfl) (fun _ _ _ h => h) (Or.inl ⟨by rfl, ?_⟩) (by assumption) ?_
  rotate_left
  · (intro W _; go_simp; try with_reducible rfl)
  try simp only [Act.put, List.getElem_toArray, List.getElem_cons_zero, List.getElem_cons_succ, List.setIfInBounds_toArray, List.set_cons_zero, List.set_cons_succ]
  refine wpAnyH_take (i := 7) (v := ?_) rfl (by kernel_rfl) (by kernel_rfl) (by kernel_rfl) (fun _ _ _ h => h) (Or.inl ⟨by rfl, ?_⟩) (by assumption) ?_
  rotate_left
  · (intro W _; go_simp; try with_reducible rfl)
  try simp only [Act.put, List.getElem_toArray, List.getElem_cons_zero, List.getElem_cons_succ, List.setIfInBounds_toArray, List.set_cons_zero, List.set_cons_succ]
  refine wpAnyH_take (i := 8) (v := ?_) rfl (by kernel_rfl) (by kernel_rfl) (by kernel_rfl) (fun _ _ _ h => h) (Or.inl ⟨by rfl, ?_⟩) (by assumption) ?_
  rotate_left
  · (intro W _; go_simp; try with_reducible rfl)
  try simp only [Act.put, List.getElem_toArray, List.getElem_cons_zero, List.getElem_cons_succ, List.setIfInBounds_toArray, List.set_cons_zero, List.set_cons_succ]
  refine wpAnyH_take (i := 9) (v := ?_) rfl (by kernel_rfl) (by kernel_rfl) (by kernel_rfl) (fun _ _ _ h => h) (Or.inl ⟨by rfl, ?_⟩) (by assumption) ?_
  rotate_left
  · (intro W hSw; have c0 := (St.row hSw (b := w.heap.size) (vs := (Ent.vals (Ent.mk l 1 t pt pp r c s))) (by simp)).cells 2 _ rfl; clear hSw; go_simp; try with_reducible rfl)
  try simp only [Act.put, List.getElem_toArray, List.getElem_cons_zero, List.getElem_cons_succ, List.setIfInBounds_toArray, List.set_cons_zero, List.set_cons_succ]
  refine wpAnyH_take (i := 10) (v := ?_) rfl (by kernel_rfl) (by kernel_rfl) (by kernel_rfl) (fun _ _ _ h => h) (Or.inl ⟨by rfl, ?_⟩) (by assumption) ?_
  rotate_left
  · (intro W _; go_simp; try with_reducible rfl)
  try simp only [Act.put, List.getElem_toArray, List.getElem_cons_zero, List.getElem_cons_succ, List.setIfInBounds_toArray, List.set_cons_zero, List.set_cons_succ]
  refine wpAnyH_take (i := 11) (v := ?_) rfl (by kernel_rfl) (by kernel_rfl) (by kernel_rfl) (fun _ _ _ h => h) (Or.inl ⟨by rfl, ?_⟩) (by assumption) ?_
  rotate_left
  · (intro W _; go_simp; try with_reducible rfl)
  try simp only [Act.put, List.getElem_toArray, List.getElem_cons_zero, List.getElem_cons_succ, List.setIfInBounds_toArray, List.set_cons_zero, List.set_cons_succ]
  refine wpAnyH_ready (rs := [12]) (by kernel_rfl) (by simp) (AllReadyH.cons rfl (fun K hK => ?_) AllReadyH.nil)
  simp only [List.getElem_toArray, List.getElem_cons_zero, List.getElem_cons_succ]
  rw [if_pos (by rfl)]
  with_reducible refine op_storeEnt (Ent.mk l 1 t pt pp 0 c ⟨#[]⟩) r10_1.out (evals_length _) (by rfl) ?_ ?_ (fun W10_2 hP10_4 hS10_5 => ?_)
  · rfl
  · rfl
  have r10_6 : Hid (EnAt w0.heap.size (Ent.mk l 1 t pt pp 0 c ⟨#[]⟩) W10_2) := Lib.hid hP10_4
  refine hK.out _ _ (St.stored hHeld (by simp; omega) (by omega) hS10_5) (fun hH10_3 => ?_)
  clear hK K
  simp only [Act.put, List.setIfInBounds_toArray, List.set_cons_zero, List.set_cons_succ]
  refine wpAnyH_take (i := 13) (v := ?_) rfl (by kernel_rfl) (by kernel_rfl) (by kernel_rfl) (fun _ _ _ h => h) (Or.inl ⟨by rfl, ?_⟩) (by assumption) ?_
  rotate_left
  · (intro W _; go_simp; try with_reducible rfl)
  try simp only [Act.put, List.getElem_toArray, List.getElem_cons_zero, List.getElem_cons_succ, List.setIfInBounds_toArray, List.set_cons_zero, List.set_cons_succ]
  refine wpAnyH_done (by kernel_rfl) ?_ _
  go_wp2
  exact bodyPost_ret (res_entE rfl rfl r10_6.out) rfl ⟨rfl, And.right hH10_3⟩

set_option maxRecDepth 4000 in
set_option maxHeartbeats 4000000 in
theorem shape2a (l t pt pp r : Int) (c : Chg) (s : ByteArray) (hf : FitsH c) (hv : validH c = false) (w : World) : Calls Try.prog 33 #[.agg (Ent.arr (Ent.mk l 2 t pt pp r c s))] w fun e' w' => e' = .returned (.tuple #[.agg (Ent.arr (Ent.mk l 2 t pt pp r c ⟨#[]⟩)), .bool false]) ∧ Below w.heap.size w w' := by
  have CV : Hid (Says 53 #[.agg c.arr] false) := Lib.hid fun w => by have := kb.refValid_any c w hf; rwa [hv] at this
  clear hv
  have hbd := build_ent2 l 2
  have HU : Hid True := Lib.hid trivial
  go_enter Try.func33, Try.ntmps33
  go_upto_region 5 with (first
    | (clear HU; refine wp_boxEntW (Ent.mk l 2 t pt pp r c s) rfl rfl rfl ?_; intro w0 hE hb0 z0; have E0 := Lib.hid hE; have HB0 := Lib.hid hb0; have G0 : Hid True := Lib.hid trivial; clear hE hb0)
    | (clear G0; refine wp_newEntW rfl rfl ?_; intro w1 hR hb1 z1; have R1 := Lib.hid hR; have E1 := Lib.hid (RowAt.keep E0.out hb1); have HB1 := Lib.hid (HB0.out.trans (hb1.mono HB0.out.size)); have G1 : Hid True := Lib.hid trivial; obtain ⟨a0, a1, a2, a3, a4, a5, a6, a7, a8, a9, a10, a11, a12⟩ := EnAt.all E1.out; simp only at a0 a1 a2 a3 a4 a5 a6 a7 a8 a9 a10 a11 a12; clear hR hb1 E0 HB0)
    | (clear G1; refine wp_newEntW rfl rfl ?_; intro w2 hO hb2 z2; have O2 := Lib.hid hO; have R2 := Lib.hid (RowAt.keep R1.out hb2); have E2 := Lib.hid (RowAt.keep E1.out hb2); have HB2 := Lib.hid (HB1.out.trans (hb2.mono HB1.out.size)); clear hO hb2 R1 E1 HB1 a0 a1 a2 a3 a4 a5 a6 a7 a8 a9 a10 a11 a12)
    | (clear hbd; refine wp_storeEntW (Ent.mk l 2 0 0 0 0 chg0 ⟨#[]⟩) O2.out (evals_length _) rfl rfl rfl rfl ?_; intro w3 hO hS; have O3 := Lib.hid hO; have R3 := Lib.hid (StoredAt.row hS R2.out (by omega)); have E3 := Lib.hid (StoredAt.row hS E2.out (by omega)); have HB3 := Lib.hid (StoredAt.below hS HB2.out (by omega)); clear hO hS O2 R2 E2 HB2; obtain ⟨a0, a1, a2, a3, a4, a5, a6, a7, a8, a9, a10, a11, a12⟩ := EnAt.all E3.out; simp only at a0 a1 a2 a3 a4 a5 a6 a7 a8 a9 a10 a11 a12))
  have HS3 := Lib.hid (St.add (st_nil (w := w) HB3.out) E3.out)
  clear a0 a1 a2 a3 a4 a5 a6 a7 a8 a9 a10 a11 a12 E3 HB3
  refine wp_region_held_drew (S := St [(w.heap.size, (Ent.vals (Ent.mk l 2 t pt pp r c s)))] w) (by kernel_rfl) (St.drew HS3.out) (fun hHeld => ?_)
  have r5_1 := Lib.hid (RowAt.drew O3.out)
  have r5_2 := Lib.hid (RowAt.drew R3.out)
  refine wpAnyH_take (i := 0) (v := ?_) rfl (by kernel_rfl) (by kernel_rfl) (by kernel_rfl) (fun _ _ _ h => h) (Or.inl ⟨by rfl, ?_⟩) (by assumption) ?_
  rotate_left
  · (intro W _; go_simp; try with_reducible rfl)
  try simp only [Act.put, List.getElem_toArray, List.getElem_cons_zero, List.setIfInBounds_toArray, List.set_cons_zero, List.set_cons_succ]
  refine wpAnyH_take (i := 1) (v := ?_) rfl (by kernel_rfl) (by kernel_rfl) (by kernel_rfl) (fun _ _ _ h => h) (Or.inl ⟨by rfl, ?_⟩) (by assumption) ?_
  rotate_left
  · (intro W hSw; have c0 := (St.row hSw (b := w.heap.size) (vs := (Ent.vals (Ent.mk l 2 t pt pp r c s))) (by simp)).cells 2 _ rfl; clear hSw; go_simp; try with_reducible rfl)
  try simp only [Act.put, List.getElem_toArray, List.getElem_cons_zero, List.getElem_cons_succ, List.setIfInBounds_toArray, List.set_cons_zero, List.set_cons_succ]
  refine wpAnyH_take (i := 2) (v := ?_) rfl (by kernel_rfl) (by kernel_rfl) (by kernel_rfl) (fun _ _ _ h => h) (Or.inl ⟨by rfl, ?_⟩) (by assumption) ?_
  rotate_left
  · (intro W _; go_simp; try with_reducible rfl)
  try simp only [Act.put, List.getElem_toArray, List.getElem_cons_zero, List.getElem_cons_succ, List.setIfInBounds_toArray, List.set_cons_zero, List.set_cons_succ]
  refine wpAnyH_take (i := 3) (v := ?_) rfl (by kernel_rfl) (by kernel_rfl) (by kernel_rfl) (fun _ _ _ h => h) (Or.inl ⟨by rfl, ?_⟩) (by assumption) ?_
  rotate_left
  · (intro W hSw; have c0 := (St.row hSw (b := w.heap.size) (vs := (Ent.vals (Ent.mk l 2 t pt pp r c s))) (by simp)).cells 3 _ rfl; clear hSw; go_simp; try with_reducible rfl)
  try simp only [Act.put, List.getElem_toArray, List.getElem_cons_zero, List.getElem_cons_succ, List.setIfInBounds_toArray, List.set_cons_zero, List.set_cons_succ]
  refine wpAnyH_take (i := 4) (v := ?_) rfl (by kernel_rfl) (by kernel_rfl) (by kernel_rfl) (fun _ _ _ h => h) (Or.inl ⟨by rfl, ?_⟩) (by assumption) ?_
  rotate_left
  · (intro W _; go_simp; try with_reducible rfl)
  try simp only [Act.put, List.getElem_toArray, List.getElem_cons_zero, List.getElem_cons_succ, List.setIfInBounds_toArray, List.set_cons_zero, List.set_cons_succ]
  refine wpAnyH_take (i := 5) (v := ?_) rfl (by kernel_rfl) (by kernel_rfl) (by kernel_rfl) (fun _ _ _ h => h) (Or.inl ⟨by rfl, ?_⟩) (by assumption) ?_
  rotate_left
  · (intro W hSw; have c0 := (St.row hSw (b := w.heap.size) (vs := (Ent.vals (Ent.mk l 2 t pt pp r c s))) (by simp)).cells 4 _ rfl; clear hSw; go_simp; try with_reducible rfl)
  try simp only [Act.put, List.getElem_toArray, List.getElem_cons_zero, List.getElem_cons_succ, List.setIfInBounds_toArray, List.set_cons_zero, List.set_cons_succ]
  refine wpAnyH_take (i := 6) (v := ?_) rfl (by kernel_rfl) (by kernel_rfl) (by kernel_rfl) (fun _ _ _ h => h) (Or.inl ⟨by rfl, ?_⟩) (by assumption) ?_
  rotate_left
  · (intro W _; go_simp; try with_reducible rfl)
  try simp only [Act.put, List.getElem_toArray, List.getElem_cons_zero, List.getElem_cons_succ, List.setIfInBounds_toArray, List.set_cons_zero, List.set_cons_succ]
  refine wpAnyH_take (i := 7) (v := (.agg (Chg.arr (Ent.change (Ent.mk l 2 t pt pp r c s))))) rfl (by kernel_rfl) (by kernel_rfl) (by kernel_rfl) (fun _ _ _ h => h) (yieldsIf_load_mid (by rfl) 26 _ rfl w.heap.size 6 rfl (Chg.vals (Ent.change (Ent.mk l 2 t pt pp r c s))) _ (fun W hSw => RowAt.range (St.row hSw (b := w.heap.size) (vs := (Ent.vals (Ent.mk l 2 t pt pp r c s))) (by simp)) 6 (fun j v hv => chg_in _ j v hv)) Try.underlying26 rfl info_change) (by assumption) ?_
  try simp only [Act.put, List.getElem_toArray, List.getElem_cons_zero, List.getElem_cons_succ, List.setIfInBounds_toArray, List.set_cons_zero, List.set_cons_succ]
  refine wpAnyH_take (i := 8) (v := ?_) rfl (by kernel_rfl) (by kernel_rfl) (by kernel_rfl) (fun _ _ _ h => h) (Or.inl ⟨by rfl, ?_⟩) (by assumption) ?_
  rotate_left
  · (intro W _; go_simp; try with_reducible rfl)
  try simp only [Act.put, List.getElem_toArray, List.getElem_cons_zero, List.getElem_cons_succ, List.setIfInBounds_toArray, List.set_cons_zero, List.set_cons_succ]
  refine wpAnyH_ready (rs := [9]) (by kernel_rfl) (by simp) (AllReadyH.cons rfl (fun K hK => ?_) AllReadyH.nil)
  simp only [List.getElem_toArray, List.getElem_cons_zero, List.getElem_cons_succ]
  rw [if_pos (by rfl)]
  with_reducible refine op_storeField 3 (.int .i64 t) rfl rfl info_int1 r5_1.out (show 2 < 13 by decide) (by rfl) ?_ ?_ (fun W5_3 hP5_5 hS5_6 => ?_)
  · rfl
  · rfl
  have r5_7 : Hid (EnAt w1.heap.size (Ent.mk l 2 t 0 0 0 chg0 ⟨#[]⟩) W5_3) := Lib.hid hP5_5
  have r5_8 := Lib.hid (StoredAt.row hS5_6 r5_2.out (by omega))
  refine hK.out _ _ (St.stored hHeld (by simp; omega) (by omega) hS5_6) (fun hH5_4 => ?_)
  clear hK K
  simp only [Act.put, List.setIfInBounds_toArray, List.set_cons_zero, List.set_cons_succ]
  refine wpAnyH_take (i := 10) (v := ?_) rfl (by kernel_rfl) (by kernel_rfl) (by kernel_rfl) (fun _ _ _ h => h) (Or.inl ⟨by rfl, ?_⟩) (by assumption) ?_
  rotate_left
  · (intro W _; go_simp; try with_reducible rfl)
  try simp only [Act.put, List.getElem_toArray, List.getElem_cons_zero, List.getElem_cons_succ, List.setIfInBounds_toArray, List.set_cons_zero, List.set_cons_succ]
  refine wpAnyH_ready (rs := [11]) (by kernel_rfl) (by simp) (AllReadyH.cons rfl (fun K hK => ?_) AllReadyH.nil)
  simp only [List.getElem_toArray, List.getElem_cons_zero, List.getElem_cons_succ]
  rw [if_pos (by rfl)]
  with_reducible refine op_storeField 3 (.int .i64 pt) rfl rfl info_int1 r5_7.out (show 3 < 13 by decide) (by rfl) ?_ ?_ (fun W5_9 hP5_11 hS5_12 => ?_)
  · rfl
  · rfl
  have r5_13 : Hid (EnAt w1.heap.size (Ent.mk l 2 t pt 0 0 chg0 ⟨#[]⟩) W5_9) := Lib.hid hP5_11
  have r5_14 := Lib.hid (StoredAt.row hS5_12 r5_8.out (by omega))
  refine hK.out _ _ (St.stored hH5_4 (by simp; omega) (by omega) hS5_12) (fun hH5_10 => ?_)
  clear hK K
  simp only [Act.put, List.setIfInBounds_toArray, List.set_cons_zero, List.set_cons_succ]
  refine wpAnyH_take (i := 12) (v := ?_) rfl (by kernel_rfl) (by kernel_rfl) (by kernel_rfl) (fun _ _ _ h => h) (Or.inl ⟨by rfl, ?_⟩) (by assumption) ?_
  rotate_left
  · (intro W _; go_simp; try with_reducible rfl)
  try simp only [Act.put, List.getElem_toArray, List.getElem_cons_zero, List.getElem_cons_succ, List.setIfInBounds_toArray, List.set_cons_zero, List.set_cons_succ]
  refine wpAnyH_ready (rs := [13]) (by kernel_rfl) (by simp) (AllReadyH.cons rfl (fun K hK => ?_) AllReadyH.nil)
  simp only [List.getElem_toArray, List.getElem_cons_zero, List.getElem_cons_succ]
  rw [if_pos (by rfl)]
  with_reducible refine op_storeField 3 (.int .i64 pp) rfl rfl info_int1 r5_13.out (show 4 < 13 by decide) (by rfl) ?_ ?_ (fun W5_15 hP5_17 hS5_18 => ?_)
  · rfl
  · rfl
  have r5_19 : Hid (EnAt w1.heap.size (Ent.mk l 2 t pt pp 0 chg0 ⟨#[]⟩) W5_15) := Lib.hid hP5_17
  have r5_20 := Lib.hid (StoredAt.row hS5_18 r5_14.out (by omega))
  refine hK.out _ _ (St.stored hH5_10 (by simp; omega) (by omega) hS5_18) (fun hH5_16 => ?_)
  clear hK K
  simp only [Act.put, List.setIfInBounds_toArray, List.set_cons_zero, List.set_cons_succ]
  refine wpAnyH_take (i := 14) (v := ?_) rfl (by kernel_rfl) (by kernel_rfl) (by kernel_rfl) (fun _ _ _ h => h) (Or.inl ⟨by rfl, ?_⟩) (by assumption) ?_
  rotate_left
  · (intro W _; go_simp; try with_reducible rfl)
  try simp only [Act.put, List.getElem_toArray, List.getElem_cons_zero, List.getElem_cons_succ, List.setIfInBounds_toArray, List.set_cons_zero, List.set_cons_succ]
  refine wpAnyH_ready (rs := [15]) (by kernel_rfl) (by simp) (AllReadyH.cons rfl (fun K hK => ?_) AllReadyH.nil)
  simp only [List.getElem_toArray, List.getElem_cons_zero, List.getElem_cons_succ]
  rw [if_pos (by rfl)]
  with_reducible refine op_storeChg6 c (Ent.mk l 2 t pt pp 0 chg0 ⟨#[]⟩) r5_19.out (by rfl) ?_ ?_ (fun W5_21 hP5_23 hS5_24 => ?_)
  · rfl
  · rfl
  have r5_25 : Hid (EnAt w1.heap.size (Ent.mk l 2 t pt pp 0 c ⟨#[]⟩) W5_21) := Lib.hid hP5_23
  have r5_26 := Lib.hid (StoredAt.row hS5_24 r5_20.out (by omega))
  refine hK.out _ _ (St.stored hH5_16 (by simp; omega) (by omega) hS5_24) (fun hH5_22 => ?_)
  clear hK K
  simp only [Act.put, List.setIfInBounds_toArray, List.set_cons_zero, List.set_cons_succ]
  refine wpAnyH_done (by kernel_rfl) ?_ _
  have E5 := Lib.hid (St.row hH5_22 (b := w.heap.size) (vs := Ent.vals (Ent.mk l 2 t pt pp r c s)) (by simp))
  have HB5 := Lib.hid (And.right hH5_22)
  have O5 := Lib.hid r5_25.out
  have R5 := Lib.hid r5_26.out
  obtain ⟨a0, a1, a2, a3, a4, a5, a6, a7, a8, a9, a10, a11, a12⟩ := EnAt.all E5.out
  simp only at a0 a1 a2 a3 a4 a5 a6 a7 a8 a9 a10 a11 a12
  go_upto_region 10 with (first
    | (refine wp_loadChg6 (Ent.mk l 2 t pt pp r c s) E5.out rfl rfl rfl ?_)
    | (go_at_call 53; (with_reducible refine (CV.out _).mono ?_); rintro e6 w6 ⟨rfl, hb6⟩; have O6 := Lib.hid (RowAt.keep O5.out hb6); have R6 := Lib.hid (RowAt.keep R5.out hb6); have E6 := Lib.hid (RowAt.keep E5.out hb6); have HB6 := Lib.hid (HB5.out.trans (hb6.mono HB5.out.size)); clear hb6 O5 R5 E5 HB5 a0 a1 a2 a3 a4 a5 a6 a7 a8 a9 a10 a11 a12; obtain ⟨a0, a1, a2, a3, a4, a5, a6, a7, a8, a9, a10, a11, a12⟩ := EnAt.all E6.out; simp only at a0 a1 a2 a3 a4 a5 a6 a7 a8 a9 a10 a11 a12)
    | (refine wp_storeFieldW 3 (.int .i64 r) rfl rfl info_int1 O6.out (show 5 < 13 by decide) rfl rfl rfl rfl ?_; intro w7 hO hS; have O7 : Hid (EnAt w1.heap.size (Ent.mk l 2 t pt pp r c ⟨#[]⟩) w7) := Lib.hid hO; have R7 := Lib.hid (StoredAt.row hS R6.out (by omega)); have E7 := Lib.hid (StoredAt.row hS E6.out (by omega)); have HB7 := Lib.hid (StoredAt.below hS HB6.out (by omega)); clear hO hS O6 R6 E6 HB6 a0 a1 a2 a3 a4 a5 a6 a7 a8 a9 a10 a11 a12; obtain ⟨a0, a1, a2, a3, a4, a5, a6, a7, a8, a9, a10, a11, a12⟩ := EnAt.all E7.out; simp only at a0 a1 a2 a3 a4 a5 a6 a7 a8 a9 a10 a11 a12))
  have HS7 := Lib.hid (St.add (St.add (st_nil (w := w) HB7.out) E7.out) O7.out)
  clear a0 a1 a2 a3 a4 a5 a6 a7 a8 a9 a10 a11 a12
  refine wp_region_held_drew (S := St [(w1.heap.size, (Ent.vals (Ent.mk l 2 t pt pp r c ⟨#[]⟩))), (w.heap.size, (Ent.vals (Ent.mk l 2 t pt pp r c s)))] w) (by kernel_rfl) (St.drew HS7.out) (fun hHeld => ?_)
  have r10_1 := Lib.hid (RowAt.drew R7.out)
  refine wpAnyH_take (i := 0) (v := (.agg (Ent.arr (Ent.mk l 2 t pt pp r c ⟨#[]⟩)))) rfl (by kernel_rfl) (by kernel_rfl) (by kernel_rfl) (fun _ _ _ h => h) (yieldsIf_load_mid (by rfl) 28 _ rfl w1.heap.size 0 rfl (Ent.vals (Ent.mk l 2 t pt pp r c ⟨#[]⟩)) _ (fun W hSw => RowAt.range (St.row hSw (b := w1.heap.size) (vs := (Ent.vals (Ent.mk l 2 t pt pp r c ⟨#[]⟩))) (by simp)) 0 (fun j v hv => by rw [Nat.zero_add]; exact hv)) Try.underlying28 rfl info_ent) (by assumption) ?_
  try simp only [Act.put, List.getElem_toArray, List.getElem_cons_zero, List.setIfInBounds_toArray, List.set_cons_zero, List.set_cons_succ]
  refine wpAnyH_take (i := 1) (v := ?_) rfl (by kernel_rfl) (by kernel_rfl) (by kernel_rfl) (fun _ _ _ h => h) (Or.inl ⟨by rfl, ?_⟩) (by assumption) ?_
  rotate_left
  · (intro W _; go_simp; try with_reducible rfl)
  try simp only [Act.put, List.getElem_toArray, List.getElem_cons_zero, List.getElem_cons_succ, List.setIfInBounds_toArray, List.set_cons_zero, List.set_cons_succ]
  refine wpAnyH_take (i := 2) (v := ?_) rfl (by kernel_rfl) (by kernel_rfl) (by kernel_rfl) (fun _ _ _ h => h) (Or.inl ⟨by rfl, ?_⟩) (by assumption) ?_
  rotate_left
  · (intro W _; go_simp; try with_reducible rfl)
  try simp only [Act.put, List.getElem_toArray, List.getElem_cons_zero, List.getElem_cons_succ, List.setIfInBounds_toArray, List.set_cons_zero, List.set_cons_succ]
  refine wpAnyH_take (i := 3) (v := undef) rfl (by kernel_rfl) (by kernel_rfl) (by kernel_rfl) (fun _ _ _ h => h) (Or.inr ⟨by rfl, rfl⟩) (by assumption) ?_
  try simp only [Act.put, List.getElem_toArray, List.getElem_cons_zero, List.getElem_cons_succ, List.setIfInBounds_toArray, List.set_cons_zero, List.set_cons_succ]
  refine wpAnyH_take (i := 4) (v := undef) rfl (by kernel_rfl) (by kernel_rfl) (by kernel_rfl) (fun _ _ _ h => h) (Or.inr ⟨by rfl, rfl⟩) (by assumption) ?_
  try simp only [Act.put, List.getElem_toArray, List.getElem_cons_zero, List.getElem_cons_succ, List.setIfInBounds_toArray, List.set_cons_zero, List.set_cons_succ]
  refine wpAnyH_take (i := 5) (v := undef) rfl (by kernel_rfl) (by kernel_rfl) (by kernel_rfl) (fun _ _ _ h => h) (Or.inr ⟨by rfl, rfl⟩) (by assumption) ?_
  try simp only [Act.put, List.getElem_toArray, List.getElem_cons_zero, List.getElem_cons_succ, List.setIfInBounds_toArray, List.set_cons_zero, List.set_cons_succ]
  refine wpAnyH_take (i := 6) (v := ?_) rfl (by kernel_rfl) (by kernel_rfl) (by kernel_rfl) (fun _ _ _ h => h) (Or.inl ⟨by rfl, ?_⟩) (by assumption) ?_
  rotate_left
  · (intro W _; go_simp; try with_reducible rfl)
  try simp only [Act.put, List.getElem_toArray, List.getElem_cons_zero, List.getElem_cons_succ, List.setIfInBounds_toArray, List.set_cons_zero, List.set_cons_succ]
  refine wpAnyH_take (i := 7) (v := ?_) rfl (by kernel_rfl) (by kernel_rfl) (by kernel_rfl) (fun _ _ _ h => h) (Or.inl ⟨by rfl, ?_⟩) (by assumption) ?_
  rotate_left
  · (intro W _; go_simp; try with_reducible rfl)
  try simp only [Act.put, List.getElem_toArray, List.getElem_cons_zero, List.getElem_cons_succ, List.setIfInBounds_toArray, List.set_cons_zero, List.set_cons_succ]
  refine wpAnyH_take (i := 8) (v := undef) rfl (by kernel_rfl) (by kernel_rfl) (by kernel_rfl) (fun _ _ _ h => h) (Or.inr ⟨by rfl, rfl⟩) (by assumption) ?_
  try simp only [Act.put, List.getElem_toArray, List.getElem_cons_zero, List.getElem_cons_succ, List.setIfInBounds_toArray, List.set_cons_zero, List.set_cons_succ]
  refine wpAnyH_take (i := 9) (v := undef) rfl (by kernel_rfl) (by kernel_rfl) (by kernel_rfl) (fun _ _ _ h => h) (Or.inr ⟨by rfl, rfl⟩) (by assumption) ?_
  try simp only [Act.put, List.getElem_toArray, List.getElem_cons_zero, List.getElem_cons_succ, List.setIfInBounds_toArray, List.set_cons_zero, List.set_cons_succ]
  refine wpAnyH_take (i := 10) (v := undef) rfl (by kernel_rfl) (by kernel_rfl) (by kernel_rfl) (fun _ _ _ h => h) (Or.inr ⟨by rfl, rfl⟩) (by assumption) ?_
  try simp only [Act.put, List.getElem_toArray, List.getElem_cons_zero, List.getElem_cons_succ, List.setIfInBounds_toArray, List.set_cons_zero, List.set_cons_succ]
  refine wpAnyH_take (i := 11) (v := ?_) rfl (by kernel_rfl) (by kernel_rfl) (by kernel_rfl) (fun _ _ _ h => h) (Or.inl ⟨by rfl, ?_⟩) (by assumption) ?_
  rotate_left
  · (intro W _; go_simp; try with_reducible rfl)
  try simp only [Act.put, List.getElem_toArray, List.getElem_cons_zero, List.getElem_cons_succ, List.setIfInBounds_toArray, List.set_cons_zero, List.set_cons_succ]
  refine wpAnyH_ready (rs := [12]) (by kernel_rfl) (by simp) (AllReadyH.cons rfl (fun K hK => ?_) AllReadyH.nil)
  simp only [List.getElem_toArray, List.getElem_cons_zero, List.getElem_cons_succ]
  rw [if_pos (by rfl)]
  with_reducible refine op_storeEnt (Ent.mk l 2 t pt pp r c ⟨#[]⟩) r10_1.out (evals_length _) (by rfl) ?_ ?_ (fun W10_2 hP10_4 hS10_5 => ?_)
  · rfl
  · rfl
  have r10_6 : Hid (EnAt w0.heap.size (Ent.mk l 2 t pt pp r c ⟨#[]⟩) W10_2) := Lib.hid hP10_4
  refine hK.out _ _ (St.stored hHeld (by simp; omega) (by omega) hS10_5) (fun hH10_3 => ?_)
  clear hK K
  simp only [Act.put, List.setIfInBounds_toArray, List.set_cons_zero, List.set_cons_succ]
  refine wpAnyH_take (i := 13) (v := ?_) rfl (by kernel_rfl) (by kernel_rfl) (by kernel_rfl) (fun _ _ _ h => h) (Or.inl ⟨by rfl, ?_⟩) (by assumption) ?_
  rotate_left
  · (intro W _; go_simp; try with_reducible rfl)
  try simp only [Act.put, List.getElem_toArray, List.getElem_cons_zero, List.getElem_cons_succ, List.setIfInBounds_toArray, List.set_cons_zero, List.set_cons_succ]
  refine wpAnyH_done (by kernel_rfl) ?_ _
  go_wp2
  exact bodyPost_ret (res_entE rfl rfl r10_6.out) rfl ⟨rfl, And.right hH10_3⟩

set_option maxRecDepth 4000 in
set_option maxHeartbeats 4000000 in
theorem shape2b (l t pt pp r : Int) (c : Chg) (s : ByteArray) (hf : FitsH c) (hv : validH c = true) (h1 : ¬ 0 < pt) (w : World) : Calls Try.prog 33 #[.agg (Ent.arr (Ent.mk l 2 t pt pp r c s))] w fun e' w' => e' = .returned (.tuple #[.agg (Ent.arr (Ent.mk l 2 t pt pp r c ⟨#[]⟩)), .bool false]) ∧ Below w.heap.size w w' := by
  have CV : Hid (Says 53 #[.agg c.arr] true) := Lib.hid fun w => by have := kb.refValid_any c w hf; rwa [hv] at this
  clear hv
  have d1 : decide (0 < pt) = false := by simpa using h1
  have hbd := build_ent2 l 2
  have HU : Hid True := Lib.hid trivial
  go_enter Try.func33, Try.ntmps33
  go_upto_region 5 with (first
    | (clear HU; refine wp_boxEntW (Ent.mk l 2 t pt pp r c s) rfl rfl rfl ?_; intro w0 hE hb0 z0; have E0 := Lib.hid hE; have HB0 := Lib.hid hb0; have G0 : Hid True := Lib.hid trivial; clear hE hb0)
    | (clear G0; refine wp_newEntW rfl rfl ?_; intro w1 hR hb1 z1; have R1 := Lib.hid hR; have E1 := Lib.hid (RowAt.keep E0.out hb1); have HB1 := Lib.hid (HB0.out.trans (hb1.mono HB0.out.size)); have G1 : Hid True := Lib.hid trivial; obtain ⟨a0, a1, a2, a3, a4, a5, a6, a7, a8, a9, a10, a11, a12⟩ := EnAt.all E1.out; simp only at a0 a1 a2 a3 a4 a5 a6 a7 a8 a9 a10 a11 a12; clear hR hb1 E0 HB0)
    | (clear G1; refine wp_newEntW rfl rfl ?_; intro w2 hO hb2 z2; have O2 := Lib.hid hO; have R2 := Lib.hid (RowAt.keep R1.out hb2); have E2 := Lib.hid (RowAt.keep E1.out hb2); have HB2 := Lib.hid (HB1.out.trans (hb2.mono HB1.out.size)); clear hO hb2 R1 E1 HB1 a0 a1 a2 a3 a4 a5 a6 a7 a8 a9 a10 a11 a12)
    | (clear hbd; refine wp_storeEntW (Ent.mk l 2 0 0 0 0 chg0 ⟨#[]⟩) O2.out (evals_length _) rfl rfl rfl rfl ?_; intro w3 hO hS; have O3 := Lib.hid hO; have R3 := Lib.hid (StoredAt.row hS R2.out (by omega)); have E3 := Lib.hid (StoredAt.row hS E2.out (by omega)); have HB3 := Lib.hid (StoredAt.below hS HB2.out (by omega)); clear hO hS O2 R2 E2 HB2; obtain ⟨a0, a1, a2, a3, a4, a5, a6, a7, a8, a9, a10, a11, a12⟩ := EnAt.all E3.out; simp only at a0 a1 a2 a3 a4 a5 a6 a7 a8 a9 a10 a11 a12))
  have HS3 := Lib.hid (St.add (st_nil (w := w) HB3.out) E3.out)
  clear a0 a1 a2 a3 a4 a5 a6 a7 a8 a9 a10 a11 a12 E3 HB3
  refine wp_region_held_drew (S := St [(w.heap.size, (Ent.vals (Ent.mk l 2 t pt pp r c s)))] w) (by kernel_rfl) (St.drew HS3.out) (fun hHeld => ?_)
  have r5_1 := Lib.hid (RowAt.drew O3.out)
  have r5_2 := Lib.hid (RowAt.drew R3.out)
  refine wpAnyH_take (i := 0) (v := ?_) rfl (by kernel_rfl) (by kernel_rfl) (by kernel_rfl) (fun _ _ _ h => h) (Or.inl ⟨by rfl, ?_⟩) (by assumption) ?_
  rotate_left
  · (intro W _; go_simp; try with_reducible rfl)
  try simp only [Act.put, List.getElem_toArray, List.getElem_cons_zero, List.setIfInBounds_toArray, List.set_cons_zero, List.set_cons_succ]
  refine wpAnyH_take (i := 1) (v := ?_) rfl (by kernel_rfl) (by kernel_rfl) (by kernel_rfl) (fun _ _ _ h => h) (Or.inl ⟨by rfl, ?_⟩) (by assumption) ?_
  rotate_left
  · (intro W hSw; have c0 := (St.row hSw (b := w.heap.size) (vs := (Ent.vals (Ent.mk l 2 t pt pp r c s))) (by simp)).cells 2 _ rfl; clear hSw; go_simp; try with_reducible rfl)
  try simp only [Act.put, List.getElem_toArray, List.getElem_cons_zero, List.getElem_cons_succ, List.setIfInBounds_toArray, List.set_cons_zero, List.set_cons_succ]
  refine wpAnyH_take (i := 2) (v := ?_) rfl (by kernel_rfl) (by kernel_rfl) (by kernel_rfl) (fun _ _ _ h => h) (Or.inl ⟨by rfl, ?_⟩) (by assumption) ?_
  rotate_left
  · (intro W _; go_simp; try with_reducible rfl)
  try simp only [Act.put, List.getElem_toArray, List.getElem_cons_zero, List.getElem_cons_succ, List.setIfInBounds_toArray, List.set_cons_zero, List.set_cons_succ]
  refine wpAnyH_take (i := 3) (v := ?_) rfl (by kernel_rfl) (by kernel_rfl) (by kernel_rfl) (fun _ _ _ h => h) (Or.inl ⟨by rfl, ?_⟩) (by assumption) ?_
  rotate_left
  · (intro W hSw; have c0 := (St.row hSw (b := w.heap.size) (vs := (Ent.vals (Ent.mk l 2 t pt pp r c s))) (by simp)).cells 3 _ rfl; clear hSw; go_simp; try with_reducible rfl)
  try simp only [Act.put, List.getElem_toArray, List.getElem_cons_zero, List.getElem_cons_succ, List.setIfInBounds_toArray, List.set_cons_zero, List.set_cons_succ]
  refine wpAnyH_take (i := 4) (v := ?_) rfl (by kernel_rfl) (by kernel_rfl) (by kernel_rfl) (fun _ _ _ h => h) (Or.inl ⟨by rfl, ?_⟩) (by assumption) ?_
  rotate_left
  · (intro W _; go_simp; try with_reducible rfl)
  try simp only [Act.put, List.getElem_toArray, List.getElem_cons_zero, List.getElem_cons_succ, List.setIfInBounds_toArray, List.set_cons_zero, List.set_cons_succ]
  refine wpAnyH_take (i := 5) (v := ?_) rfl (by kernel_rfl) (by kernel_rfl) (by kernel_rfl) (fun _ _ _ h => h) (Or.inl ⟨by rfl, ?_⟩) (by assumption) ?_
  rotate_left
  · (intro W hSw; have c0 := (St.row hSw (b := w.heap.size) (vs := (Ent.vals (Ent.mk l 2 t pt pp r c s))) (by simp)).cells 4 _ rfl; clear hSw; go_simp; try with_reducible rfl)
  try simp only [Act.put, List.getElem_toArray, List.getElem_cons_zero, List.getElem_cons_succ, List.setIfInBounds_toArray, List.set_cons_zero, List.set_cons_succ]
  refine wpAnyH_take (i := 6) (v := ?_) rfl (by kernel_rfl) (by kernel_rfl) (by kernel_rfl) (fun _ _ _ h => h) (Or.inl ⟨by rfl, ?_⟩) (by assumption) ?_
  rotate_left
  · (intro W _; go_simp; try with_reducible rfl)
  try simp only [Act.put, List.getElem_toArray, List.getElem_cons_zero, List.getElem_cons_succ, List.setIfInBounds_toArray, List.set_cons_zero, List.set_cons_succ]
  refine wpAnyH_take (i := 7) (v := (.agg (Chg.arr (Ent.change (Ent.mk l 2 t pt pp r c s))))) rfl (by kernel_rfl) (by kernel_rfl) (by kernel_rfl) (fun _ _ _ h => h) (yieldsIf_load_mid (by rfl) 26 _ rfl w.heap.size 6 rfl (Chg.vals (Ent.change (Ent.mk l 2 t pt pp r c s))) _ (fun W hSw => RowAt.range (St.row hSw (b := w.heap.size) (vs := (Ent.vals (Ent.mk l 2 t pt pp r c s))) (by simp)) 6 (fun j v hv => chg_in _ j v hv)) Try.underlying26 rfl info_change) (by assumption) ?_
  try simp only [Act.put, List.getElem_toArray, List.getElem_cons_zero, List.getElem_cons_succ, List.setIfInBounds_toArray, List.set_cons_zero, List.set_cons_succ]
  refine wpAnyH_take (i := 8) (v := ?_) rfl (by kernel_rfl) (by kernel_rfl) (by kernel_rfl) (fun _ _ _ h => h) (Or.inl ⟨by rfl, ?_⟩) (by assumption) ?_
  rotate_left
  · (intro W _; go_simp; try with_reducible rfl)
  try simp only [Act.put, List.getElem_toArray, List.getElem_cons_zero, List.getElem_cons_succ, List.setIfInBounds_toArray, List.set_cons_zero, List.set_cons_succ]
  refine wpAnyH_ready (rs := [9]) (by kernel_rfl) (by simp) (AllReadyH.cons rfl (fun K hK => ?_) AllReadyH.nil)
  simp only [List.getElem_toArray, List.getElem_cons_zero, List.getElem_cons_succ]
  rw [if_pos (by rfl)]
  with_reducible refine op_storeField 3 (.int .i64 t) rfl rfl info_int1 r5_1.out (show 2 < 13 by decide) (by rfl) ?_ ?_ (fun W5_3 hP5_5 hS5_6 => ?_)
  · rfl
  · rfl
  have r5_7 : Hid (EnAt w1.heap.size (Ent.mk l 2 t 0 0 0 chg0 ⟨#[]⟩) W5_3) := Lib.hid hP5_5
  have r5_8 := Lib.hid (StoredAt.row hS5_6 r5_2.out (by omega))
  refine hK.out _ _ (St.stored hHeld (by simp; omega) (by omega) hS5_6) (fun hH5_4 => ?_)
  clear hK K
  simp only [Act.put, List.setIfInBounds_toArray, List.set_cons_zero, List.set_cons_succ]
  refine wpAnyH_take (i := 10) (v := ?_) rfl (by kernel_rfl) (by kernel_rfl) (by kernel_rfl) (fun _ _ _ h => h) (Or.inl ⟨by rfl, ?_⟩) (by assumption) ?_
  rotate_left
  · (intro W _; go_simp; try with_reducible rfl)
  try simp only [Act.put, List.getElem_toArray, List.getElem_cons_zero, List.getElem_cons_succ, List.setIfInBounds_toArray, List.set_cons_zero, List.set_cons_succ]
  refine wpAnyH_ready (rs := [11]) (by kernel_rfl) (by simp) (AllReadyH.cons rfl (fun K hK => ?_) AllReadyH.nil)
  simp only [List.getElem_toArray, List.getElem_cons_zero, List.getElem_cons_succ]
  rw [if_pos (by rfl)]
  with_reducible refine op_storeField 3 (.int .i64 pt) rfl rfl info_int1 r5_7.out (show 3 < 13 by decide) (by rfl) ?_ ?_ (fun W5_9 hP5_11 hS5_12 => ?_)
  · rfl
  · rfl
  have r5_13 : Hid (EnAt w1.heap.size (Ent.mk l 2 t pt 0 0 chg0 ⟨#[]⟩) W5_9) := Lib.hid hP5_11
  have r5_14 := Lib.hid (StoredAt.row hS5_12 r5_8.out (by omega))
  refine hK.out _ _ (St.stored hH5_4 (by simp; omega) (by omega) hS5_12) (fun hH5_10 => ?_)
  clear hK K
  simp only [Act.put, List.setIfInBounds_toArray, List.set_cons_zero, List.set_cons_succ]
  refine wpAnyH_take (i := 12) (v := ?_) rfl (by kernel_rfl) (by kernel_rfl) (by kernel_rfl) (fun _ _ _ h => h) (Or.inl ⟨by rfl, ?_⟩) (by assumption) ?_
  rotate_left
  · (intro W _; go_simp; try with_reducible rfl)
  try simp only [Act.put, List.getElem_toArray, List.getElem_cons_zero, List.getElem_cons_succ, List.setIfInBounds_toArray, List.set_cons_zero, List.set_cons_succ]
  refine wpAnyH_ready (rs := [13]) (by kernel_rfl) (by simp) (AllReadyH.cons rfl (fun K hK => ?_) AllReadyH.nil)
  simp only [List.getElem_toArray, List.getElem_cons_zero, List.getElem_cons_succ]
  rw [if_pos (by rfl)]
  with_reducible refine op_storeField 3 (.int .i64 pp) rfl rfl info_int1 r5_13.out (show 4 < 13 by decide) (by rfl) ?_ ?_ (fun W5_15 hP5_17 hS5_18 => ?_)
  · rfl
  · rfl
  have r5_19 : Hid (EnAt w1.heap.size (Ent.mk l 2 t pt pp 0 chg0 ⟨#[]⟩) W5_15) := Lib.hid hP5_17
  have r5_20 := Lib.hid (StoredAt.row hS5_18 r5_14.out (by omega))
  refine hK.out _ _ (St.stored hH5_10 (by simp; omega) (by omega) hS5_18) (fun hH5_16 => ?_)
  clear hK K
  simp only [Act.put, List.setIfInBounds_toArray, List.set_cons_zero, List.set_cons_succ]
  refine wpAnyH_take (i := 14) (v := ?_) rfl (by kernel_rfl) (by kernel_rfl) (by kernel_rfl) (fun _ _ _ h => h) (Or.inl ⟨by rfl, ?_⟩) (by assumption) ?_
  rotate_left
  · (intro W _; go_simp; try with_reducible rfl)
  try simp only [Act.put, List.getElem_toArray, List.getElem_cons_zero, List.getElem_cons_succ, List.setIfInBounds_toArray, List.set_cons_zero, List.set_cons_succ]
  refine wpAnyH_ready (rs := [15]) (by kernel_rfl) (by simp) (AllReadyH.cons rfl (fun K hK => ?_) AllReadyH.nil)
  simp only [List.getElem_toArray, List.getElem_cons_zero, List.getElem_cons_succ]
  rw [if_pos (by rfl)]
  with_reducible refine op_storeChg6 c (Ent.mk l 2 t pt pp 0 chg0 ⟨#[]⟩) r5_19.out (by rfl) ?_ ?_ (fun W5_21 hP5_23 hS5_24 => ?_)
  · rfl
  · rfl
  have r5_25 : Hid (EnAt w1.heap.size (Ent.mk l 2 t pt pp 0 c ⟨#[]⟩) W5_21) := Lib.hid hP5_23
  have r5_26 := Lib.hid (StoredAt.row hS5_24 r5_20.out (by omega))
  refine hK.out _ _ (St.stored hH5_16 (by simp; omega) (by omega) hS5_24) (fun hH5_22 => ?_)
  clear hK K
  simp only [Act.put, List.setIfInBounds_toArray, List.set_cons_zero, List.set_cons_succ]
  refine wpAnyH_done (by kernel_rfl) ?_ _
  have E5 := Lib.hid (St.row hH5_22 (b := w.heap.size) (vs := Ent.vals (Ent.mk l 2 t pt pp r c s)) (by simp))
  have HB5 := Lib.hid (And.right hH5_22)
  have O5 := Lib.hid r5_25.out
  have R5 := Lib.hid r5_26.out
  obtain ⟨a0, a1, a2, a3, a4, a5, a6, a7, a8, a9, a10, a11, a12⟩ := EnAt.all E5.out
  simp only at a0 a1 a2 a3 a4 a5 a6 a7 a8 a9 a10 a11 a12
  go_upto_region 10 with (first
    | (refine wp_loadChg6 (Ent.mk l 2 t pt pp r c s) E5.out rfl rfl rfl ?_)
    | (go_at_call 53; (with_reducible refine (CV.out _).mono ?_); rintro e6 w6 ⟨rfl, hb6⟩; have O6 := Lib.hid (RowAt.keep O5.out hb6); have R6 := Lib.hid (RowAt.keep R5.out hb6); have E6 := Lib.hid (RowAt.keep E5.out hb6); have HB6 := Lib.hid (HB5.out.trans (hb6.mono HB5.out.size)); clear hb6 O5 R5 E5 HB5 a0 a1 a2 a3 a4 a5 a6 a7 a8 a9 a10 a11 a12; obtain ⟨a0, a1, a2, a3, a4, a5, a6, a7, a8, a9, a10, a11, a12⟩ := EnAt.all E6.out; simp only at a0 a1 a2 a3 a4 a5 a6 a7 a8 a9 a10 a11 a12)
    | (refine wp_storeFieldW 3 (.int .i64 r) rfl rfl info_int1 O6.out (show 5 < 13 by decide) rfl rfl rfl rfl ?_; intro w7 hO hS; have O7 : Hid (EnAt w1.heap.size (Ent.mk l 2 t pt pp r c ⟨#[]⟩) w7) := Lib.hid hO; have R7 := Lib.hid (StoredAt.row hS R6.out (by omega)); have E7 := Lib.hid (StoredAt.row hS E6.out (by omega)); have HB7 := Lib.hid (StoredAt.below hS HB6.out (by omega)); clear hO hS O6 R6 E6 HB6 a0 a1 a2 a3 a4 a5 a6 a7 a8 a9 a10 a11 a12; obtain ⟨a0, a1, a2, a3, a4, a5, a6, a7, a8, a9, a10, a11, a12⟩ := EnAt.all E7.out; simp only at a0 a1 a2 a3 a4 a5 a6 a7 a8 a9 a10 a11 a12))
  have HS7 := Lib.hid (St.add (St.add (st_nil (w := w) HB7.out) E7.out) O7.out)
  clear a0 a1 a2 a3 a4 a5 a6 a7 a8 a9 a10 a11 a12
  refine wp_region_held_drew (S := St [(w1.heap.size, (Ent.vals (Ent.mk l 2 t pt pp r c ⟨#[]⟩))), (w.heap.size, (Ent.vals (Ent.mk l 2 t pt pp r c s)))] w) (by kernel_rfl) (St.drew HS7.out) (fun hHeld => ?_)
  have r10_1 := Lib.hid (RowAt.drew R7.out)
  refine wpAnyH_take (i := 0) (v := (.agg (Ent.arr (Ent.mk l 2 t pt pp r c ⟨#[]⟩)))) rfl (by kernel_rfl) (by kernel_rfl) (by kernel_rfl) (fun _ _ _ h => h) (yieldsIf_load_mid (by rfl) 28 _ rfl w1.heap.size 0 rfl (Ent.vals (Ent.mk l 2 t pt pp r c ⟨#[]⟩)) _ (fun W hSw => RowAt.range (St.row hSw (b := w1.heap.size) (vs := (Ent.vals (Ent.mk l 2 t pt pp r c ⟨#[]⟩))) (by simp)) 0 (fun j v hv => by rw [Nat.zero_add]; exact hv)) Try.underlying28 rfl info_ent) (by assumption) ?_
  try simp only [Act.put, List.getElem_toArray, List.getElem_cons_zero, List.setIfInBounds_toArray, List.set_cons_zero, List.set_cons_succ]
  refine wpAnyH_take (i := 1) (v := ?_) rfl (by kernel_rfl) (by kernel_rfl) (by kernel_rfl) (fun _ _ _ h => h) (Or.inl ⟨by rfl, ?_⟩) (by assumption) ?_
  rotate_left
  · (intro W _; go_simp; try with_reducible rfl)
  try simp only [Act.put, List.getElem_toArray, List.getElem_cons_zero, List.getElem_cons_succ, List.setIfInBounds_toArray, List.set_cons_zero, List.set_cons_succ]
  refine wpAnyH_take (i := 2) (v := ?_) rfl (by kernel_rfl) (by kernel_rfl) (by kernel_rfl) (fun _ _ _ h => h) (Or.inl ⟨by rfl, ?_⟩) (by assumption) ?_
  rotate_left
  · (intro W _; go_simp; try with_reducible rfl)
  try simp only [Act.put, List.getElem_toArray, List.getElem_cons_zero, List.getElem_cons_succ, List.setIfInBounds_toArray, List.set_cons_zero, List.set_cons_succ]
  refine wpAnyH_take (i := 3) (v := undef) rfl (by kernel_rfl) (by kernel_rfl) (by kernel_rfl) (fun _ _ _ h => h) (Or.inr ⟨by rfl, rfl⟩) (by assumption) ?_
  try simp only [Act.put, List.getElem_toArray, List.getElem_cons_zero, List.getElem_cons_succ, List.setIfInBounds_toArray, List.set_cons_zero, List.set_cons_succ]
  refine wpAnyH_take (i := 4) (v := undef) rfl (by kernel_rfl) (by kernel_rfl) (by kernel_rfl) (fun _ _ _ h => h) (Or.inr ⟨by rfl, rfl⟩) (by assumption) ?_
  try simp only [Act.put, List.getElem_toArray, List.getElem_cons_zero, List.getElem_cons_succ, List.setIfInBounds_toArray, List.set_cons_zero, List.set_cons_succ]
  refine wpAnyH_take (i := 5) (v := undef) rfl (by kernel_rfl) (by kernel_rfl) (by kernel_rfl) (fun _ _ _ h => h) (Or.inr ⟨by rfl, rfl⟩) (by assumption) ?_
  try simp only [Act.put, List.getElem_toArray, List.getElem_cons_zero, List.getElem_cons_succ, List.setIfInBounds_toArray, List.set_cons_zero, List.set_cons_succ]
  refine wpAnyH_take (i := 6) (v := ?_) rfl (by kernel_rfl) (by kernel_rfl) (by kernel_rfl) (fun _ _ _ h => h) (Or.inl ⟨by rfl, ?_⟩) (by assumption) ?_
  rotate_left
  · (intro W _; go_simp; try with_reducible rfl)
  try simp only [Act.put, List.getElem_toArray, List.getElem_cons_zero, List.getElem_cons_succ, List.setIfInBounds_toArray, List.set_cons_zero, List.set_cons_succ]
  refine wpAnyH_take (i := 7) (v := ?_) rfl (by kernel_rfl) (by kernel_rfl) (by kernel_rfl) (fun _ _ _ h => h) (Or.inl ⟨by rfl, ?_⟩) (by assumption) ?_
  rotate_left
  · (intro W _; go_simp; try with_reducible rfl)
  try simp only [Act.put, List.getElem_toArray, List.getElem_cons_zero, List.getElem_cons_succ, List.setIfInBounds_toArray, List.set_cons_zero, List.set_cons_succ]
  refine wpAnyH_take (i := 8) (v := undef) rfl (by kernel_rfl) (by kernel_rfl) (by kernel_rfl) (fun _ _ _ h => h) (Or.inr ⟨by rfl, rfl⟩) (by assumption) ?_
  try simp only [Act.put, List.getElem_toArray, List.getElem_cons_zero, List.getElem_cons_succ, List.setIfInBounds_toArray, List.set_cons_zero, List.set_cons_succ]
  refine wpAnyH_take (i := 9) (v := undef) rfl (by kernel_rfl) (by kernel_rfl) (by kernel_rfl) (fun _ _ _ h => h) (Or.inr ⟨by rfl, rfl⟩) (by assumption) ?_
  try simp only [Act.put, List.getElem_toArray, List.getElem_cons_zero, List.getElem_cons_succ, List.setIfInBounds_toArray, List.set_cons_zero, List.set_cons_succ]
  refine wpAnyH_take (i := 10) (v := undef) rfl (by kernel_rfl) (by kernel_rfl) (by kernel_rfl) (fun _ _ _ h => h) (Or.inr ⟨by rfl, rfl⟩) (by assumption) ?_
  try simp only [Act.put, List.getElem_toArray, List.getElem_cons_zero, List.getElem_cons_succ, List.setIfInBounds_toArray, List.set_cons_zero, List.set_cons_succ]
  refine wpAnyH_take (i := 11) (v := ?_) rfl (by kernel_rfl) (by kernel_rfl) (by kernel_rfl) (fun _ _ _ h => h) (Or.inl ⟨by rfl, ?_⟩) (by assumption) ?_
  rotate_left
  · (intro W _; go_simp; try with_reducible rfl)
  try simp only [Act.put, List.getElem_toArray, List.getElem_cons_zero, List.getElem_cons_succ, List.setIfInBounds_toArray, List.set_cons_zero, List.set_cons_succ]
  refine wpAnyH_ready (rs := [12]) (by kernel_rfl) (by simp) (AllReadyH.cons rfl (fun K hK => ?_) AllReadyH.nil)
  simp only [List.getElem_toArray, List.getElem_cons_zero, List.getElem_cons_succ]
  rw [if_pos (by rfl)]
  with_reducible refine op_storeEnt (Ent.mk l 2 t pt pp r c ⟨#[]⟩) r10_1.out (evals_length _) (by rfl) ?_ ?_ (fun W10_2 hP10_4 hS10_5 => ?_)
  · rfl
  · rfl
  have r10_6 : Hid (EnAt w0.heap.size (Ent.mk l 2 t pt pp r c ⟨#[]⟩) W10_2) := Lib.hid hP10_4
  refine hK.out _ _ (St.stored hHeld (by simp; omega) (by omega) hS10_5) (fun hH10_3 => ?_)
  clear hK K
  simp only [Act.put, List.setIfInBounds_toArray, List.set_cons_zero, List.set_cons_succ]
  refine wpAnyH_take (i := 13) (v := ?_) rfl (by kernel_rfl) (by kernel_rfl) (by kernel_rfl) (fun _ _ _ h => h) (Or.inl ⟨by rfl, ?_⟩) (by assumption) ?_
  rotate_left
  · (intro W _; go_simp; try with_reducible rfl)
  try simp only [Act.put, List.getElem_toArray, List.getElem_cons_zero, List.getElem_cons_succ, List.setIfInBounds_toArray, List.set_cons_zero, List.set_cons_succ]
  refine wpAnyH_done (by kernel_rfl) ?_ _
  go_wp2
  exact bodyPost_ret (res_entE rfl rfl r10_6.out) rfl ⟨rfl, And.right hH10_3⟩

set_option maxRecDepth 4000 in
set_option maxHeartbeats 4000000 in
theorem shape2c (l t pt pp r : Int) (c : Chg) (s : ByteArray) (hf : FitsH c) (hv : validH c = true) (h1 : 0 < pt) (h2 : ¬ 1 ≤ r) (w : World) : Calls Try.prog 33 #[.agg (Ent.arr (Ent.mk l 2 t pt pp r c s))] w fun e' w' => e' = .returned (.tuple #[.agg (Ent.arr (Ent.mk l 2 t pt pp r c ⟨#[]⟩)), .bool false]) ∧ Below w.heap.size w w' := by
  have CV : Hid (Says 53 #[.agg c.arr] true) := Lib.hid fun w => by have := kb.refValid_any c w hf; rwa [hv] at this
  clear hv
  have d1 : decide (0 < pt) = true := by simpa using h1
  have d2 : decide (1 ≤ r) = false := by simpa using h2
  have hbd := build_ent2 l 2
  have HU : Hid True := Lib.hid trivial
  go_enter Try.func33, Try.ntmps33
  go_upto_region 5 with (first
    | (clear HU; refine wp_boxEntW (Ent.mk l 2 t pt pp r c s) rfl rfl rfl ?_; intro w0 hE hb0 z0; have E0 := Lib.hid hE; have HB0 := Lib.hid hb0; have G0 : Hid True := Lib.hid trivial; clear hE hb0)
    | (clear G0; refine wp_newEntW rfl rfl ?_; intro w1 hR hb1 z1; have R1 := Lib.hid hR; have E1 := Lib.hid (RowAt.keep E0.out hb1); have HB1 := Lib.hid (HB0.out.trans (hb1.mono HB0.out.size)); have G1 : Hid True := Lib.hid trivial; obtain ⟨a0, a1, a2, a3, a4, a5, a6, a7, a8, a9, a10, a11, a12⟩ := EnAt.all E1.out; simp only at a0 a1 a2 a3 a4 a5 a6 a7 a8 a9 a10 a11 a12; clear hR hb1 E0 HB0)
    | (clear G1; refine wp_newEntW rfl rfl ?_; intro w2 hO hb2 z2; have O2 := Lib.hid hO; have R2 := Lib.hid (RowAt.keep R1.out hb2); have E2 := Lib.hid (RowAt.keep E1.out hb2); have HB2 := Lib.hid (HB1.out.trans (hb2.mono HB1.out.size)); clear hO hb2 R1 E1 HB1 a0 a1 a2 a3 a4 a5 a6 a7 a8 a9 a10 a11 a12)
    | (clear hbd; refine wp_storeEntW (Ent.mk l 2 0 0 0 0 chg0 ⟨#[]⟩) O2.out (evals_length _) rfl rfl rfl rfl ?_; intro w3 hO hS; have O3 := Lib.hid hO; have R3 := Lib.hid (StoredAt.row hS R2.out (by omega)); have E3 := Lib.hid (StoredAt.row hS E2.out (by omega)); have HB3 := Lib.hid (StoredAt.below hS HB2.out (by omega)); clear hO hS O2 R2 E2 HB2; obtain ⟨a0, a1, a2, a3, a4, a5, a6, a7, a8, a9, a10, a11, a12⟩ := EnAt.all E3.out; simp only at a0 a1 a2 a3 a4 a5 a6 a7 a8 a9 a10 a11 a12))
  have HS3 := Lib.hid (St.add (st_nil (w := w) HB3.out) E3.out)
  clear a0 a1 a2 a3 a4 a5 a6 a7 a8 a9 a10 a11 a12 E3 HB3
  refine wp_region_held_drew (S := St [(w.heap.size, (Ent.vals (Ent.mk l 2 t pt pp r c s)))] w) (by kernel_rfl) (St.drew HS3.out) (fun hHeld => ?_)
  have r5_1 := Lib.hid (RowAt.drew O3.out)
  have r5_2 := Lib.hid (RowAt.drew R3.out)
  refine wpAnyH_take (i := 0) (v := ?_) rfl (by kernel_rfl) (by kernel_rfl) (by kernel_rfl) (fun _ _ _ h => h) (Or.inl ⟨by rfl, ?_⟩) (by assumption) ?_
  rotate_left
  · (intro W _; go_simp; try with_reducible rfl)
  try simp only [Act.put, List.getElem_toArray, List.getElem_cons_zero, List.setIfInBounds_toArray, List.set_cons_zero, List.set_cons_succ]
  refine wpAnyH_take (i := 1) (v := ?_) rfl (by kernel_rfl) (by kernel_rfl) (by kernel_rfl) (fun _ _ _ h => h) (Or.inl ⟨by rfl, ?_⟩) (by assumption) ?_
  rotate_left
  · (intro W hSw; have c0 := (St.row hSw (b := w.heap.size) (vs := (Ent.vals (Ent.mk l 2 t pt pp r c s))) (by simp)).cells 2 _ rfl; clear hSw; go_simp; try with_reducible rfl)
  try simp only [Act.put, List.getElem_toArray, List.getElem_cons_zero, List.getElem_cons_succ, List.setIfInBounds_toArray, List.set_cons_zero, List.set_cons_succ]
  refine wpAnyH_take (i := 2) (v := ?_) rfl (by kernel_rfl) (by kernel_rfl) (by kernel_rfl) (fun _ _ _ h => h) (Or.inl ⟨by rfl, ?_⟩) (by assumption) ?_
  rotate_left
  · (intro W _; go_simp; try with_reducible rfl)
  try simp only [Act.put, List.getElem_toArray, List.getElem_cons_zero, List.getElem_cons_succ, List.setIfInBounds_toArray, List.set_cons_zero, List.set_cons_succ]
  refine wpAnyH_take (i := 3) (v := ?_) rfl (by kernel_rfl) (by kernel_rfl) (by kernel_rfl) (fun _ _ _ h => h) (Or.inl ⟨by rfl, ?_⟩) (by assumption) ?_
  rotate_left
  · (intro W hSw; have c0 := (St.row hSw (b := w.heap.size) (vs := (Ent.vals (Ent.mk l 2 t pt pp r c s))) (by simp)).cells 3 _ rfl; clear hSw; go_simp; try with_reducible rfl)
  try simp only [Act.put, List.getElem_toArray, List.getElem_cons_zero, List.getElem_cons_succ, List.setIfInBounds_toArray, List.set_cons_zero, List.set_cons_succ]
  refine wpAnyH_take (i := 4) (v := ?_) rfl (by kernel_rfl) (by kernel_rfl) (by kernel_rfl) (fun _ _ _ h => h) (Or.inl ⟨by rfl, ?_⟩) (by assumption) ?_
  rotate_left
  · (intro W _; go_simp; try with_reducible rfl)
  try simp only [Act.put, List.getElem_toArray, List.getElem_cons_zero, List.getElem_cons_succ, List.setIfInBounds_toArray, List.set_cons_zero, List.set_cons_succ]
  refine wpAnyH_take (i := 5) (v := ?_) rfl (by kernel_rfl) (by kernel_rfl) (by kernel_rfl) (fun _ _ _ h => h) (Or.inl ⟨by rfl, ?_⟩) (by assumption) ?_
  rotate_left
  · (intro W hSw; have c0 := (St.row hSw (b := w.heap.size) (vs := (Ent.vals (Ent.mk l 2 t pt pp r c s))) (by simp)).cells 4 _ rfl; clear hSw; go_simp; try with_reducible rfl)
  try simp only [Act.put, List.getElem_toArray, List.getElem_cons_zero, List.getElem_cons_succ, List.setIfInBounds_toArray, List.set_cons_zero, List.set_cons_succ]
  refine wpAnyH_take (i := 6) (v := ?_) rfl (by kernel_rfl) (by kernel_rfl) (by kernel_rfl) (fun _ _ _ h => h) (Or.inl ⟨by rfl, ?_⟩) (by assumption) ?_
  rotate_left
  · (intro W _; go_simp; try with_reducible rfl)
  try simp only [Act.put, List.getElem_toArray, List.getElem_cons_zero, List.getElem_cons_succ, List.setIfInBounds_toArray, List.set_cons_zero, List.set_cons_succ]
  refine wpAnyH_take (i := 7) (v := (.agg (Chg.arr (Ent.change (Ent.mk l 2 t pt pp r c s))))) rfl (by kernel_rfl) (by kernel_rfl) (by kernel_rfl) (fun _ _ _ h => h) (yieldsIf_load_mid (by rfl) 26 _ rfl w.heap.size 6 rfl (Chg.vals (Ent.change (Ent.mk l 2 t pt pp r c s))) _ (fun W hSw => RowAt.range (St.row hSw (b := w.heap.size) (vs := (Ent.vals (Ent.mk l 2 t pt pp r c s))) (by simp)) 6 (fun j v hv => chg_in _ j v hv)) Try.underlying26 rfl info_change) (by assumption) ?_
  try simp only [Act.put, List.getElem_toArray, List.getElem_cons_zero, List.getElem_cons_succ, List.setIfInBounds_toArray, List.set_cons_zero, List.set_cons_succ]
  refine wpAnyH_take (i := 8) (v := ?_) rfl (by kernel_rfl) (by kernel_rfl) (by kernel_rfl) (fun _ _ _ h => h) (Or.inl ⟨by rfl, ?_⟩) (by assumption) ?_
  rotate_left
  · (intro W _; go_simp; try with_reducible rfl)
  try simp only [Act.put, List.getElem_toArray, List.getElem_cons_zero, List.getElem_cons_succ, List.setIfInBounds_toArray, List.set_cons_zero, List.set_cons_succ]
  refine wpAnyH_ready (rs := [9]) (by kernel_rfl) (by simp) (AllReadyH.cons rfl (fun K hK => ?_) AllReadyH.nil)
  simp only [List.getElem_toArray, List.getElem_cons_zero, List.getElem_cons_succ]
  rw [if_pos (by rfl)]
  with_reducible refine op_storeField 3 (.int .i64 t) rfl rfl info_int1 r5_1.out (show 2 < 13 by decide) (by rfl) ?_ ?_ (fun W5_3 hP5_5 hS5_6 => ?_)
  · rfl
  · rfl
  have r5_7 : Hid (EnAt w1.heap.size (Ent.mk l 2 t 0 0 0 chg0 ⟨#[]⟩) W5_3) := Lib.hid hP5_5
  have r5_8 := Lib.hid (StoredAt.row hS5_6 r5_2.out (by omega))
  refine hK.out _ _ (St.stored hHeld (by simp; omega) (by omega) hS5_6) (fun hH5_4 => ?_)
  clear hK K
  simp only [Act.put, List.setIfInBounds_toArray, List.set_cons_zero, List.set_cons_succ]
  refine wpAnyH_take (i := 10) (v := ?_) rfl (by kernel_rfl) (by kernel_rfl) (by kernel_rfl) (fun _ _ _ h => h) (Or.inl ⟨by rfl, ?_⟩) (by assumption) ?_
  rotate_left
  · (intro W _; go_simp; try with_reducible rfl)
  try simp only [Act.put, List.getElem_toArray, List.getElem_cons_zero, List.getElem_cons_succ, List.setIfInBounds_toArray, List.set_cons_zero, List.set_cons_succ]
  refine wpAnyH_ready (rs := [11]) (by kernel_rfl) (by simp) (AllReadyH.cons rfl (fun K hK => ?_) AllReadyH.nil)
  simp only [List.getElem_toArray, List.getElem_cons_zero, List.getElem_cons_succ]
  rw [if_pos (by rfl)]
  with_reducible refine op_storeField 3 (.int .i64 pt) rfl rfl info_int1 r5_7.out (show 3 < 13 by decide) (by rfl) ?_ ?_ (fun W5_9 hP5_11 hS5_12 => ?_)
  · rfl
  · rfl
  have r5_13 : Hid (EnAt w1.heap.size (Ent.mk l 2 t pt 0 0 chg0 ⟨#[]⟩) W5_9) := Lib.hid hP5_11
  have r5_14 := Lib.hid (StoredAt.row hS5_12 r5_8.out (by omega))
  refine hK.out _ _ (St.stored hH5_4 (by simp; omega) (by omega) hS5_12) (fun hH5_10 => ?_)
  clear hK K
  simp only [Act.put, List.setIfInBounds_toArray, List.set_cons_zero, List.set_cons_succ]
  refine wpAnyH_take (i := 12) (v := ?_) rfl (by kernel_rfl) (by kernel_rfl) (by kernel_rfl) (fun _ _ _ h => h) (Or.inl ⟨by rfl, ?_⟩) (by assumption) ?_
  rotate_left
  · (intro W _; go_simp; try with_reducible rfl)
  try simp only [Act.put, List.getElem_toArray, List.getElem_cons_zero, List.getElem_cons_succ, List.setIfInBounds_toArray, List.set_cons_zero, List.set_cons_succ]
  refine wpAnyH_ready (rs := [13]) (by kernel_rfl) (by simp) (AllReadyH.cons rfl (fun K hK => ?_) AllReadyH.nil)
  simp only [List.getElem_toArray, List.getElem_cons_zero, List.getElem_cons_succ]
  rw [if_pos (by rfl)]
  with_reducible refine op_storeField 3 (.int .i64 pp) rfl rfl info_int1 r5_13.out (show 4 < 13 by decide) (by rfl) ?_ ?_ (fun W5_15 hP5_17 hS5_18 => ?_)
  · rfl
  · rfl
  have r5_19 : Hid (EnAt w1.heap.size (Ent.mk l 2 t pt pp 0 chg0 ⟨#[]⟩) W5_15) := Lib.hid hP5_17
  have r5_20 := Lib.hid (StoredAt.row hS5_18 r5_14.out (by omega))
  refine hK.out _ _ (St.stored hH5_10 (by simp; omega) (by omega) hS5_18) (fun hH5_16 => ?_)
  clear hK K
  simp only [Act.put, List.setIfInBounds_toArray, List.set_cons_zero, List.set_cons_succ]
  refine wpAnyH_take (i := 14) (v := ?_) rfl (by kernel_rfl) (by kernel_rfl) (by kernel_rfl) (fun _ _ _ h => h) (Or.inl ⟨by rfl, ?_⟩) (by assumption) ?_
  rotate_left
  · (intro W _; go_simp; try with_reducible rfl)
  try simp only [Act.put, List.getElem_toArray, List.getElem_cons_zero, List.getElem_cons_succ, List.setIfInBounds_toArray, List.set_cons_zero, List.set_cons_succ]
  refine wpAnyH_ready (rs := [15]) (by kernel_rfl) (by simp) (AllReadyH.cons rfl (fun K hK => ?_) AllReadyH.nil)
  simp only [List.getElem_toArray, List.getElem_cons_zero, List.getElem_cons_succ]
  rw [if_pos (by rfl)]
  with_reducible refine op_storeChg6 c (Ent.mk l 2 t pt pp 0 chg0 ⟨#[]⟩) r5_19.out (by rfl) ?_ ?_ (fun W5_21 hP5_23 hS5_24 => ?_)
  · rfl
  · rfl
  have r5_25 : Hid (EnAt w1.heap.size (Ent.mk l 2 t pt pp 0 c ⟨#[]⟩) W5_21) := Lib.hid hP5_23
  have r5_26 := Lib.hid (StoredAt.row hS5_24 r5_20.out (by omega))
  refine hK.out _ _ (St.stored hH5_16 (by simp; omega) (by omega) hS5_24) (fun hH5_22 => ?_)
  clear hK K
  simp only [Act.put, List.setIfInBounds_toArray, List.set_cons_zero, List.set_cons_succ]
  refine wpAnyH_done (by kernel_rfl) ?_ _
  have E5 := Lib.hid (St.row hH5_22 (b := w.heap.size) (vs := Ent.vals (Ent.mk l 2 t pt pp r c s)) (by simp))
  have HB5 := Lib.hid (And.right hH5_22)
  have O5 := Lib.hid r5_25.out
  have R5 := Lib.hid r5_26.out
  obtain ⟨a0, a1, a2, a3, a4, a5, a6, a7, a8, a9, a10, a11, a12⟩ := EnAt.all E5.out
  simp only at a0 a1 a2 a3 a4 a5 a6 a7 a8 a9 a10 a11 a12
  go_upto_region 10 with (first
    | (refine wp_loadChg6 (Ent.mk l 2 t pt pp r c s) E5.out rfl rfl rfl ?_)
    | (go_at_call 53; (with_reducible refine (CV.out _).mono ?_); rintro e6 w6 ⟨rfl, hb6⟩; have O6 := Lib.hid (RowAt.keep O5.out hb6); have R6 := Lib.hid (RowAt.keep R5.out hb6); have E6 := Lib.hid (RowAt.keep E5.out hb6); have HB6 := Lib.hid (HB5.out.trans (hb6.mono HB5.out.size)); clear hb6 O5 R5 E5 HB5 a0 a1 a2 a3 a4 a5 a6 a7 a8 a9 a10 a11 a12; obtain ⟨a0, a1, a2, a3, a4, a5, a6, a7, a8, a9, a10, a11, a12⟩ := EnAt.all E6.out; simp only at a0 a1 a2 a3 a4 a5 a6 a7 a8 a9 a10 a11 a12)
    | (refine wp_storeFieldW 3 (.int .i64 r) rfl rfl info_int1 O6.out (show 5 < 13 by decide) rfl rfl rfl rfl ?_; intro w7 hO hS; have O7 : Hid (EnAt w1.heap.size (Ent.mk l 2 t pt pp r c ⟨#[]⟩) w7) := Lib.hid hO; have R7 := Lib.hid (StoredAt.row hS R6.out (by omega)); have E7 := Lib.hid (StoredAt.row hS E6.out (by omega)); have HB7 := Lib.hid (StoredAt.below hS HB6.out (by omega)); clear hO hS O6 R6 E6 HB6 a0 a1 a2 a3 a4 a5 a6 a7 a8 a9 a10 a11 a12; obtain ⟨a0, a1, a2, a3, a4, a5, a6, a7, a8, a9, a10, a11, a12⟩ := EnAt.all E7.out; simp only at a0 a1 a2 a3 a4 a5 a6 a7 a8 a9 a10 a11 a12))
  have HS7 := Lib.hid (St.add (St.add (st_nil (w := w) HB7.out) E7.out) O7.out)
  clear a0 a1 a2 a3 a4 a5 a6 a7 a8 a9 a10 a11 a12
  refine wp_region_held_drew (S := St [(w1.heap.size, (Ent.vals (Ent.mk l 2 t pt pp r c ⟨#[]⟩))), (w.heap.size, (Ent.vals (Ent.mk l 2 t pt pp r c s)))] w) (by kernel_rfl) (St.drew HS7.out) (fun hHeld => ?_)
  have r10_1 := Lib.hid (RowAt.drew R7.out)
  refine wpAnyH_take (i := 0) (v := (.agg (Ent.arr (Ent.mk l 2 t pt pp r c ⟨#[]⟩)))) rfl (by kernel_rfl) (by kernel_rfl) (by kernel_rfl) (fun _ _ _ h => h) (yieldsIf_load_mid (by rfl) 28 _ rfl w1.heap.size 0 rfl (Ent.vals (Ent.mk l 2 t pt pp r c ⟨#[]⟩)) _ (fun W hSw => RowAt.range (St.row hSw (b := w1.heap.size) (vs := (Ent.vals (Ent.mk l 2 t pt pp r c ⟨#[]⟩))) (by simp)) 0 (fun j v hv => by rw [Nat.zero_add]; exact hv)) Try.underlying28 rfl info_ent) (by assumption) ?_
  try simp only [Act.put, List.getElem_toArray, List.getElem_cons_zero, List.setIfInBounds_toArray, List.set_cons_zero, List.set_cons_succ]
  refine wpAnyH_take (i := 1) (v := ?_) rfl (by kernel_rfl) (by kernel_rfl) (by kernel_rfl) (fun _ _ _ h => h) (Or.inl ⟨by rfl, ?_⟩) (by assumption) ?_
  rotate_left
  · (intro W _; go_simp; try with_reducible rfl)
  try simp only [Act.put, List.getElem_toArray, List.getElem_cons_zero, List.getElem_cons_succ, List.setIfInBounds_toArray, List.set_cons_zero, List.set_cons_succ]
  refine wpAnyH_take (i := 2) (v := ?_) rfl (by kernel_rfl) (by kernel_rfl) (by kernel_rfl) (fun _ _ _ h => h) (Or.inl ⟨by rfl, ?_⟩) (by assumption) ?_
  rotate_left
  · (intro W _; go_simp; try with_reducible rfl)
  try simp only [Act.put, List.getElem_toArray, List.getElem_cons_zero, List.getElem_cons_succ, List.setIfInBounds_toArray, List.set_cons_zero, List.set_cons_succ]
  refine wpAnyH_take (i := 3) (v := undef) rfl (by kernel_rfl) (by kernel_rfl) (by kernel_rfl) (fun _ _ _ h => h) (Or.inr ⟨by rfl, rfl⟩) (by assumption) ?_
  try simp only [Act.put, List.getElem_toArray, List.getElem_cons_zero, List.getElem_cons_succ, List.setIfInBounds_toArray, List.set_cons_zero, List.set_cons_succ]
  refine wpAnyH_take (i := 4) (v := undef) rfl (by kernel_rfl) (by kernel_rfl) (by kernel_rfl) (fun _ _ _ h => h) (Or.inr ⟨by rfl, rfl⟩) (by assumption) ?_
  try simp only [Act.put, List.getElem_toArray, List.getElem_cons_zero, List.getElem_cons_succ, List.setIfInBounds_toArray, List.set_cons_zero, List.set_cons_succ]
  refine wpAnyH_take (i := 5) (v := undef) rfl (by kernel_rfl) (by kernel_rfl) (by kernel_rfl) (fun _ _ _ h => h) (Or.inr ⟨by rfl, rfl⟩) (by assumption) ?_
  try simp only [Act.put, List.getElem_toArray, List.getElem_cons_zero, List.getElem_cons_succ, List.setIfInBounds_toArray, List.set_cons_zero, List.set_cons_succ]
  refine wpAnyH_take (i := 6) (v := ?_) rfl (by kernel_rfl) (by kernel_rfl) (by kernel_rfl) (fun _ _ _ h => h) (Or.inl ⟨by rfl, ?_⟩) (by assumption) ?_
  rotate_left
  · (intro W _; go_simp; try with_reducible rfl)
  try simp only [Act.put, List.getElem_toArray, List.getElem_cons_zero, List.getElem_cons_succ, List.setIfInBounds_toArray, List.set_cons_zero, List.set_cons_succ]
  refine wpAnyH_take (i := 7) (v := ?_) rfl (by kernel_rfl) (by kernel_rfl) (by kernel_rfl) (fun _ _ _ h => h) (Or.inl ⟨by rfl, ?_⟩) (by assumption) ?_
  rotate_left
  · (intro W _; go_simp; try with_reducible rfl)
  try simp only [Act.put, List.getElem_toArray, List.getElem_cons_zero, List.getElem_cons_succ, List.setIfInBounds_toArray, List.set_cons_zero, List.set_cons_succ]
  refine wpAnyH_take (i := 8) (v := undef) rfl (by kernel_rfl) (by kernel_rfl) (by kernel_rfl) (fun _ _ _ h => h) (Or.inr ⟨by rfl, rfl⟩) (by assumption) ?_
  try simp only [Act.put, List.getElem_toArray, List.getElem_cons_zero, List.getElem_cons_succ, List.setIfInBounds_toArray, List.set_cons_zero, List.set_cons_succ]
  refine wpAnyH_take (i := 9) (v := undef) rfl (by kernel_rfl) (by kernel_rfl) (by kernel_rfl) (fun _ _ _ h => h) (Or.inr ⟨by rfl, rfl⟩) (by assumption) ?_
  try simp only [Act.put, List.getElem_toArray, List.getElem_cons_zero, List.getElem_cons_succ, List.setIfInBounds_toArray, List.set_cons_zero, List.set_cons_succ]
  refine wpAnyH_take (i := 10) (v := undef) rfl (by kernel_rfl) (by kernel_rfl) (by kernel_rfl) (fun _ _ _ h => h) (Or.inr ⟨by rfl, rfl⟩) (by assumption) ?_
  try simp only [Act.put, List.getElem_toArray, List.getElem_cons_zero, List.getElem_cons_succ, List.setIfInBounds_toArray, List.set_cons_zero, List.set_cons_succ]
  refine wpAnyH_take (i := 11) (v := ?_) rfl (by kernel_rfl) (by kernel_rfl) (by kernel_rfl) (fun _ _ _ h => h) (Or.inl ⟨by rfl, ?_⟩) (by assumption) ?_
  rotate_left
  · (intro W _; go_simp; try with_reducible rfl)
  try simp only [Act.put, List.getElem_toArray, List.getElem_cons_zero, List.getElem_cons_succ, List.setIfInBounds_toArray, List.set_cons_zero, List.set_cons_succ]
  refine wpAnyH_ready (rs := [12]) (by kernel_rfl) (by simp) (AllReadyH.cons rfl (fun K hK => ?_) AllReadyH.nil)
  simp only [List.getElem_toArray, List.getElem_cons_zero, List.getElem_cons_succ]
  rw [if_pos (by rfl)]
  with_reducible refine op_storeEnt (Ent.mk l 2 t pt pp r c ⟨#[]⟩) r10_1.out (evals_length _) (by rfl) ?_ ?_ (fun W10_2 hP10_4 hS10_5 => ?_)
  · rfl
  · rfl
  have r10_6 : Hid (EnAt w0.heap.size (Ent.mk l 2 t pt pp r c ⟨#[]⟩) W10_2) := Lib.hid hP10_4
  refine hK.out _ _ (St.stored hHeld (by simp; omega) (by omega) hS10_5) (fun hH10_3 => ?_)
  clear hK K
  simp only [Act.put, List.setIfInBounds_toArray, List.set_cons_zero, List.set_cons_succ]
  refine wpAnyH_take (i := 13) (v := ?_) rfl (by kernel_rfl) (by kernel_rfl) (by kernel_rfl) (fun _ _ _ h => h) (Or.inl ⟨by rfl, ?_⟩) (by assumption) ?_
  rotate_left
  · (intro W _; go_simp; try with_reducible rfl)
  try simp only [Act.put, List.getElem_toArray, List.getElem_cons_zero, List.getElem_cons_succ, List.setIfInBounds_toArray, List.set_cons_zero, List.set_cons_succ]
  refine wpAnyH_done (by kernel_rfl) ?_ _
  go_wp2
  exact bodyPost_ret (res_entE rfl rfl r10_6.out) rfl ⟨rfl, And.right hH10_3⟩

set_option maxRecDepth 4000 in
set_option maxHeartbeats 4000000 in
theorem shape2d (l t pt pp r : Int) (c : Chg) (s : ByteArray) (hf : FitsH c) (hv : validH c = true) (h1 : 0 < pt) (h2 : 1 ≤ r) (h3 : ¬ r ≤ pt) (w : World) : Calls Try.prog 33 #[.agg (Ent.arr (Ent.mk l 2 t pt pp r c s))] w fun e' w' => e' = .returned (.tuple #[.agg (Ent.arr (Ent.mk l 2 t pt pp r c ⟨#[]⟩)), .bool false]) ∧ Below w.heap.size w w' := by
  have CV : Hid (Says 53 #[.agg c.arr] true) := Lib.hid fun w => by have := kb.refValid_any c w hf; rwa [hv] at this
  clear hv
  have d1 : decide (0 < pt) = true := by simpa using h1
  have d2 : decide (1 ≤ r) = true := by simpa using h2
  have d3 : decide (r ≤ pt) = false := by simpa using h3
  have hbd := build_ent2 l 2
  have HU : Hid True := Lib.hid trivial
  go_enter Try.func33, Try.ntmps33
  go_upto_region 5 with (first
    | (clear HU; refine wp_boxEntW (Ent.mk l 2 t pt pp r c s) rfl rfl rfl ?_; intro w0 hE hb0 z0; have E0 := Lib.hid hE; have HB0 := Lib.hid hb0; have G0 : Hid True := Lib.hid trivial; clear hE hb0)
    | (clear G0; refine wp_newEntW rfl rfl ?_; intro w1 hR hb1 z1; have R1 := Lib.hid hR; have E1 := Lib.hid (RowAt.keep E0.out hb1); have HB1 := Lib.hid (HB0.out.trans (hb1.mono HB0.out.size)); have G1 : Hid True := Lib.hid trivial; obtain ⟨a0, a1, a2, a3, a4, a5, a6, a7, a8, a9, a10, a11, a12⟩ := EnAt.all E1.out; simp only at a0 a1 a2 a3 a4 a5 a6 a7 a8 a9 a10 a11 a12; clear hR hb1 E0 HB0)
    | (clear G1; refine wp_newEntW rfl rfl ?_; intro w2 hO hb2 z2; have O2 := Lib.hid hO; have R2 := Lib.hid (RowAt.keep R1.out hb2); have E2 := Lib.hid (RowAt.keep E1.out hb2); have HB2 := Lib.hid (HB1.out.trans (hb2.mono HB1.out.size)); clear hO hb2 R1 E1 HB1 a0 a1 a2 a3 a4 a5 a6 a7 a8 a9 a10 a11 a12)
    | (clear hbd; refine wp_storeEntW (Ent.mk l 2 0 0 0 0 chg0 ⟨#[]⟩) O2.out (evals_length _) rfl rfl rfl rfl ?_; intro w3 hO hS; have O3 := Lib.hid hO; have R3 := Lib.hid (StoredAt.row hS R2.out (by omega)); have E3 := Lib.hid (StoredAt.row hS E2.out (by omega)); have HB3 := Lib.hid (StoredAt.below hS HB2.out (by omega)); clear hO hS O2 R2 E2 HB2; obtain ⟨a0, a1, a2, a3, a4, a5, a6, a7, a8, a9, a10, a11, a12⟩ := EnAt.all E3.out; simp only at a0 a1 a2 a3 a4 a5 a6 a7 a8 a9 a10 a11 a12))
  have HS3 := Lib.hid (St.add (st_nil (w := w) HB3.out) E3.out)
  clear a0 a1 a2 a3 a4 a5 a6 a7 a8 a9 a10 a11 a12 E3 HB3
  refine wp_region_held_drew (S := St [(w.heap.size, (Ent.vals (Ent.mk l 2 t pt pp r c s)))] w) (by kernel_rfl) (St.drew HS3.out) (fun hHeld => ?_)
  have r5_1 := Lib.hid (RowAt.drew O3.out)
  have r5_2 := Lib.hid (RowAt.drew R3.out)
  refine wpAnyH_take (i := 0) (v := ?_) rfl (by kernel_rfl) (by kernel_rfl) (by kernel_rfl) (fun _ _ _ h => h) (Or.inl ⟨by rfl, ?_⟩) (by assumption) ?_
  rotate_left
  · (intro W _; go_simp; try with_reducible rfl)
  try simp only [Act.put, List.getElem_toArray, List.getElem_cons_zero, List.setIfInBounds_toArray, List.set_cons_zero, List.set_cons_succ]
  refine wpAnyH_take (i := 1) (v := ?_) rfl (by kernel_rfl) (by kernel_rfl) (by kernel_rfl) (fun _ _ _ h => h) (Or.inl ⟨by rfl, ?_⟩) (by assumption) ?_
  rotate_left
  · (intro W hSw; have c0 := (St.row hSw (b := w.heap.size) (vs := (Ent.vals (Ent.mk l 2 t pt pp r c s))) (by simp)).cells 2 _ rfl; clear hSw; go_simp; try with_reducible rfl)
  try simp only [Act.put, List.getElem_toArray, List.getElem_cons_zero, List.getElem_cons_succ, List.setIfInBounds_toArray, List.set_cons_zero, List.set_cons_succ]
  refine wpAnyH_take (i := 2) (v := ?_) rfl (by kernel_rfl) (by kernel_rfl) (by kernel_rfl) (fun _ _ _ h => h) (Or.inl ⟨by rfl, ?_⟩) (by assumption) ?_
  rotate_left
  · (intro W _; go_simp; try with_reducible rfl)
  try simp only [Act.put, List.getElem_toArray, List.getElem_cons_zero, List.getElem_cons_succ, List.setIfInBounds_toArray, List.set_cons_zero, List.set_cons_succ]
  refine wpAnyH_take (i := 3) (v := ?_) rfl (by kernel_rfl) (by kernel_rfl) (by kernel_rfl) (fun _ _ _ h => h) (Or.inl ⟨by rfl, ?_⟩) (by assumption) ?_
  rotate_left
  · (intro W hSw; have c0 := (St.row hSw (b := w.heap.size) (vs := (Ent.vals (Ent.mk l 2 t pt pp r c s))) (by simp)).cells 3 _ rfl; clear hSw; go_simp; try with_reducible rfl)
  try simp only [Act.put, List.getElem_toArray, List.getElem_cons_zero, List.getElem_cons_succ, List.setIfInBounds_toArray, List.set_cons_zero, List.set_cons_succ]
  refine wpAnyH_take (i := 4) (v := ?_) rfl (by kernel_rfl) (by kernel_rfl) (by kernel_rfl) (fun _ _ _ h => h) (Or.inl ⟨by rfl, ?_⟩) (by assumption) ?_
  rotate_left
  · (intro W _; go_simp; try with_reducible rfl)
  try simp only [Act.put, List.getElem_toArray, List.getElem_cons_zero, List.getElem_cons_succ, List.setIfInBounds_toArray, List.set_cons_zero, List.set_cons_succ]
  refine wpAnyH_take (i := 5) (v := ?_) rfl (by kernel_rfl) (by kernel_rfl) (by kernel_rfl) (fun _ _ _ h => h) (Or.inl ⟨by rfl, ?_⟩) (by assumption) ?_
  rotate_left
  · (intro W hSw; have c0 := (St.row hSw (b := w.heap.size) (vs := (Ent.vals (Ent.mk l 2 t pt pp r c s))) (by simp)).cells 4 _ rfl; clear hSw; go_simp; try with_reducible rfl)
  try simp only [Act.put, List.getElem_toArray, List.getElem_cons_zero, List.getElem_cons_succ, List.setIfInBounds_toArray, List.set_cons_zero, List.set_cons_succ]
  refine wpAnyH_take (i := 6) (v := ?_) rfl (by kernel_rfl) (by kernel_rfl) (by kernel_rfl) (fun _ _ _ h => h) (Or.inl ⟨by rfl, ?_⟩) (by assumption) ?_
  rotate_left
  · (intro W _; go_simp; try with_reducible rfl)
  try simp only [Act.put, List.getElem_toArray, List.getElem_cons_zero, List.getElem_cons_succ, List.setIfInBounds_toArray, List.set_cons_zero, List.set_cons_succ]
  refine wpAnyH_take (i := 7) (v := (.agg (Chg.arr (Ent.change (Ent.mk l 2 t pt pp r c s))))) rfl (by kernel_rfl) (by kernel_rfl) (by kernel_rfl) (fun _ _ _ h => h) (yieldsIf_load_mid (by rfl) 26 _ rfl w.heap.size 6 rfl (Chg.vals (Ent.change (Ent.mk l 2 t pt pp r c s))) _ (fun W hSw => RowAt.range (St.row hSw (b := w.heap.size) (vs := (Ent.vals (Ent.mk l 2 t pt pp r c s))) (by simp)) 6 (fun j v hv => chg_in _ j v hv)) Try.underlying26 rfl info_change) (by assumption) ?_
  try simp only [Act.put, List.getElem_toArray, List.getElem_cons_zero, List.getElem_cons_succ, List.setIfInBounds_toArray, List.set_cons_zero, List.set_cons_succ]
  refine wpAnyH_take (i := 8) (v := ?_) rfl (by kernel_rfl) (by kernel_rfl) (by kernel_rfl) (fun _ _ _ h => h) (Or.inl ⟨by rfl, ?_⟩) (by assumption) ?_
  rotate_left
  · (intro W _; go_simp; try with_reducible rfl)
  try simp only [Act.put, List.getElem_toArray, List.getElem_cons_zero, List.getElem_cons_succ, List.setIfInBounds_toArray, List.set_cons_zero, List.set_cons_succ]
  refine wpAnyH_ready (rs := [9]) (by kernel_rfl) (by simp) (AllReadyH.cons rfl (fun K hK => ?_) AllReadyH.nil)
  simp only [List.getElem_toArray, List.getElem_cons_zero, List.getElem_cons_succ]
  rw [if_pos (by rfl)]
  with_reducible refine op_storeField 3 (.int .i64 t) rfl rfl info_int1 r5_1.out (show 2 < 13 by decide) (by rfl) ?_ ?_ (fun W5_3 hP5_5 hS5_6 => ?_)
  · rfl
  · rfl
  have r5_7 : Hid (EnAt w1.heap.size (Ent.mk l 2 t 0 0 0 chg0 ⟨#[]⟩) W5_3) := Lib.hid hP5_5
  have r5_8 := Lib.hid (StoredAt.row hS5_6 r5_2.out (by omega))
  refine hK.out _ _ (St.stored hHeld (by simp; omega) (by omega) hS5_6) (fun hH5_4 => ?_)
  clear hK K
  simp only [Act.put, List.setIfInBounds_toArray, List.set_cons_zero, List.set_cons_succ]
  refine wpAnyH_take (i := 10) (v := ?_) rfl (by kernel_rfl) (by kernel_rfl) (by kernel_rfl) (fun _ _ _ h => h) (Or.inl ⟨by rfl, ?_⟩) (by assumption) ?_
  rotate_left
  · (intro W _; go_simp; try with_reducible rfl)
  try simp only [Act.put, List.getElem_toArray, List.getElem_cons_zero, List.getElem_cons_succ, List.setIfInBounds_toArray, List.set_cons_zero, List.set_cons_succ]
  refine wpAnyH_ready (rs := [11]) (by kernel_rfl) (by simp) (AllReadyH.cons rfl (fun K hK => ?_) AllReadyH.nil)
  simp only [List.getElem_toArray, List.getElem_cons_zero, List.getElem_cons_succ]
  rw [if_pos (by rfl)]
  with_reducible refine op_storeField 3 (.int .i64 pt) rfl rfl info_int1 r5_7.out (show 3 < 13 by decide) (by rfl) ?_ ?_ (fun W5_9 hP5_11 hS5_12 => ?_)
  · rfl
  · rfl
  have r5_13 : Hid (EnAt w1.heap.size (Ent.mk l 2 t pt 0 0 chg0 ⟨#[]⟩) W5_9) := Lib.hid hP5_11
  have r5_14 := Lib.hid (StoredAt.row hS5_12 r5_8.out (by omega))
  refine hK.out _ _ (St.stored hH5_4 (by simp; omega) (by omega) hS5_12) (fun hH5_10 => ?_)
  clear hK K
  simp only [Act.put, List.setIfInBounds_toArray, List.set_cons_zero, List.set_cons_succ]
  refine wpAnyH_take (i := 12) (v := ?_) rfl (by kernel_rfl) (by kernel_rfl) (by kernel_rfl) (fun _ _ _ h => h) (Or.inl ⟨by rfl, ?_⟩) (by assumption) ?_
  rotate_left
  · (intro W _; go_simp; try with_reducible rfl)
  try simp only [Act.put, List.getElem_toArray, List.getElem_cons_zero, List.getElem_cons_succ, List.setIfInBounds_toArray, List.set_cons_zero, List.set_cons_succ]
  refine wpAnyH_ready (rs := [13]) (by kernel_rfl) (by simp) (AllReadyH.cons rfl (fun K hK => ?_) AllReadyH.nil)
  simp only [List.getElem_toArray, List.getElem_cons_zero, List.getElem_cons_succ]
  rw [if_pos (by rfl)]
  with_reducible refine op_storeField 3 (.int .i64 pp) rfl rfl info_int1 r5_13.out (show 4 < 13 by decide) (by rfl) ?_ ?_ (fun W5_15 hP5_17 hS5_18 => ?_)
  · rfl
  · rfl
  have r5_19 : Hid (EnAt w1.heap.size (Ent.mk l 2 t pt pp 0 chg0 ⟨#[]⟩) W5_15) := Lib.hid hP5_17
  have r5_20 := Lib.hid (StoredAt.row hS5_18 r5_14.out (by omega))
  refine hK.out _ _ (St.stored hH5_10 (by simp; omega) (by omega) hS5_18) (fun hH5_16 => ?_)
  clear hK K
  simp only [Act.put, List.setIfInBounds_toArray, List.set_cons_zero, List.set_cons_succ]
  refine wpAnyH_take (i := 14) (v := ?_) rfl (by kernel_rfl) (by kernel_rfl) (by kernel_rfl) (fun _ _ _ h => h) (Or.inl ⟨by rfl, ?_⟩) (by assumption) ?_
  rotate_left
  · (intro W _; go_simp; try with_reducible rfl)
  try simp only [Act.put, List.getElem_toArray, List.getElem_cons_zero, List.getElem_cons_succ, List.setIfInBounds_toArray, List.set_cons_zero, List.set_cons_succ]
  refine wpAnyH_ready (rs := [15]) (by kernel_rfl) (by simp) (AllReadyH.cons rfl (fun K hK => ?_) AllReadyH.nil)
  simp only [List.getElem_toArray, List.getElem_cons_zero, List.getElem_cons_succ]
  rw [if_pos (by rfl)]
  with_reducible refine op_storeChg6 c (Ent.mk l 2 t pt pp 0 chg0 ⟨#[]⟩) r5_19.out (by rfl) ?_ ?_ (fun W5_21 hP5_23 hS5_24 => ?_)
  · rfl
  · rfl
  have r5_25 : Hid (EnAt w1.heap.size (Ent.mk l 2 t pt pp 0 c ⟨#[]⟩) W5_21) := Lib.hid hP5_23
  have r5_26 := Lib.hid (StoredAt.row hS5_24 r5_20.out (by omega))
  refine hK.out _ _ (St.stored hH5_16 (by simp; omega) (by omega) hS5_24) (fun hH5_22 => ?_)
  clear hK K
  simp only [Act.put, List.setIfInBounds_toArray, List.set_cons_zero, List.set_cons_succ]
  refine wpAnyH_done (by kernel_rfl) ?_ _
  have E5 := Lib.hid (St.row hH5_22 (b := w.heap.size) (vs := Ent.vals (Ent.mk l 2 t pt pp r c s)) (by simp))
  have HB5 := Lib.hid (And.right hH5_22)
  have O5 := Lib.hid r5_25.out
  have R5 := Lib.hid r5_26.out
  obtain ⟨a0, a1, a2, a3, a4, a5, a6, a7, a8, a9, a10, a11, a12⟩ := EnAt.all E5.out
  simp only at a0 a1 a2 a3 a4 a5 a6 a7 a8 a9 a10 a11 a12
  go_upto_region 10 with (first
    | (refine wp_loadChg6 (Ent.mk l 2 t pt pp r c s) E5.out rfl rfl rfl ?_)
    | (go_at_call 53; (with_reducible refine (CV.out _).mono ?_); rintro e6 w6 ⟨rfl, hb6⟩; have O6 := Lib.hid (RowAt.keep O5.out hb6); have R6 := Lib.hid (RowAt.keep R5.out hb6); have E6 := Lib.hid (RowAt.keep E5.out hb6); have HB6 := Lib.hid (HB5.out.trans (hb6.mono HB5.out.size)); clear hb6 O5 R5 E5 HB5 a0 a1 a2 a3 a4 a5 a6 a7 a8 a9 a10 a11 a12; obtain ⟨a0, a1, a2, a3, a4, a5, a6, a7, a8, a9, a10, a11, a12⟩ := EnAt.all E6.out; simp only at a0 a1 a2 a3 a4 a5 a6 a7 a8 a9 a10 a11 a12)
    | (refine wp_storeFieldW 3 (.int .i64 r) rfl rfl info_int1 O6.out (show 5 < 13 by decide) rfl rfl rfl rfl ?_; intro w7 hO hS; have O7 : Hid (EnAt w1.heap.size (Ent.mk l 2 t pt pp r c ⟨#[]⟩) w7) := Lib.hid hO; have R7 := Lib.hid (StoredAt.row hS R6.out (by omega)); have E7 := Lib.hid (StoredAt.row hS E6.out (by omega)); have HB7 := Lib.hid (StoredAt.below hS HB6.out (by omega)); clear hO hS O6 R6 E6 HB6 a0 a1 a2 a3 a4 a5 a6 a7 a8 a9 a10 a11 a12; obtain ⟨a0, a1, a2, a3, a4, a5, a6, a7, a8, a9, a10, a11, a12⟩ := EnAt.all E7.out; simp only at a0 a1 a2 a3 a4 a5 a6 a7 a8 a9 a10 a11 a12))
  have HS7 := Lib.hid (St.add (St.add (st_nil (w := w) HB7.out) E7.out) O7.out)
  clear a0 a1 a2 a3 a4 a5 a6 a7 a8 a9 a10 a11 a12
  refine wp_region_held_drew (S := St [(w1.heap.size, (Ent.vals (Ent.mk l 2 t pt pp r c ⟨#[]⟩))), (w.heap.size, (Ent.vals (Ent.mk l 2 t pt pp r c s)))] w) (by kernel_rfl) (St.drew HS7.out) (fun hHeld => ?_)
  have r10_1 := Lib.hid (RowAt.drew R7.out)
  refine wpAnyH_take (i := 0) (v := (.agg (Ent.arr (Ent.mk l 2 t pt pp r c ⟨#[]⟩)))) rfl (by kernel_rfl) (by kernel_rfl) (by kernel_rfl) (fun _ _ _ h => h) (yieldsIf_load_mid (by rfl) 28 _ rfl w1.heap.size 0 rfl (Ent.vals (Ent.mk l 2 t pt pp r c ⟨#[]⟩)) _ (fun W hSw => RowAt.range (St.row hSw (b := w1.heap.size) (vs := (Ent.vals (Ent.mk l 2 t pt pp r c ⟨#[]⟩))) (by simp)) 0 (fun j v hv => by rw [Nat.zero_add]; exact hv)) Try.underlying28 rfl info_ent) (by assumption) ?_
  try simp only [Act.put, List.getElem_toArray, List.getElem_cons_zero, List.setIfInBounds_toArray, List.set_cons_zero, List.set_cons_succ]
  refine wpAnyH_take (i := 1) (v := ?_) rfl (by kernel_rfl) (by kernel_rfl) (by kernel_rfl) (fun _ _ _ h => h) (Or.inl ⟨by rfl, ?_⟩) (by assumption) ?_
  rotate_left
  · (intro W _; go_simp; try with_reducible rfl)
  try simp only [Act.put, List.getElem_toArray, List.getElem_cons_zero, List.getElem_cons_succ, List.setIfInBounds_toArray, List.set_cons_zero, List.set_cons_succ]
  refine wpAnyH_take (i := 2) (v := ?_) rfl (by kernel_rfl) (by kernel_rfl) (by kernel_rfl) (fun _ _ _ h => h) (Or.inl ⟨by rfl, ?_⟩) (by assumption) ?_
  rotate_left
  · (intro W _; go_simp; try with_reducible rfl)
  try simp only [Act.put, List.getElem_toArray, List.getElem_cons_zero, List.getElem_cons_succ, List.setIfInBounds_toArray, List.set_cons_zero, List.set_cons_succ]
  refine wpAnyH_take (i := 3) (v := undef) rfl (by kernel_rfl) (by kernel_rfl) (by kernel_rfl) (fun _ _ _ h => h) (Or.inr ⟨by rfl, rfl⟩) (by assumption) ?_
  try simp only [Act.put, List.getElem_toArray, List.getElem_cons_zero, List.getElem_cons_succ, List.setIfInBounds_toArray, List.set_cons_zero, List.set_cons_succ]
  refine wpAnyH_take (i := 4) (v := undef) rfl (by kernel_rfl) (by kernel_rfl) (by kernel_rfl) (fun _ _ _ h => h) (Or.inr ⟨by rfl, rfl⟩) (by assumption) ?_
  try simp only [Act.put, List.getElem_toArray, List.getElem_cons_zero, List.getElem_cons_succ, List.setIfInBounds_toArray, List.set_cons_zero, List.set_cons_succ]
  refine wpAnyH_take (i := 5) (v := undef) rfl (by kernel_rfl) (by kernel_rfl) (by kernel_rfl) (fun _ _ _ h => h) (Or.inr ⟨by rfl, rfl⟩) (by assumption) ?_
  try simp only [Act.put, List.getElem_toArray, List.getElem_cons_zero, List.getElem_cons_succ, List.setIfInBounds_toArray, List.set_cons_zero, List.set_cons_succ]
  refine wpAnyH_take (i := 6) (v := ?_) rfl (by kernel_rfl) (by kernel_rfl) (by kernel_rfl) (fun _ _ _ h => h) (Or.inl ⟨by rfl, ?_⟩) (by assumption) ?_
  rotate_left
  · (intro W _; go_simp; try with_reducible rfl)
  try simp only [Act.put, List.getElem_toArray, List.getElem_cons_zero, List.getElem_cons_succ, List.setIfInBounds_toArray, List.set_cons_zero, List.set_cons_succ]
  refine wpAnyH_take (i := 7) (v := ?_) rfl (by kernel_rfl) (by kernel_rfl) (by kernel_rfl) (fun _ _ _ h => h) (Or.inl ⟨by rfl, ?_⟩) (by assumption) ?_
  rotate_left
  · (intro W _; go_simp; try with_reducible rfl)
  try simp only [Act.put, List.getElem_toArray, List.getElem_cons_zero, List.getElem_cons_succ, List.setIfInBounds_toArray, List.set_cons_zero, List.set_cons_succ]
  refine wpAnyH_take (i := 8) (v := undef) rfl (by kernel_rfl) (by kernel_rfl) (by kernel_rfl) (fun _ _ _ h => h) (Or.inr ⟨by rfl, rfl⟩) (by assumption) ?_
  try simp only [Act.put, List.getElem_toArray, List.getElem_cons_zero, List.getElem_cons_succ, List.setIfInBounds_toArray, List.set_cons_zero, List.set_cons_succ]
  refine wpAnyH_take (i := 9) (v := undef) rfl (by kernel_rfl) (by kernel_rfl) (by kernel_rfl) (fun _ _ _ h => h) (Or.inr ⟨by rfl, rfl⟩) (by assumption) ?_
  try simp only [Act.put, List.getElem_toArray, List.getElem_cons_zero, List.getElem_cons_succ, List.setIfInBounds_toArray, List.set_cons_zero, List.set_cons_succ]
  refine wpAnyH_take (i := 10) (v := undef) rfl (by kernel_rfl) (by kernel_rfl) (by kernel_rfl) (fun _ _ _ h => h) (Or.inr ⟨by rfl, rfl⟩) (by assumption) ?_
  try simp only [Act.put, List.getElem_toArray, List.getElem_cons_zero, List.getElem_cons_succ, List.setIfInBounds_toArray, List.set_cons_zero, List.set_cons_succ]
  refine wpAnyH_take (i := 11) (v := ?_) rfl (by kernel_rfl) (by kernel_rfl) (by kernel_rfl) (fun _ _ _ h => h) (Or.inl ⟨by rfl, ?_⟩) (by assumption) ?_
  rotate_left
  · (intro W _; go_simp; try with_reducible rfl)
  try simp only [Act.put, List.getElem_toArray, List.getElem_cons_zero, List.getElem_cons_succ, List.setIfInBounds_toArray, List.set_cons_zero, List.set_cons_succ]
  refine wpAnyH_ready (rs := [12]) (by kernel_rfl) (by simp) (AllReadyH.cons rfl (fun K hK => ?_) AllReadyH.nil)
  simp only [List.getElem_toArray, List.getElem_cons_zero, List.getElem_cons_succ]
  rw [if_pos (by rfl)]
  with_reducible refine op_storeEnt (Ent.mk l 2 t pt pp r c ⟨#[]⟩) r10_1.out (evals_length _) (by rfl) ?_ ?_ (fun W10_2 hP10_4 hS10_5 => ?_)
  · rfl
  · rfl
  have r10_6 : Hid (EnAt w0.heap.size (Ent.mk l 2 t pt pp r c ⟨#[]⟩) W10_2) := Lib.hid hP10_4
  refine hK.out _ _ (St.stored hHeld (by simp; omega) (by omega) hS10_5) (fun hH10_3 => ?_)
  clear hK K
  simp only [Act.put, List.setIfInBounds_toArray, List.set_cons_zero, List.set_cons_succ]
  refine wpAnyH_take (i := 13) (v := ?_) rfl (by kernel_rfl) (by kernel_rfl) (by kernel_rfl) (fun _ _ _ h => h) (Or.inl ⟨by rfl, ?_⟩) (by assumption) ?_
  rotate_left
  · (intro W _; go_simp; try with_reducible rfl)
  try simp only [Act.put, List.getElem_toArray, List.getElem_cons_zero, List.getElem_cons_succ, List.setIfInBounds_toArray, List.set_cons_zero, List.set_cons_succ]
  refine wpAnyH_done (by kernel_rfl) ?_ _
  go_wp2
  exact bodyPost_ret (res_entE rfl rfl r10_6.out) rfl ⟨rfl, And.right hH10_3⟩

set_option maxRecDepth 4000 in
set_option maxHeartbeats 4000000 in
theorem shape2e (l t pt pp r : Int) (c : Chg) (s : ByteArray) (hf : FitsH c) (hv : validH c = true) (h1 : 0 < pt) (h2 : 1 ≤ r) (h3 : r ≤ pt) (h4 : ¬ 1 ≤ t) (w : World) : Calls Try.prog 33 #[.agg (Ent.arr (Ent.mk l 2 t pt pp r c s))] w fun e' w' => e' = .returned (.tuple #[.agg (Ent.arr (Ent.mk l 2 t pt pp r c ⟨#[]⟩)), .bool false]) ∧ Below w.heap.size w w' := by
  have CV : Hid (Says 53 #[.agg c.arr] true) := Lib.hid fun w => by have := kb.refValid_any c w hf; rwa [hv] at this
  clear hv
  have d1 : decide (0 < pt) = true := by simpa using h1
  have d2 : decide (1 ≤ r) = true := by simpa using h2
  have d3 : decide (r ≤ pt) = true := by simpa using h3
  have d4 : decide (1 ≤ t) = false := by simpa using h4
  have hbd := build_ent2 l 2
  have HU : Hid True := Lib.hid trivial
  go_enter Try.func33, Try.ntmps33
  go_upto_region 5 with (first
    | (clear HU; refine wp_boxEntW (Ent.mk l 2 t pt pp r c s) rfl rfl rfl ?_; intro w0 hE hb0 z0; have E0 := Lib.hid hE; have HB0 := Lib.hid hb0; have G0 : Hid True := Lib.hid trivial; clear hE hb0)
    | (clear G0; refine wp_newEntW rfl rfl ?_; intro w1 hR hb1 z1; have R1 := Lib.hid hR; have E1 := Lib.hid (RowAt.keep E0.out hb1); have HB1 := Lib.hid (HB0.out.trans (hb1.mono HB0.out.size)); have G1 : Hid True := Lib.hid trivial; obtain ⟨a0, a1, a2, a3, a4, a5, a6, a7, a8, a9, a10, a11, a12⟩ := EnAt.all E1.out; simp only at a0 a1 a2 a3 a4 a5 a6 a7 a8 a9 a10 a11 a12; clear hR hb1 E0 HB0)
    | (clear G1; refine wp_newEntW rfl rfl ?_; intro w2 hO hb2 z2; have O2 := Lib.hid hO; have R2 := Lib.hid (RowAt.keep R1.out hb2); have E2 := Lib.hid (RowAt.keep E1.out hb2); have HB2 := Lib.hid (HB1.out.trans (hb2.mono HB1.out.size)); clear hO hb2 R1 E1 HB1 a0 a1 a2 a3 a4 a5 a6 a7 a8 a9 a10 a11 a12)
    | (clear hbd; refine wp_storeEntW (Ent.mk l 2 0 0 0 0 chg0 ⟨#[]⟩) O2.out (evals_length _) rfl rfl rfl rfl ?_; intro w3 hO hS; have O3 := Lib.hid hO; have R3 := Lib.hid (StoredAt.row hS R2.out (by omega)); have E3 := Lib.hid (StoredAt.row hS E2.out (by omega)); have HB3 := Lib.hid (StoredAt.below hS HB2.out (by omega)); clear hO hS O2 R2 E2 HB2; obtain ⟨a0, a1, a2, a3, a4, a5, a6, a7, a8, a9, a10, a11, a12⟩ := EnAt.all E3.out; simp only at a0 a1 a2 a3 a4 a5 a6 a7 a8 a9 a10 a11 a12))
  have HS3 := Lib.hid (St.add (st_nil (w := w) HB3.out) E3.out)
  clear a0 a1 a2 a3 a4 a5 a6 a7 a8 a9 a10 a11 a12 E3 HB3
  refine wp_region_held_drew (S := St [(w.heap.size, (Ent.vals (Ent.mk l 2 t pt pp r c s)))] w) (by kernel_rfl) (St.drew HS3.out) (fun hHeld => ?_)
  have r5_1 := Lib.hid (RowAt.drew O3.out)
  have r5_2 := Lib.hid (RowAt.drew R3.out)
  refine wpAnyH_take (i := 0) (v := ?_) rfl (by kernel_rfl) (by kernel_rfl) (by kernel_rfl) (fun _ _ _ h => h) (Or.inl ⟨by rfl, ?_⟩) (by assumption) ?_
  rotate_left
  · (intro W _; go_simp; try with_reducible rfl)
  try simp only [Act.put, List.getElem_toArray, List.getElem_cons_zero, List.setIfInBounds_toArray, List.set_cons_zero, List.set_cons_succ]
  refine wpAnyH_take (i := 1) (v := ?_) rfl (by kernel_rfl) (by kernel_rfl) (by kernel_rfl) (fun _ _ _ h => h) (Or.inl ⟨by rfl, ?_⟩) (by assumption) ?_
  rotate_left
  · (intro W hSw; have c0 := (St.row hSw (b := w.heap.size) (vs := (Ent.vals (Ent.mk l 2 t pt pp r c s))) (by simp)).cells 2 _ rfl; clear hSw; go_simp; try with_reducible rfl)
  try simp only [Act.put, List.getElem_toArray, List.getElem_cons_zero, List.getElem_cons_succ, List.setIfInBounds_toArray, List.set_cons_zero, List.set_cons_succ]
  refine wpAnyH_take (i := 2) (v := ?_) rfl (by kernel_rfl) (by kernel_rfl) (by kernel_rfl) (fun _ _ _ h => h) (Or.inl ⟨by rfl, ?_⟩) (by assumption) ?_
  rotate_left
  · (intro W _; go_simp; try with_reducible rfl)
  try simp only [Act.put, List.getElem_toArray, List.getElem_cons_zero, List.getElem_cons_succ, List.setIfInBounds_toArray, List.set_cons_zero, List.set_cons_succ]
  refine wpAnyH_take (i := 3) (v := ?_) rfl (by kernel_rfl) (by kernel_rfl) (by kernel_rfl) (fun _ _ _ h => h) (Or.inl ⟨by rfl, ?_⟩) (by assumption) ?_
  rotate_left
  · (intro W hSw; have c0 := (St.row hSw (b := w.heap.size) (vs := (Ent.vals (Ent.mk l 2 t pt pp r c s))) (by simp)).cells 3 _ rfl; clear hSw; go_simp; try with_reducible rfl)
  try simp only [Act.put, List.getElem_toArray, List.getElem_cons_zero, List.getElem_cons_succ, List.setIfInBounds_toArray, List.set_cons_zero, List.set_cons_succ]
  refine wpAnyH_take (i := 4) (v := ?_) rfl (by kernel_rfl) (by kernel_rfl) (by kernel_rfl) (fun _ _ _ h => h) (Or.inl ⟨by rfl, ?_⟩) (by assumption) ?_
  rotate_left
  · (intro W _; go_simp; try with_reducible rfl)
  try simp only [Act.put, List.getElem_toArray, List.getElem_cons_zero, List.getElem_cons_succ, List.setIfInBounds_toArray, List.set_cons_zero, List.set_cons_succ]
  refine wpAnyH_take (i := 5) (v := ?_) rfl (by kernel_rfl) (by kernel_rfl) (by kernel_rfl) (fun _ _ _ h => h) (Or.inl ⟨by rfl, ?_⟩) (by assumption) ?_
  rotate_left
  · (intro W hSw; have c0 := (St.row hSw (b := w.heap.size) (vs := (Ent.vals (Ent.mk l 2 t pt pp r c s))) (by simp)).cells 4 _ rfl; clear hSw; go_simp; try with_reducible rfl)
  try simp only [Act.put, List.getElem_toArray, List.getElem_cons_zero, List.getElem_cons_succ, List.setIfInBounds_toArray, List.set_cons_zero, List.set_cons_succ]
  refine wpAnyH_take (i := 6) (v := ?_) rfl (by kernel_rfl) (by kernel_rfl) (by kernel_rfl) (fun _ _ _ h => h) (Or.inl ⟨by rfl, ?_⟩) (by assumption) ?_
  rotate_left
  · (intro W _; go_simp; try with_reducible rfl)
  try simp only [Act.put, List.getElem_toArray, List.getElem_cons_zero, List.getElem_cons_succ, List.setIfInBounds_toArray, List.set_cons_zero, List.set_cons_succ]
  refine wpAnyH_take (i := 7) (v := (.agg (Chg.arr (Ent.change (Ent.mk l 2 t pt pp r c s))))) rfl (by kernel_rfl) (by kernel_rfl) (by kernel_rfl) (fun _ _ _ h => h) (yieldsIf_load_mid (by rfl) 26 _ rfl w.heap.size 6 rfl (Chg.vals (Ent.change (Ent.mk l 2 t pt pp r c s))) _ (fun W hSw => RowAt.range (St.row hSw (b := w.heap.size) (vs := (Ent.vals (Ent.mk l 2 t pt pp r c s))) (by simp)) 6 (fun j v hv => chg_in _ j v hv)) Try.underlying26 rfl info_change) (by assumption) ?_
  try simp only [Act.put, List.getElem_toArray, List.getElem_cons_zero, List.getElem_cons_succ, List.setIfInBounds_toArray, List.set_cons_zero, List.set_cons_succ]
  refine wpAnyH_take (i := 8) (v := ?_) rfl (by kernel_rfl) (by kernel_rfl) (by kernel_rfl) (fun _ _ _ h => h) (Or.inl ⟨by rfl, ?_⟩) (by assumption) ?_
  rotate_left
  · (intro W _; go_simp; try with_reducible rfl)
  try simp only [Act.put, List.getElem_toArray, List.getElem_cons_zero, List.getElem_cons_succ, List.setIfInBounds_toArray, List.set_cons_zero, List.set_cons_succ]
  refine wpAnyH_ready (rs := [9]) (by kernel_rfl) (by simp) (AllReadyH.cons rfl (fun K hK => ?_) AllReadyH.nil)
  simp only [List.getElem_toArray, List.getElem_cons_zero, List.getElem_cons_succ]
  rw [if_pos (by rfl)]
  with_reducible refine op_storeField 3 (.int .i64 t) rfl rfl info_int1 r5_1.out (show 2 < 13 by decide) (by rfl) ?_ ?_ (fun W5_3 hP5_5 hS5_6 => ?_)
  · rfl
  · rfl
  have r5_7 : Hid (EnAt w1.heap.size (Ent.mk l 2 t 0 0 0 chg0 ⟨#[]⟩) W5_3) := Lib.hid hP5_5
  have r5_8 := Lib.hid (StoredAt.row hS5_6 r5_2.out (by omega))
  refine hK.out _ _ (St.stored hHeld (by simp; omega) (by omega) hS5_6) (fun hH5_4 => ?_)
  clear hK K
  simp only [Act.put, List.setIfInBounds_toArray, List.set_cons_zero, List.set_cons_succ]
  refine wpAnyH_take (i := 10) (v := ?_) rfl (by kernel_rfl) (by kernel_rfl) (by kernel_rfl) (fun _ _ _ h => h) (Or.inl ⟨by rfl, ?_⟩) (by assumption) ?_
  rotate_left
  · (intro W _; go_simp; try with_reducible rfl)
  try simp only [Act.put, List.getElem_toArray, List.getElem_cons_zero, List.getElem_cons_succ, List.setIfInBounds_toArray, List.set_cons_zero, List.set_cons_succ]
  refine wpAnyH_ready (rs := [11]) (by kernel_rfl) (by simp) (AllReadyH.cons rfl (fun K hK => ?_) AllReadyH.nil)
  simp only [List.getElem_toArray, List.getElem_cons_zero, List.getElem_cons_succ]
  rw [if_pos (by rfl)]
  with_reducible refine op_storeField 3 (.int .i64 pt) rfl rfl info_int1 r5_7.out (show 3 < 13 by decide) (by rfl) ?_ ?_ (fun W5_9 hP5_11 hS5_12 => ?_)
  · rfl
  · rfl
  have r5_13 : Hid (EnAt w1.heap.size (Ent.mk l 2 t pt 0 0 chg0 ⟨#[]⟩) W5_9) := Lib.hid hP5_11
  have r5_14 := Lib.hid (StoredAt.row hS5_12 r5_8.out (by omega))
  refine hK.out _ _ (St.stored hH5_4 (by simp; omega) (by omega) hS5_12) (fun hH5_10 => ?_)
  clear hK K
  simp only [Act.put, List.setIfInBounds_toArray, List.set_cons_zero, List.set_cons_succ]
  refine wpAnyH_take (i := 12) (v := ?_) rfl (by kernel_rfl) (by kernel_rfl) (by kernel_rfl) (fun _ _ _ h => h) (Or.inl ⟨by rfl, ?_⟩) (by assumption) ?_
  rotate_left
  · (intro W _; go_simp; try with_reducible rfl)
  try simp only [Act.put, List.getElem_toArray, List.getElem_cons_zero, List.getElem_cons_succ, List.setIfInBounds_toArray, List.set_cons_zero, List.set_cons_succ]
  refine wpAnyH_ready (rs := [13]) (by kernel_rfl) (by simp) (AllReadyH.cons rfl (fun K hK => ?_) AllReadyH.nil)
  simp only [List.getElem_toArray, List.getElem_cons_zero, List.getElem_cons_succ]
  rw [if_pos (by rfl)]
  with_reducible refine op_storeField 3 (.int .i64 pp) rfl rfl info_int1 r5_13.out (show 4 < 13 by decide) (by rfl) ?_ ?_ (fun W5_15 hP5_17 hS5_18 => ?_)
  · rfl
  · rfl
  have r5_19 : Hid (EnAt w1.heap.size (Ent.mk l 2 t pt pp 0 chg0 ⟨#[]⟩) W5_15) := Lib.hid hP5_17
  have r5_20 := Lib.hid (StoredAt.row hS5_18 r5_14.out (by omega))
  refine hK.out _ _ (St.stored hH5_10 (by simp; omega) (by omega) hS5_18) (fun hH5_16 => ?_)
  clear hK K
  simp only [Act.put, List.setIfInBounds_toArray, List.set_cons_zero, List.set_cons_succ]
  refine wpAnyH_take (i := 14) (v := ?_) rfl (by kernel_rfl) (by kernel_rfl) (by kernel_rfl) (fun _ _ _ h => h) (Or.inl ⟨by rfl, ?_⟩) (by assumption) ?_
  rotate_left
  · (intro W _; go_simp; try with_reducible rfl)
  try simp only [Act.put, List.getElem_toArray, List.getElem_cons_zero, List.getElem_cons_succ, List.setIfInBounds_toArray, List.set_cons_zero, List.set_cons_succ]
  refine wpAnyH_ready (rs := [15]) (by kernel_rfl) (by simp) (AllReadyH.cons rfl (fun K hK => ?_) AllReadyH.nil)
  simp only [List.getElem_toArray, List.getElem_cons_zero, List.getElem_cons_succ]
  rw [if_pos (by rfl)]
  with_reducible refine op_storeChg6 c (Ent.mk l 2 t pt pp 0 chg0 ⟨#[]⟩) r5_19.out (by rfl) ?_ ?_ (fun W5_21 hP5_23 hS5_24 => ?_)
  · rfl
  · rfl
  have r5_25 : Hid (EnAt w1.heap.size (Ent.mk l 2 t pt pp 0 c ⟨#[]⟩) W5_21) := Lib.hid hP5_23
  have r5_26 := Lib.hid (StoredAt.row hS5_24 r5_20.out (by omega))
  refine hK.out _ _ (St.stored hH5_16 (by simp; omega) (by omega) hS5_24) (fun hH5_22 => ?_)
  clear hK K
  simp only [Act.put, List.setIfInBounds_toArray, List.set_cons_zero, List.set_cons_succ]
  refine wpAnyH_done (by kernel_rfl) ?_ _
  have E5 := Lib.hid (St.row hH5_22 (b := w.heap.size) (vs := Ent.vals (Ent.mk l 2 t pt pp r c s)) (by simp))
  have HB5 := Lib.hid (And.right hH5_22)
  have O5 := Lib.hid r5_25.out
  have R5 := Lib.hid r5_26.out
  obtain ⟨a0, a1, a2, a3, a4, a5, a6, a7, a8, a9, a10, a11, a12⟩ := EnAt.all E5.out
  simp only at a0 a1 a2 a3 a4 a5 a6 a7 a8 a9 a10 a11 a12
  go_upto_region 10 with (first
    | (refine wp_loadChg6 (Ent.mk l 2 t pt pp r c s) E5.out rfl rfl rfl ?_)
    | (go_at_call 53; (with_reducible refine (CV.out _).mono ?_); rintro e6 w6 ⟨rfl, hb6⟩; have O6 := Lib.hid (RowAt.keep O5.out hb6); have R6 := Lib.hid (RowAt.keep R5.out hb6); have E6 := Lib.hid (RowAt.keep E5.out hb6); have HB6 := Lib.hid (HB5.out.trans (hb6.mono HB5.out.size)); clear hb6 O5 R5 E5 HB5 a0 a1 a2 a3 a4 a5 a6 a7 a8 a9 a10 a11 a12; obtain ⟨a0, a1, a2, a3, a4, a5, a6, a7, a8, a9, a10, a11, a12⟩ := EnAt.all E6.out; simp only at a0 a1 a2 a3 a4 a5 a6 a7 a8 a9 a10 a11 a12)
    | (refine wp_storeFieldW 3 (.int .i64 r) rfl rfl info_int1 O6.out (show 5 < 13 by decide) rfl rfl rfl rfl ?_; intro w7 hO hS; have O7 : Hid (EnAt w1.heap.size (Ent.mk l 2 t pt pp r c ⟨#[]⟩) w7) := Lib.hid hO; have R7 := Lib.hid (StoredAt.row hS R6.out (by omega)); have E7 := Lib.hid (StoredAt.row hS E6.out (by omega)); have HB7 := Lib.hid (StoredAt.below hS HB6.out (by omega)); clear hO hS O6 R6 E6 HB6 a0 a1 a2 a3 a4 a5 a6 a7 a8 a9 a10 a11 a12; obtain ⟨a0, a1, a2, a3, a4, a5, a6, a7, a8, a9, a10, a11, a12⟩ := EnAt.all E7.out; simp only at a0 a1 a2 a3 a4 a5 a6 a7 a8 a9 a10 a11 a12))
  have HS7 := Lib.hid (St.add (St.add (st_nil (w := w) HB7.out) E7.out) O7.out)
  clear a0 a1 a2 a3 a4 a5 a6 a7 a8 a9 a10 a11 a12
  refine wp_region_held_drew (S := St [(w1.heap.size, (Ent.vals (Ent.mk l 2 t pt pp r c ⟨#[]⟩))), (w.heap.size, (Ent.vals (Ent.mk l 2 t pt pp r c s)))] w) (by kernel_rfl) (St.drew HS7.out) (fun hHeld => ?_)
  have r10_1 := Lib.hid (RowAt.drew R7.out)
  refine wpAnyH_take (i := 0) (v := (.agg (Ent.arr (Ent.mk l 2 t pt pp r c ⟨#[]⟩)))) rfl (by kernel_rfl) (by kernel_rfl) (by kernel_rfl) (fun _ _ _ h => h) (yieldsIf_load_mid (by rfl) 28 _ rfl w1.heap.size 0 rfl (Ent.vals (Ent.mk l 2 t pt pp r c ⟨#[]⟩)) _ (fun W hSw => RowAt.range (St.row hSw (b := w1.heap.size) (vs := (Ent.vals (Ent.mk l 2 t pt pp r c ⟨#[]⟩))) (by simp)) 0 (fun j v hv => by rw [Nat.zero_add]; exact hv)) Try.underlying28 rfl info_ent) (by assumption) ?_
  try simp only [Act.put, List.getElem_toArray, List.getElem_cons_zero, List.setIfInBounds_toArray, List.set_cons_zero, List.set_cons_succ]
  refine wpAnyH_take (i := 1) (v := ?_) rfl (by kernel_rfl) (by kernel_rfl) (by kernel_rfl) (fun _ _ _ h => h) (Or.inl ⟨by rfl, ?_⟩) (by assumption) ?_
  rotate_left
  · (intro W _; go_simp; try with_reducible rfl)
  try simp only [Act.put, List.getElem_toArray, List.getElem_cons_zero, List.getElem_cons_succ, List.setIfInBounds_toArray, List.set_cons_zero, List.set_cons_succ]
  refine wpAnyH_take (i := 2) (v := ?_) rfl (by kernel_rfl) (by kernel_rfl) (by kernel_rfl) (fun _ _ _ h => h) (Or.inl ⟨by rfl, ?_⟩) (by assumption) ?_
  rotate_left
  · (intro W _; go_simp; try with_reducible rfl)
  try simp only [Act.put, List.getElem_toArray, List.getElem_cons_zero, List.getElem_cons_succ, List.setIfInBounds_toArray, List.set_cons_zero, List.set_cons_succ]
  refine wpAnyH_take (i := 3) (v := ?_) rfl (by kernel_rfl) (by kernel_rfl) (by kernel_rfl) (fun _ _ _ h => h) (Or.inl ⟨by rfl, ?_⟩) (by assumption) ?_
  rotate_left
  · (intro W _; go_simp; try with_reducible rfl)
  try simp only [Act.put, List.getElem_toArray, List.getElem_cons_zero, List.getElem_cons_succ, List.setIfInBounds_toArray, List.set_cons_zero, List.set_cons_succ]
  refine wpAnyH_take (i := 4) (v := ?_) rfl (by kernel_rfl) (by kernel_rfl) (by kernel_rfl) (fun _ _ _ h => h) (Or.inl ⟨by rfl, ?_⟩) (by assumption) ?_
  rotate_left
  · (intro W hSw; have c0 := (St.row hSw (b := w.heap.size) (vs := (Ent.vals (Ent.mk l 2 t pt pp r c s))) (by simp)).cells 2 _ rfl; clear hSw; go_simp; try with_reducible rfl)
  try simp only [Act.put, List.getElem_toArray, List.getElem_cons_zero, List.getElem_cons_succ, List.setIfInBounds_toArray, List.set_cons_zero, List.set_cons_succ]
  refine wpAnyH_take (i := 5) (v := ?_) rfl (by kernel_rfl) (by kernel_rfl) (by kernel_rfl) (fun _ _ _ h => h) (Or.inl ⟨by rfl, ?_⟩) (by assumption) ?_
  rotate_left
  · (intro W _; go_simp; try with_reducible rfl)
  try simp only [Act.put, List.getElem_toArray, List.getElem_cons_zero, List.getElem_cons_succ, List.setIfInBounds_toArray, List.set_cons_zero, List.set_cons_succ]
  refine wpAnyH_take (i := 6) (v := ?_) rfl (by kernel_rfl) (by kernel_rfl) (by kernel_rfl) (fun _ _ _ h => h) (Or.inl ⟨by rfl, ?_⟩) (by assumption) ?_
  rotate_left
  · (intro W _; go_simp; try with_reducible rfl)
  try simp only [Act.put, List.getElem_toArray, List.getElem_cons_zero, List.getElem_cons_succ, List.setIfInBounds_toArray, List.set_cons_zero, List.set_cons_succ]
  refine wpAnyH_take (i := 7) (v := ?_) rfl (by kernel_rfl) (by kernel_rfl) (by kernel_rfl) (fun _ _ _ h => h) (Or.inl ⟨by rfl, ?_⟩) (by assumption) ?_
  rotate_left
  · (intro W _; go_simp; try with_reducible rfl)
  try simp only [Act.put, List.getElem_toArray, List.getElem_cons_zero, List.getElem_cons_succ, List.setIfInBounds_toArray, List.set_cons_zero, List.set_cons_succ]
  refine wpAnyH_take (i := 8) (v := undef) rfl (by kernel_rfl) (by kernel_rfl) (by kernel_rfl) (fun _ _ _ h => h) (Or.inr ⟨by rfl, rfl⟩) (by assumption) ?_
  try simp only [Act.put, List.getElem_toArray, List.getElem_cons_zero, List.getElem_cons_succ, List.setIfInBounds_toArray, List.set_cons_zero, List.set_cons_succ]
  refine wpAnyH_take (i := 9) (v := undef) rfl (by kernel_rfl) (by kernel_rfl) (by kernel_rfl) (fun _ _ _ h => h) (Or.inr ⟨by rfl, rfl⟩) (by assumption) ?_
  try simp only [Act.put, List.getElem_toArray, List.getElem_cons_zero, List.getElem_cons_succ, List.setIfInBounds_toArray, List.set_cons_zero, List.set_cons_succ]
  refine wpAnyH_take (i := 10) (v := undef) rfl (by kernel_rfl) (by kernel_rfl) (by kernel_rfl) (fun _ _ _ h => h) (Or.inr ⟨by rfl, rfl⟩) (by assumption) ?_
  try simp only [Act.put, List.getElem_toArray, List.getElem_cons_zero, List.getElem_cons_succ, List.setIfInBounds_toArray, List.set_cons_zero, List.set_cons_succ]
  refine wpAnyH_take (i := 11) (v := ?_) rfl (by kernel_rfl) (by kernel_rfl) (by kernel_rfl) (fun _ _ _ h => h) (Or.inl ⟨by rfl, ?_⟩) (by assumption) ?_
  rotate_left
  · (intro W _; go_simp; try with_reducible rfl)
  try simp only [Act.put, List.getElem_toArray, List.getElem_cons_zero, List.getElem_cons_succ, List.setIfInBounds_toArray, List.set_cons_zero, List.set_cons_succ]
  refine wpAnyH_ready (rs := [12]) (by kernel_rfl) (by simp) (AllReadyH.cons rfl (fun K hK => ?_) AllReadyH.nil)
  simp only [List.getElem_toArray, List.getElem_cons_zero, List.getElem_cons_succ]
  rw [if_pos (by rfl)]
  with_reducible refine op_storeEnt (Ent.mk l 2 t pt pp r c ⟨#[]⟩) r10_1.out (evals_length _) (by rfl) ?_ ?_ (fun W10_2 hP10_4 hS10_5 => ?_)
  · rfl
  · rfl
  have r10_6 : Hid (EnAt w0.heap.size (Ent.mk l 2 t pt pp r c ⟨#[]⟩) W10_2) := Lib.hid hP10_4
  refine hK.out _ _ (St.stored hHeld (by simp; omega) (by omega) hS10_5) (fun hH10_3 => ?_)
  clear hK K
  simp only [Act.put, List.setIfInBounds_toArray, List.set_cons_zero, List.set_cons_succ]
  refine wpAnyH_take (i := 13) (v := ?_) rfl (by kernel_rfl) (by kernel_rfl) (by kernel_rfl) (fun _ _ _ h => h) (Or.inl ⟨by rfl, ?_⟩) (by assumption) ?_
  rotate_left
  · (intro W _; go_simp; try with_reducible rfl)
  try simp only [Act.put, List.getElem_toArray, List.getElem_cons_zero, List.getElem_cons_succ, List.setIfInBounds_toArray, List.set_cons_zero, List.set_cons_succ]
  refine wpAnyH_done (by kernel_rfl) ?_ _
  go_wp2
  exact bodyPost_ret (res_entE rfl rfl r10_6.out) rfl ⟨rfl, And.right hH10_3⟩

set_option maxRecDepth 4000 in
set_option maxHeartbeats 4000000 in
theorem shape2f (l t pt pp r : Int) (c : Chg) (s : ByteArray) (hf : FitsH c) (hv : validH c = true) (h1 : 0 < pt) (h2 : 1 ≤ r) (h3 : r ≤ pt) (h4 : 1 ≤ t) (w : World) : Calls Try.prog 33 #[.agg (Ent.arr (Ent.mk l 2 t pt pp r c s))] w fun e' w' => e' = .returned (.tuple #[.agg (Ent.arr (Ent.mk l 2 t pt pp r c ⟨#[]⟩)), .bool (decide (t ≤ 1073741824))]) ∧ Below w.heap.size w w' := by
  have CV : Hid (Says 53 #[.agg c.arr] true) := Lib.hid fun w => by have := kb.refValid_any c w hf; rwa [hv] at this
  clear hv
  have d1 : decide (0 < pt) = true := by simpa using h1
  have d2 : decide (1 ≤ r) = true := by simpa using h2
  have d3 : decide (r ≤ pt) = true := by simpa using h3
  have d4 : decide (1 ≤ t) = true := by simpa using h4
  have hbd := build_ent2 l 2
  have HU : Hid True := Lib.hid trivial
  go_enter Try.func33, Try.ntmps33
  go_upto_region 5 with (first
    | (clear HU; refine wp_boxEntW (Ent.mk l 2 t pt pp r c s) rfl rfl rfl ?_; intro w0 hE hb0 z0; have E0 := Lib.hid hE; have HB0 := Lib.hid hb0; have G0 : Hid True := Lib.hid trivial; clear hE hb0)
    | (clear G0; refine wp_newEntW rfl rfl ?_; intro w1 hR hb1 z1; have R1 := Lib.hid hR; have E1 := Lib.hid (RowAt.keep E0.out hb1); have HB1 := Lib.hid (HB0.out.trans (hb1.mono HB0.out.size)); have G1 : Hid True := Lib.hid trivial; obtain ⟨a0, a1, a2, a3, a4, a5, a6, a7, a8, a9, a10, a11, a12⟩ := EnAt.all E1.out; simp only at a0 a1 a2 a3 a4 a5 a6 a7 a8 a9 a10 a11 a12; clear hR hb1 E0 HB0)
    | (clear G1; refine wp_newEntW rfl rfl ?_; intro w2 hO hb2 z2; have O2 := Lib.hid hO; have R2 := Lib.hid (RowAt.keep R1.out hb2); have E2 := Lib.hid (RowAt.keep E1.out hb2); have HB2 := Lib.hid (HB1.out.trans (hb2.mono HB1.out.size)); clear hO hb2 R1 E1 HB1 a0 a1 a2 a3 a4 a5 a6 a7 a8 a9 a10 a11 a12)
    | (clear hbd; refine wp_storeEntW (Ent.mk l 2 0 0 0 0 chg0 ⟨#[]⟩) O2.out (evals_length _) rfl rfl rfl rfl ?_; intro w3 hO hS; have O3 := Lib.hid hO; have R3 := Lib.hid (StoredAt.row hS R2.out (by omega)); have E3 := Lib.hid (StoredAt.row hS E2.out (by omega)); have HB3 := Lib.hid (StoredAt.below hS HB2.out (by omega)); clear hO hS O2 R2 E2 HB2; obtain ⟨a0, a1, a2, a3, a4, a5, a6, a7, a8, a9, a10, a11, a12⟩ := EnAt.all E3.out; simp only at a0 a1 a2 a3 a4 a5 a6 a7 a8 a9 a10 a11 a12))
  have HS3 := Lib.hid (St.add (st_nil (w := w) HB3.out) E3.out)
  clear a0 a1 a2 a3 a4 a5 a6 a7 a8 a9 a10 a11 a12 E3 HB3
  refine wp_region_held_drew (S := St [(w.heap.size, (Ent.vals (Ent.mk l 2 t pt pp r c s)))] w) (by kernel_rfl) (St.drew HS3.out) (fun hHeld => ?_)
  have r5_1 := Lib.hid (RowAt.drew O3.out)
  have r5_2 := Lib.hid (RowAt.drew R3.out)
  refine wpAnyH_take (i := 0) (v := ?_) rfl (by kernel_rfl) (by kernel_rfl) (by kernel_rfl) (fun _ _ _ h => h) (Or.inl ⟨by rfl, ?_⟩) (by assumption) ?_
  rotate_left
  · (intro W _; go_simp; try with_reducible rfl)
  try simp only [Act.put, List.getElem_toArray, List.getElem_cons_zero, List.setIfInBounds_toArray, List.set_cons_zero, List.set_cons_succ]
  refine wpAnyH_take (i := 1) (v := ?_) rfl (by kernel_rfl) (by kernel_rfl) (by kernel_rfl) (fun _ _ _ h => h) (Or.inl ⟨by rfl, ?_⟩) (by assumption) ?_
  rotate_left
  · (intro W hSw; have c0 := (St.row hSw (b := w.heap.size) (vs := (Ent.vals (Ent.mk l 2 t pt pp r c s))) (by simp)).cells 2 _ rfl; clear hSw; go_simp; try with_reducible rfl)
  try simp only [Act.put, List.getElem_toArray, List.getElem_cons_zero, List.getElem_cons_succ, List.setIfInBounds_toArray, List.set_cons_zero, List.set_cons_succ]
  refine wpAnyH_take (i := 2) (v := ?_) rfl (by kernel_rfl) (by kernel_rfl) (by kernel_rfl) (fun _ _ _ h => h) (Or.inl ⟨by rfl, ?_⟩) (by assumption) ?_
  rotate_left
  · (intro W _; go_simp; try with_reducible rfl)
  try simp only [Act.put, List.getElem_toArray, List.getElem_cons_zero, List.getElem_cons_succ, List.setIfInBounds_toArray, List.set_cons_zero, List.set_cons_succ]
  refine wpAnyH_take (i := 3) (v := ?_) rfl (by kernel_rfl) (by kernel_rfl) (by kernel_rfl) (fun _ _ _ h => h) (Or.inl ⟨by rfl, ?_⟩) (by assumption) ?_
  rotate_left
  · (intro W hSw; have c0 := (St.row hSw (b := w.heap.size) (vs := (Ent.vals (Ent.mk l 2 t pt pp r c s))) (by simp)).cells 3 _ rfl; clear hSw; go_simp; try with_reducible rfl)
  try simp only [Act.put, List.getElem_toArray, List.getElem_cons_zero, List.getElem_cons_succ, List.setIfInBounds_toArray, List.set_cons_zero, List.set_cons_succ]
  refine wpAnyH_take (i := 4) (v := ?_) rfl (by kernel_rfl) (by kernel_rfl) (by kernel_rfl) (fun _ _ _ h => h) (Or.inl ⟨by rfl, ?_⟩) (by assumption) ?_
  rotate_left
  · (intro W _; go_simp; try with_reducible rfl)
  try simp only [Act.put, List.getElem_toArray, List.getElem_cons_zero, List.getElem_cons_succ, List.setIfInBounds_toArray, List.set_cons_zero, List.set_cons_succ]
  refine wpAnyH_take (i := 5) (v := ?_) rfl (by kernel_rfl) (by kernel_rfl) (by kernel_rfl) (fun _ _ _ h => h) (Or.inl ⟨by rfl, ?_⟩) (by assumption) ?_
  rotate_left
  · (intro W hSw; have c0 := (St.row hSw (b := w.heap.size) (vs := (Ent.vals (Ent.mk l 2 t pt pp r c s))) (by simp)).cells 4 _ rfl; clear hSw; go_simp; try with_reducible rfl)
  try simp only [Act.put, List.getElem_toArray, List.getElem_cons_zero, List.getElem_cons_succ, List.setIfInBounds_toArray, List.set_cons_zero, List.set_cons_succ]
  refine wpAnyH_take (i := 6) (v := ?_) rfl (by kernel_rfl) (by kernel_rfl) (by kernel_rfl) (fun _ _ _ h => h) (Or.inl ⟨by rfl, ?_⟩) (by assumption) ?_
  rotate_left
  · (intro W _; go_simp; try with_reducible rfl)
  try simp only [Act.put, List.getElem_toArray, List.getElem_cons_zero, List.getElem_cons_succ, List.setIfInBounds_toArray, List.set_cons_zero, List.set_cons_succ]
  refine wpAnyH_take (i := 7) (v := (.agg (Chg.arr (Ent.change (Ent.mk l 2 t pt pp r c s))))) rfl (by kernel_rfl) (by kernel_rfl) (by kernel_rfl) (fun _ _ _ h => h) (yieldsIf_load_mid (by rfl) 26 _ rfl w.heap.size 6 rfl (Chg.vals (Ent.change (Ent.mk l 2 t pt pp r c s))) _ (fun W hSw => RowAt.range (St.row hSw (b := w.heap.size) (vs := (Ent.vals (Ent.mk l 2 t pt pp r c s))) (by simp)) 6 (fun j v hv => chg_in _ j v hv)) Try.underlying26 rfl info_change) (by assumption) ?_
  try simp only [Act.put, List.getElem_toArray, List.getElem_cons_zero, List.getElem_cons_succ, List.setIfInBounds_toArray, List.set_cons_zero, List.set_cons_succ]
  refine wpAnyH_take (i := 8) (v := ?_) rfl (by kernel_rfl) (by kernel_rfl) (by kernel_rfl) (fun _ _ _ h => h) (Or.inl ⟨by rfl, ?_⟩) (by assumption) ?_
  rotate_left
  · (intro W _; go_simp; try with_reducible rfl)
  try simp only [Act.put, List.getElem_toArray, List.getElem_cons_zero, List.getElem_cons_succ, List.setIfInBounds_toArray, List.set_cons_zero, List.set_cons_succ]
  refine wpAnyH_ready (rs := [9]) (by kernel_rfl) (by simp) (AllReadyH.cons rfl (fun K hK => ?_) AllReadyH.nil)
  simp only [List.getElem_toArray, List.getElem_cons_zero, List.getElem_cons_succ]
  rw [if_pos (by rfl)]
  with_reducible refine op_storeField 3 (.int .i64 t) rfl rfl info_int1 r5_1.out (show 2 < 13 by decide) (by rfl) ?_ ?_ (fun W5_3 hP5_5 hS5_6 => ?_)
  · rfl
  · rfl
  have r5_7 : Hid (EnAt w1.heap.size (Ent.mk l 2 t 0 0 0 chg0 ⟨#[]⟩) W5_3) := Lib.hid hP5_5
  have r5_8 := Lib.hid (StoredAt.row hS5_6 r5_2.out (by omega))
  refine hK.out _ _ (St.stored hHeld (by simp; omega) (by omega) hS5_6) (fun hH5_4 => ?_)
  clear hK K
  simp only [Act.put, List.setIfInBounds_toArray, List.set_cons_zero, List.set_cons_succ]
  refine wpAnyH_take (i := 10) (v := ?_) rfl (by kernel_rfl) (by kernel_rfl) (by kernel_rfl) (fun _ _ _ h => h) (Or.inl ⟨by rfl, ?_⟩) (by assumption) ?_
  rotate_left
  · (intro W _; go_simp; try with_reducible rfl)
  try simp only [Act.put, List.getElem_toArray, List.getElem_cons_zero, List.getElem_cons_succ, List.setIfInBounds_toArray, List.set_cons_zero, List.set_cons_succ]
  refine wpAnyH_ready (rs := [11]) (by kernel_rfl) (by simp) (AllReadyH.cons rfl (fun K hK => ?_) AllReadyH.nil)
  simp only [List.getElem_toArray, List.getElem_cons_zero, List.getElem_cons_succ]
  rw [if_pos (by rfl)]
  with_reducible refine op_storeField 3 (.int .i64 pt) rfl rfl info_int1 r5_7.out (show 3 < 13 by decide) (by rfl) ?_ ?_ (fun W5_9 hP5_11 hS5_12 => ?_)
  · rfl
  · rfl
  have r5_13 : Hid (EnAt w1.heap.size (Ent.mk l 2 t pt 0 0 chg0 ⟨#[]⟩) W5_9) := Lib.hid hP5_11
  have r5_14 := Lib.hid (StoredAt.row hS5_12 r5_8.out (by omega))
  refine hK.out _ _ (St.stored hH5_4 (by simp; omega) (by omega) hS5_12) (fun hH5_10 => ?_)
  clear hK K
  simp only [Act.put, List.setIfInBounds_toArray, List.set_cons_zero, List.set_cons_succ]
  refine wpAnyH_take (i := 12) (v := ?_) rfl (by kernel_rfl) (by kernel_rfl) (by kernel_rfl) (fun _ _ _ h => h) (Or.inl ⟨by rfl, ?_⟩) (by assumption) ?_
  rotate_left
  · (intro W _; go_simp; try with_reducible rfl)
  try simp only [Act.put, List.getElem_toArray, List.getElem_cons_zero, List.getElem_cons_succ, List.setIfInBounds_toArray, List.set_cons_zero, List.set_cons_succ]
  refine wpAnyH_ready (rs := [13]) (by kernel_rfl) (by simp) (AllReadyH.cons rfl (fun K hK => ?_) AllReadyH.nil)
  simp only [List.getElem_toArray, List.getElem_cons_zero, List.getElem_cons_succ]
  rw [if_pos (by rfl)]
  with_reducible refine op_storeField 3 (.int .i64 pp) rfl rfl info_int1 r5_13.out (show 4 < 13 by decide) (by rfl) ?_ ?_ (fun W5_15 hP5_17 hS5_18 => ?_)
  · rfl
  · rfl
  have r5_19 : Hid (EnAt w1.heap.size (Ent.mk l 2 t pt pp 0 chg0 ⟨#[]⟩) W5_15) := Lib.hid hP5_17
  have r5_20 := Lib.hid (StoredAt.row hS5_18 r5_14.out (by omega))
  refine hK.out _ _ (St.stored hH5_10 (by simp; omega) (by omega) hS5_18) (fun hH5_16 => ?_)
  clear hK K
  simp only [Act.put, List.setIfInBounds_toArray, List.set_cons_zero, List.set_cons_succ]
  refine wpAnyH_take (i := 14) (v := ?_) rfl (by kernel_rfl) (by kernel_rfl) (by kernel_rfl) (fun _ _ _ h => h) (Or.inl ⟨by rfl, ?_⟩) (by assumption) ?_
  rotate_left
  · (intro W _; go_simp; try with_reducible rfl)
  try simp only [Act.put, List.getElem_toArray, List.getElem_cons_zero, List.getElem_cons_succ, List.setIfInBounds_toArray, List.set_cons_zero, List.set_cons_succ]
  refine wpAnyH_ready (rs := [15]) (by kernel_rfl) (by simp) (AllReadyH.cons rfl (fun K hK => ?_) AllReadyH.nil)
  simp only [List.getElem_toArray, List.getElem_cons_zero, List.getElem_cons_succ]
  rw [if_pos (by rfl)]
  with_reducible refine op_storeChg6 c (Ent.mk l 2 t pt pp 0 chg0 ⟨#[]⟩) r5_19.out (by rfl) ?_ ?_ (fun W5_21 hP5_23 hS5_24 => ?_)
  · rfl
  · rfl
  have r5_25 : Hid (EnAt w1.heap.size (Ent.mk l 2 t pt pp 0 c ⟨#[]⟩) W5_21) := Lib.hid hP5_23
  have r5_26 := Lib.hid (StoredAt.row hS5_24 r5_20.out (by omega))
  refine hK.out _ _ (St.stored hH5_16 (by simp; omega) (by omega) hS5_24) (fun hH5_22 => ?_)
  clear hK K
  simp only [Act.put, List.setIfInBounds_toArray, List.set_cons_zero, List.set_cons_succ]
  refine wpAnyH_done (by kernel_rfl) ?_ _
  have E5 := Lib.hid (St.row hH5_22 (b := w.heap.size) (vs := Ent.vals (Ent.mk l 2 t pt pp r c s)) (by simp))
  have HB5 := Lib.hid (And.right hH5_22)
  have O5 := Lib.hid r5_25.out
  have R5 := Lib.hid r5_26.out
  obtain ⟨a0, a1, a2, a3, a4, a5, a6, a7, a8, a9, a10, a11, a12⟩ := EnAt.all E5.out
  simp only at a0 a1 a2 a3 a4 a5 a6 a7 a8 a9 a10 a11 a12
  go_upto_region 10 with (first
    | (refine wp_loadChg6 (Ent.mk l 2 t pt pp r c s) E5.out rfl rfl rfl ?_)
    | (go_at_call 53; (with_reducible refine (CV.out _).mono ?_); rintro e6 w6 ⟨rfl, hb6⟩; have O6 := Lib.hid (RowAt.keep O5.out hb6); have R6 := Lib.hid (RowAt.keep R5.out hb6); have E6 := Lib.hid (RowAt.keep E5.out hb6); have HB6 := Lib.hid (HB5.out.trans (hb6.mono HB5.out.size)); clear hb6 O5 R5 E5 HB5 a0 a1 a2 a3 a4 a5 a6 a7 a8 a9 a10 a11 a12; obtain ⟨a0, a1, a2, a3, a4, a5, a6, a7, a8, a9, a10, a11, a12⟩ := EnAt.all E6.out; simp only at a0 a1 a2 a3 a4 a5 a6 a7 a8 a9 a10 a11 a12)
    | (refine wp_storeFieldW 3 (.int .i64 r) rfl rfl info_int1 O6.out (show 5 < 13 by decide) rfl rfl rfl rfl ?_; intro w7 hO hS; have O7 : Hid (EnAt w1.heap.size (Ent.mk l 2 t pt pp r c ⟨#[]⟩) w7) := Lib.hid hO; have R7 := Lib.hid (StoredAt.row hS R6.out (by omega)); have E7 := Lib.hid (StoredAt.row hS E6.out (by omega)); have HB7 := Lib.hid (StoredAt.below hS HB6.out (by omega)); clear hO hS O6 R6 E6 HB6 a0 a1 a2 a3 a4 a5 a6 a7 a8 a9 a10 a11 a12; obtain ⟨a0, a1, a2, a3, a4, a5, a6, a7, a8, a9, a10, a11, a12⟩ := EnAt.all E7.out; simp only at a0 a1 a2 a3 a4 a5 a6 a7 a8 a9 a10 a11 a12))
  have HS7 := Lib.hid (St.add (St.add (st_nil (w := w) HB7.out) E7.out) O7.out)
  clear a0 a1 a2 a3 a4 a5 a6 a7 a8 a9 a10 a11 a12
  refine wp_region_held_drew (S := St [(w1.heap.size, (Ent.vals (Ent.mk l 2 t pt pp r c ⟨#[]⟩))), (w.heap.size, (Ent.vals (Ent.mk l 2 t pt pp r c s)))] w) (by kernel_rfl) (St.drew HS7.out) (fun hHeld => ?_)
  have r10_1 := Lib.hid (RowAt.drew R7.out)
  refine wpAnyH_take (i := 0) (v := (.agg (Ent.arr (Ent.mk l 2 t pt pp r c ⟨#[]⟩)))) rfl (by kernel_rfl) (by kernel_rfl) (by kernel_rfl) (fun _ _ _ h => h) (yieldsIf_load_mid (by rfl) 28 _ rfl w1.heap.size 0 rfl (Ent.vals (Ent.mk l 2 t pt pp r c ⟨#[]⟩)) _ (fun W hSw => RowAt.range (St.row hSw (b := w1.heap.size) (vs := (Ent.vals (Ent.mk l 2 t pt pp r c ⟨#[]⟩))) (by simp)) 0 (fun j v hv => by rw [Nat.zero_add]; exact hv)) Try.underlying28 rfl info_ent) (by assumption) ?_
  try simp only [Act.put, List.getElem_toArray, List.getElem_cons_zero, List.setIfInBounds_toArray, List.set_cons_zero, List.set_cons_succ]
  refine wpAnyH_take (i := 1) (v := ?_) rfl (by kernel_rfl) (by kernel_rfl) (by kernel_rfl) (fun _ _ _ h => h) (Or.inl ⟨by rfl, ?_⟩) (by assumption) ?_
  rotate_left
  · (intro W _; go_simp; try with_reducible rfl)
  try simp only [Act.put, List.getElem_toArray, List.getElem_cons_zero, List.getElem_cons_succ, List.setIfInBounds_toArray, List.set_cons_zero, List.set_cons_succ]
  refine wpAnyH_take (i := 2) (v := ?_) rfl (by kernel_rfl) (by kernel_rfl) (by kernel_rfl) (fun _ _ _ h => h) (Or.inl ⟨by rfl, ?_⟩) (by assumption) ?_
  rotate_left
  · (intro W _; go_simp; try with_reducible rfl)
  try simp only [Act.put, List.getElem_toArray, List.getElem_cons_zero, List.getElem_cons_succ, List.setIfInBounds_toArray, List.set_cons_zero, List.set_cons_succ]
  refine wpAnyH_take (i := 3) (v := ?_) rfl (by kernel_rfl) (by kernel_rfl) (by kernel_rfl) (fun _ _ _ h => h) (Or.inl ⟨by rfl, ?_⟩) (by assumption) ?_
  rotate_left
  · (intro W _; go_simp; try with_reducible rfl)
  try simp only [Act.put, List.getElem_toArray, List.getElem_cons_zero, List.getElem_cons_succ, List.setIfInBounds_toArray, List.set_cons_zero, List.set_cons_succ]
  refine wpAnyH_take (i := 4) (v := ?_) rfl (by kernel_rfl) (by kernel_rfl) (by kernel_rfl) (fun _ _ _ h => h) (Or.inl ⟨by rfl, ?_⟩) (by assumption) ?_
  rotate_left
  · (intro W hSw; have c0 := (St.row hSw (b := w.heap.size) (vs := (Ent.vals (Ent.mk l 2 t pt pp r c s))) (by simp)).cells 2 _ rfl; clear hSw; go_simp; try with_reducible rfl)
  try simp only [Act.put, List.getElem_toArray, List.getElem_cons_zero, List.getElem_cons_succ, List.setIfInBounds_toArray, List.set_cons_zero, List.set_cons_succ]
  refine wpAnyH_take (i := 5) (v := ?_) rfl (by kernel_rfl) (by kernel_rfl) (by kernel_rfl) (fun _ _ _ h => h) (Or.inl ⟨by rfl, ?_⟩) (by assumption) ?_
  rotate_left
  · (intro W _; go_simp; try with_reducible rfl)
  try simp only [Act.put, List.getElem_toArray, List.getElem_cons_zero, List.getElem_cons_succ, List.setIfInBounds_toArray, List.set_cons_zero, List.set_cons_succ]
  refine wpAnyH_take (i := 6) (v := ?_) rfl (by kernel_rfl) (by kernel_rfl) (by kernel_rfl) (fun _ _ _ h => h) (Or.inl ⟨by rfl, ?_⟩) (by assumption) ?_
  rotate_left
  · (intro W _; go_simp; try with_reducible rfl)
  try simp only [Act.put, List.getElem_toArray, List.getElem_cons_zero, List.getElem_cons_succ, List.setIfInBounds_toArray, List.set_cons_zero, List.set_cons_succ]
  refine wpAnyH_take (i := 7) (v := ?_) rfl (by kernel_rfl) (by kernel_rfl) (by kernel_rfl) (fun _ _ _ h => h) (Or.inl ⟨by rfl, ?_⟩) (by assumption) ?_
  rotate_left
  · (intro W _; go_simp; try with_reducible rfl)
  try simp only [Act.put, List.getElem_toArray, List.getElem_cons_zero, List.getElem_cons_succ, List.setIfInBounds_toArray, List.set_cons_zero, List.set_cons_succ]
  refine wpAnyH_take (i := 8) (v := ?_) rfl (by kernel_rfl) (by kernel_rfl) (by kernel_rfl) (fun _ _ _ h => h) (Or.inl ⟨by rfl, ?_⟩) (by assumption) ?_
  rotate_left
  · (intro W _; go_simp; try with_reducible rfl)
  try simp only [Act.put, List.getElem_toArray, List.getElem_cons_zero, List.getElem_cons_succ, List.setIfInBounds_toArray, List.set_cons_zero, List.set_cons_succ]
  refine wpAnyH_take (i := 9) (v := ?_) rfl (by kernel_rfl) (by kernel_rfl) (by kernel_rfl) (fun _ _ _ h => h) (Or.inl ⟨by rfl, ?_⟩) (by assumption) ?_
  rotate_left
  · (intro W hSw; have c0 := (St.row hSw (b := w.heap.size) (vs := (Ent.vals (Ent.mk l 2 t pt pp r c s))) (by simp)).cells 2 _ rfl; clear hSw; go_simp; try with_reducible rfl)
  try simp only [Act.put, List.getElem_toArray, List.getElem_cons_zero, List.getElem_cons_succ, List.setIfInBounds_toArray, List.set_cons_zero, List.set_cons_succ]
  refine wpAnyH_take (i := 10) (v := ?_) rfl (by kernel_rfl) (by kernel_rfl) (by kernel_rfl) (fun _ _ _ h => h) (Or.inl ⟨by rfl, ?_⟩) (by assumption) ?_
  rotate_left
  · (intro W _; go_simp; try with_reducible rfl)
  try simp only [Act.put, List.getElem_toArray, List.getElem_cons_zero, List.getElem_cons_succ, List.setIfInBounds_toArray, List.set_cons_zero, List.set_cons_succ]
  refine wpAnyH_take (i := 11) (v := ?_) rfl (by kernel_rfl) (by kernel_rfl) (by kernel_rfl) (fun _ _ _ h => h) (Or.inl ⟨by rfl, ?_⟩) (by assumption) ?_
  rotate_left
  · (intro W _; go_simp; try with_reducible rfl)
  try simp only [Act.put, List.getElem_toArray, List.getElem_cons_zero, List.getElem_cons_succ, List.setIfInBounds_toArray, List.set_cons_zero, List.set_cons_succ]
  refine wpAnyH_ready (rs := [12]) (by kernel_rfl) (by simp) (AllReadyH.cons rfl (fun K hK => ?_) AllReadyH.nil)
  simp only [List.getElem_toArray, List.getElem_cons_zero, List.getElem_cons_succ]
  rw [if_pos (by rfl)]
  with_reducible refine op_storeEnt (Ent.mk l 2 t pt pp r c ⟨#[]⟩) r10_1.out (evals_length _) (by rfl) ?_ ?_ (fun W10_2 hP10_4 hS10_5 => ?_)
  · rfl
  · rfl
  have r10_6 : Hid (EnAt w0.heap.size (Ent.mk l 2 t pt pp r c ⟨#[]⟩) W10_2) := Lib.hid hP10_4
  refine hK.out _ _ (St.stored hHeld (by simp; omega) (by omega) hS10_5) (fun hH10_3 => ?_)
  clear hK K
  simp only [Act.put, List.setIfInBounds_toArray, List.set_cons_zero, List.set_cons_succ]
  refine wpAnyH_take (i := 13) (v := ?_) rfl (by kernel_rfl) (by kernel_rfl) (by kernel_rfl) (fun _ _ _ h => h) (Or.inl ⟨by rfl, ?_⟩) (by assumption) ?_
  rotate_left
  · (intro W _; go_simp; try with_reducible rfl)
  try simp only [Act.put, List.getElem_toArray, List.getElem_cons_zero, List.getElem_cons_succ, List.setIfInBounds_toArray, List.set_cons_zero, List.set_cons_succ]
  refine wpAnyH_done (by kernel_rfl) ?_ _
  go_wp2
  exact bodyPost_ret (res_entE rfl rfl r10_6.out) rfl ⟨rfl, And.right hH10_3⟩

end Go.Proofs.Ytiojpfljnbdonaa.oe
