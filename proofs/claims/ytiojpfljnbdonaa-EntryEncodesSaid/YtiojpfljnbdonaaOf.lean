/- The shape of an entry: the reference, the other kinds. -/
import Derived.Test.YtiojpfljnbdonaaOd
namespace Go.Proofs.Ytiojpfljnbdonaa.of
open Go.ChangeShapes Go.WideShapes Go.ChangeAt Go.RowKit Go.Proofs.Ytiojpfljnbdonaa.cx Go.Proofs.Ytiojpfljnbdonaa.ra Go.Proofs.Ytiojpfljnbdonaa.rb Go.Proofs.Ytiojpfljnbdonaa.rc Go.Proofs.Ytiojpfljnbdonaa.da Go.Proofs.Ytiojpfljnbdonaa.ea Go.Proofs.Ytiojpfljnbdonaa.eb Go.Proofs.Ytiojpfljnbdonaa.ed Go.Proofs.Ytiojpfljnbdonaa.fb Go.Proofs.Ytiojpfljnbdonaa.ka Go.Proofs.Ytiojpfljnbdonaa.kb Go.Proofs.Ytiojpfljnbdonaa.kg Go.Proofs.Ytiojpfljnbdonaa.kj Go.Proofs.Ytiojpfljnbdonaa.oa Go.Proofs.Ytiojpfljnbdonaa.os Go.Proofs.Ytiojpfljnbdonaa.ob Go.Proofs.Ytiojpfljnbdonaa.oc Go.Proofs.Ytiojpfljnbdonaa.od
set_option linter.unusedSimpArgs false

set_option maxRecDepth 4000 in
set_option maxHeartbeats 4000000 in
theorem shape3a (l t pt pp r : Int) (c : Chg) (s : ByteArray) (h1 : ¬ 1 ≤ t) (w : World) : Calls Try.prog 33 #[.agg (Ent.arr (Ent.mk l 3 t pt pp r c s))] w fun e' w' => e' = .returned (.tuple #[.agg (Ent.arr (Ent.mk l 3 t pt 0 0 chg0 ⟨#[]⟩)), .bool false]) ∧ Below w.heap.size w w' := by
  have d1 : decide (1 ≤ t) = false := by simpa using h1
  have hbd := build_ent2 l 3
  have HU : Hid True := Lib.hid trivial
  go_enter Try.func33, Try.ntmps33
  go_upto_region 14 with (first
    | (clear HU; refine wp_boxEntW (Ent.mk l 3 t pt pp r c s) rfl rfl rfl ?_; intro w0 hE hb0 z0; have E0 := Lib.hid hE; have HB0 := Lib.hid hb0; have G0 : Hid True := Lib.hid trivial; clear hE hb0)
    | (clear G0; refine wp_newEntW rfl rfl ?_; intro w1 hR hb1 z1; have R1 := Lib.hid hR; have E1 := Lib.hid (RowAt.keep E0.out hb1); have HB1 := Lib.hid (HB0.out.trans (hb1.mono HB0.out.size)); have G1 : Hid True := Lib.hid trivial; obtain ⟨a0, a1, a2, a3, a4, a5, a6, a7, a8, a9, a10, a11, a12⟩ := EnAt.all E1.out; simp only at a0 a1 a2 a3 a4 a5 a6 a7 a8 a9 a10 a11 a12; clear hR hb1 E0 HB0)
    | (clear G1; refine wp_newEntW rfl rfl ?_; intro w2 hO hb2 z2; have O2 := Lib.hid hO; have R2 := Lib.hid (RowAt.keep R1.out hb2); have E2 := Lib.hid (RowAt.keep E1.out hb2); have HB2 := Lib.hid (HB1.out.trans (hb2.mono HB1.out.size)); clear hO hb2 R1 E1 HB1 a0 a1 a2 a3 a4 a5 a6 a7 a8 a9 a10 a11 a12)
    | (clear hbd; refine wp_storeEntW (Ent.mk l 3 0 0 0 0 chg0 ⟨#[]⟩) O2.out (evals_length _) rfl rfl rfl rfl ?_; intro w3 hO hS; have O3 := Lib.hid hO; have R3 := Lib.hid (StoredAt.row hS R2.out (by omega)); have E3 := Lib.hid (StoredAt.row hS E2.out (by omega)); have HB3 := Lib.hid (StoredAt.below hS HB2.out (by omega)); clear hO hS O2 R2 E2 HB2; obtain ⟨a0, a1, a2, a3, a4, a5, a6, a7, a8, a9, a10, a11, a12⟩ := EnAt.all E3.out; simp only at a0 a1 a2 a3 a4 a5 a6 a7 a8 a9 a10 a11 a12))
  have HS3 := Lib.hid (St.add (st_nil (w := w) HB3.out) E3.out)
  clear a0 a1 a2 a3 a4 a5 a6 a7 a8 a9 a10 a11 a12 E3 HB3
  refine wp_region_held_drew (S := St [(w.heap.size, (Ent.vals (Ent.mk l 3 t pt pp r c s)))] w) (by kernel_rfl) (St.drew HS3.out) (fun hHeld => ?_)
  have r14_1 := Lib.hid (RowAt.drew O3.out)
  have r14_2 := Lib.hid (RowAt.drew R3.out)
  refine wpAnyH_take (i := 0) (v := ?_) rfl (by kernel_rfl) (by kernel_rfl) (by kernel_rfl) (fun _ _ _ h => h) (Or.inl ⟨by rfl, ?_⟩) (by assumption) ?_
  rotate_left
  · (intro W _; go_simp; try with_reducible rfl)
  try simp only [Act.put, List.getElem_toArray, List.getElem_cons_zero, List.setIfInBounds_toArray, List.set_cons_zero, List.set_cons_succ]
  refine wpAnyH_take (i := 1) (v := ?_) rfl (by kernel_rfl) (by kernel_rfl) (by kernel_rfl) (fun _ _ _ h => h) (Or.inl ⟨by rfl, ?_⟩) (by assumption) ?_
  rotate_left
  · (intro W hSw; have c0 := (St.row hSw (b := w.heap.size) (vs := (Ent.vals (Ent.mk l 3 t pt pp r c s))) (by simp)).cells 2 _ rfl; clear hSw; go_simp; try with_reducible rfl)
  try simp only [Act.put, List.getElem_toArray, List.getElem_cons_zero, List.getElem_cons_succ, List.setIfInBounds_toArray, List.set_cons_zero, List.set_cons_succ]
  refine wpAnyH_take (i := 2) (v := ?_) rfl (by kernel_rfl) (by kernel_rfl) (by kernel_rfl) (fun _ _ _ h => h) (Or.inl ⟨by rfl, ?_⟩) (by assumption) ?_
  rotate_left
  · (intro W _; go_simp; try with_reducible rfl)
  try simp only [Act.put, List.getElem_toArray, List.getElem_cons_zero, List.getElem_cons_succ, List.setIfInBounds_toArray, List.set_cons_zero, List.set_cons_succ]
  refine wpAnyH_take (i := 3) (v := ?_) rfl (by kernel_rfl) (by kernel_rfl) (by kernel_rfl) (fun _ _ _ h => h) (Or.inl ⟨by rfl, ?_⟩) (by assumption) ?_
  rotate_left
  · (intro W hSw; have c0 := (St.row hSw (b := w.heap.size) (vs := (Ent.vals (Ent.mk l 3 t pt pp r c s))) (by simp)).cells 3 _ rfl; clear hSw; go_simp; try with_reducible rfl)
  try simp only [Act.put, List.getElem_toArray, List.getElem_cons_zero, List.getElem_cons_succ, List.setIfInBounds_toArray, List.set_cons_zero, List.set_cons_succ]
  refine wpAnyH_take (i := 4) (v := ?_) rfl (by kernel_rfl) (by kernel_rfl) (by kernel_rfl) (fun _ _ _ h => h) (Or.inl ⟨by rfl, ?_⟩) (by assumption) ?_
  rotate_left
  · (intro W _; go_simp; try with_reducible rfl)
  try simp only [Act.put, List.getElem_toArray, List.getElem_cons_zero, List.getElem_cons_succ, List.setIfInBounds_toArray, List.set_cons_zero, List.set_cons_succ]
  refine wpAnyH_ready (rs := [5]) (by kernel_rfl) (by simp) (AllReadyH.cons rfl (fun K hK => ?_) AllReadyH.nil)
  simp only [List.getElem_toArray, List.getElem_cons_zero, List.getElem_cons_succ]
  rw [if_pos (by rfl)]
  with_reducible refine op_storeField 3 (.int .i64 t) rfl rfl info_int1 r14_1.out (show 2 < 13 by decide) (by rfl) ?_ ?_ (fun W14_3 hP14_5 hS14_6 => ?_)
  · rfl
  · rfl
  have r14_7 : Hid (EnAt w1.heap.size (Ent.mk l 3 t 0 0 0 chg0 ⟨#[]⟩) W14_3) := Lib.hid hP14_5
  have r14_8 := Lib.hid (StoredAt.row hS14_6 r14_2.out (by omega))
  refine hK.out _ _ (St.stored hHeld (by simp; omega) (by omega) hS14_6) (fun hH14_4 => ?_)
  clear hK K
  simp only [Act.put, List.setIfInBounds_toArray, List.set_cons_zero, List.set_cons_succ]
  refine wpAnyH_take (i := 6) (v := ?_) rfl (by kernel_rfl) (by kernel_rfl) (by kernel_rfl) (fun _ _ _ h => h) (Or.inl ⟨by rfl, ?_⟩) (by assumption) ?_
  rotate_left
  · (intro W _; go_simp; try with_reducible rfl)
  try simp only [Act.put, List.getElem_toArray, List.getElem_cons_zero, List.getElem_cons_succ, List.setIfInBounds_toArray, List.set_cons_zero, List.set_cons_succ]
  refine wpAnyH_ready (rs := [7]) (by kernel_rfl) (by simp) (AllReadyH.cons rfl (fun K hK => ?_) AllReadyH.nil)
  simp only [List.getElem_toArray, List.getElem_cons_zero, List.getElem_cons_succ]
  rw [if_pos (by rfl)]
  with_reducible refine op_storeField 3 (.int .i64 pt) rfl rfl info_int1 r14_7.out (show 3 < 13 by decide) (by rfl) ?_ ?_ (fun W14_9 hP14_11 hS14_12 => ?_)
  · rfl
  · rfl
  have r14_13 : Hid (EnAt w1.heap.size (Ent.mk l 3 t pt 0 0 chg0 ⟨#[]⟩) W14_9) := Lib.hid hP14_11
  have r14_14 := Lib.hid (StoredAt.row hS14_12 r14_8.out (by omega))
  refine hK.out _ _ (St.stored hH14_4 (by simp; omega) (by omega) hS14_12) (fun hH14_10 => ?_)
  clear hK K
  simp only [Act.put, List.setIfInBounds_toArray, List.set_cons_zero, List.set_cons_succ]
  refine wpAnyH_done (by kernel_rfl) ?_ _
  have E5 := Lib.hid (St.row hH14_10 (b := w.heap.size) (vs := Ent.vals (Ent.mk l 3 t pt pp r c s)) (by simp))
  have HB5 := Lib.hid (And.right hH14_10)
  have O5 := Lib.hid r14_13.out
  have R5 := Lib.hid r14_14.out
  obtain ⟨a0, a1, a2, a3, a4, a5, a6, a7, a8, a9, a10, a11, a12⟩ := EnAt.all E5.out
  simp only at a0 a1 a2 a3 a4 a5 a6 a7 a8 a9 a10 a11 a12
  go_upto_region 15 with (fail)
  have HS5 := Lib.hid (St.add (St.add (st_nil (w := w) HB5.out) E5.out) O5.out)
  clear a0 a1 a2 a3 a4 a5 a6 a7 a8 a9 a10 a11 a12
  refine wp_region_held_drew (S := St [(w1.heap.size, (Ent.vals (Ent.mk l 3 t pt 0 0 chg0 ⟨#[]⟩))), (w.heap.size, (Ent.vals (Ent.mk l 3 t pt pp r c s)))] w) (by kernel_rfl) (St.drew HS5.out) (fun hHeld => ?_)
  have r15_1 := Lib.hid (RowAt.drew R5.out)
  refine wpAnyH_take (i := 0) (v := (.agg (Ent.arr (Ent.mk l 3 t pt 0 0 chg0 ⟨#[]⟩)))) rfl (by kernel_rfl) (by kernel_rfl) (by kernel_rfl) (fun _ _ _ h => h) (yieldsIf_load_mid (by rfl) 28 _ rfl w1.heap.size 0 rfl (Ent.vals (Ent.mk l 3 t pt 0 0 chg0 ⟨#[]⟩)) _ (fun W hSw => RowAt.range (St.row hSw (b := w1.heap.size) (vs := (Ent.vals (Ent.mk l 3 t pt 0 0 chg0 ⟨#[]⟩))) (by simp)) 0 (fun j v hv => by rw [Nat.zero_add]; exact hv)) Try.underlying28 rfl info_ent) (by assumption) ?_
  try simp only [Act.put, List.getElem_toArray, List.getElem_cons_zero, List.setIfInBounds_toArray, List.set_cons_zero, List.set_cons_succ]
  refine wpAnyH_take (i := 1) (v := ?_) rfl (by kernel_rfl) (by kernel_rfl) (by kernel_rfl) (fun _ _ _ h => h) (Or.inl ⟨by rfl, ?_⟩) (by assumption) ?_
  rotate_left
  · (intro W _; go_simp; try with_reducible rfl)
  try simp only [Act.put, List.getElem_toArray, List.getElem_cons_zero, List.getElem_cons_succ, List.setIfInBounds_toArray, List.set_cons_zero, List.set_cons_succ]
  refine wpAnyH_take (i := 2) (v := ?_) rfl (by kernel_rfl) (by kernel_rfl) (by kernel_rfl) (fun _ _ _ h => h) (Or.inl ⟨by rfl, ?_⟩) (by assumption) ?_
  rotate_left
  · (intro W hSw; have c0 := (St.row hSw (b := w.heap.size) (vs := (Ent.vals (Ent.mk l 3 t pt pp r c s))) (by simp)).cells 2 _ rfl; clear hSw; go_simp; try with_reducible rfl)
  try simp only [Act.put, List.getElem_toArray, List.getElem_cons_zero, List.getElem_cons_succ, List.setIfInBounds_toArray, List.set_cons_zero, List.set_cons_succ]
  refine wpAnyH_take (i := 3) (v := ?_) rfl (by kernel_rfl) (by kernel_rfl) (by kernel_rfl) (fun _ _ _ h => h) (Or.inl ⟨by rfl, ?_⟩) (by assumption) ?_
  rotate_left
  · (intro W _; go_simp; try with_reducible rfl)
  try simp only [Act.put, List.getElem_toArray, List.getElem_cons_zero, List.getElem_cons_succ, List.setIfInBounds_toArray, List.set_cons_zero, List.set_cons_succ]
  refine wpAnyH_take (i := 4) (v := ?_) rfl (by kernel_rfl) (by kernel_rfl) (by kernel_rfl) (fun _ _ _ h => h) (Or.inl ⟨by rfl, ?_⟩) (by assumption) ?_
  rotate_left
  · (intro W _; go_simp; try with_reducible rfl)
  try simp only [Act.put, List.getElem_toArray, List.getElem_cons_zero, List.getElem_cons_succ, List.setIfInBounds_toArray, List.set_cons_zero, List.set_cons_succ]
  refine wpAnyH_take (i := 5) (v := undef) rfl (by kernel_rfl) (by kernel_rfl) (by kernel_rfl) (fun _ _ _ h => h) (Or.inr ⟨by rfl, rfl⟩) (by assumption) ?_
  try simp only [Act.put, List.getElem_toArray, List.getElem_cons_zero, List.getElem_cons_succ, List.setIfInBounds_toArray, List.set_cons_zero, List.set_cons_succ]
  refine wpAnyH_take (i := 6) (v := undef) rfl (by kernel_rfl) (by kernel_rfl) (by kernel_rfl) (fun _ _ _ h => h) (Or.inr ⟨by rfl, rfl⟩) (by assumption) ?_
  try simp only [Act.put, List.getElem_toArray, List.getElem_cons_zero, List.getElem_cons_succ, List.setIfInBounds_toArray, List.set_cons_zero, List.set_cons_succ]
  refine wpAnyH_take (i := 7) (v := undef) rfl (by kernel_rfl) (by kernel_rfl) (by kernel_rfl) (fun _ _ _ h => h) (Or.inr ⟨by rfl, rfl⟩) (by assumption) ?_
  try simp only [Act.put, List.getElem_toArray, List.getElem_cons_zero, List.getElem_cons_succ, List.setIfInBounds_toArray, List.set_cons_zero, List.set_cons_succ]
  refine wpAnyH_take (i := 8) (v := ?_) rfl (by kernel_rfl) (by kernel_rfl) (by kernel_rfl) (fun _ _ _ h => h) (Or.inl ⟨by rfl, ?_⟩) (by assumption) ?_
  rotate_left
  · (intro W _; go_simp; try with_reducible rfl)
  try simp only [Act.put, List.getElem_toArray, List.getElem_cons_zero, List.getElem_cons_succ, List.setIfInBounds_toArray, List.set_cons_zero, List.set_cons_succ]
  refine wpAnyH_take (i := 9) (v := ?_) rfl (by kernel_rfl) (by kernel_rfl) (by kernel_rfl) (fun _ _ _ h => h) (Or.inl ⟨by rfl, ?_⟩) (by assumption) ?_
  rotate_left
  · (intro W _; go_simp; try with_reducible rfl)
  try simp only [Act.put, List.getElem_toArray, List.getElem_cons_zero, List.getElem_cons_succ, List.setIfInBounds_toArray, List.set_cons_zero, List.set_cons_succ]
  refine wpAnyH_take (i := 10) (v := undef) rfl (by kernel_rfl) (by kernel_rfl) (by kernel_rfl) (fun _ _ _ h => h) (Or.inr ⟨by rfl, rfl⟩) (by assumption) ?_
  try simp only [Act.put, List.getElem_toArray, List.getElem_cons_zero, List.getElem_cons_succ, List.setIfInBounds_toArray, List.set_cons_zero, List.set_cons_succ]
  refine wpAnyH_take (i := 11) (v := undef) rfl (by kernel_rfl) (by kernel_rfl) (by kernel_rfl) (fun _ _ _ h => h) (Or.inr ⟨by rfl, rfl⟩) (by assumption) ?_
  try simp only [Act.put, List.getElem_toArray, List.getElem_cons_zero, List.getElem_cons_succ, List.setIfInBounds_toArray, List.set_cons_zero, List.set_cons_succ]
  refine wpAnyH_take (i := 12) (v := undef) rfl (by kernel_rfl) (by kernel_rfl) (by kernel_rfl) (fun _ _ _ h => h) (Or.inr ⟨by rfl, rfl⟩) (by assumption) ?_
  try simp only [Act.put, List.getElem_toArray, List.getElem_cons_zero, List.getElem_cons_succ, List.setIfInBounds_toArray, List.set_cons_zero, List.set_cons_succ]
  refine wpAnyH_take (i := 13) (v := ?_) rfl (by kernel_rfl) (by kernel_rfl) (by kernel_rfl) (fun _ _ _ h => h) (Or.inl ⟨by rfl, ?_⟩) (by assumption) ?_
  rotate_left
  · (intro W _; go_simp; try with_reducible rfl)
  try simp only [Act.put, List.getElem_toArray, List.getElem_cons_zero, List.getElem_cons_succ, List.setIfInBounds_toArray, List.set_cons_zero, List.set_cons_succ]
  refine wpAnyH_ready (rs := [14]) (by kernel_rfl) (by simp) (AllReadyH.cons rfl (fun K hK => ?_) AllReadyH.nil)
  simp only [List.getElem_toArray, List.getElem_cons_zero, List.getElem_cons_succ]
  rw [if_pos (by rfl)]
  with_reducible refine op_storeEnt (Ent.mk l 3 t pt 0 0 chg0 ⟨#[]⟩) r15_1.out (evals_length _) (by rfl) ?_ ?_ (fun W15_2 hP15_4 hS15_5 => ?_)
  · rfl
  · rfl
  have r15_6 : Hid (EnAt w0.heap.size (Ent.mk l 3 t pt 0 0 chg0 ⟨#[]⟩) W15_2) := Lib.hid hP15_4
  refine hK.out _ _ (St.stored hHeld (by simp; omega) (by omega) hS15_5) (fun hH15_3 => ?_)
  clear hK K
  simp only [Act.put, List.setIfInBounds_toArray, List.set_cons_zero, List.set_cons_succ]
  refine wpAnyH_take (i := 15) (v := ?_) rfl (by kernel_rfl) (by kernel_rfl) (by kernel_rfl) (fun _ _ _ h => h) (Or.inl ⟨by rfl, ?_⟩) (by assumption) ?_
  rotate_left
  · (intro W _; go_simp; try with_reducible rfl)
  try simp only [Act.put, List.getElem_toArray, List.getElem_cons_zero, List.getElem_cons_succ, List.setIfInBounds_toArray, List.set_cons_zero, List.set_cons_succ]
  refine wpAnyH_done (by kernel_rfl) ?_ _
  go_wp2
  exact bodyPost_ret (res_entE rfl rfl r15_6.out) rfl ⟨rfl, And.right hH15_3⟩

set_option maxRecDepth 4000 in
set_option maxHeartbeats 4000000 in
theorem shape3b (l t pt pp r : Int) (c : Chg) (s : ByteArray) (h1 : 1 ≤ t) (h2 : ¬ t ≤ 1073741824) (w : World) : Calls Try.prog 33 #[.agg (Ent.arr (Ent.mk l 3 t pt pp r c s))] w fun e' w' => e' = .returned (.tuple #[.agg (Ent.arr (Ent.mk l 3 t pt 0 0 chg0 ⟨#[]⟩)), .bool false]) ∧ Below w.heap.size w w' := by
  have d1 : decide (1 ≤ t) = true := by simpa using h1
  have d2 : decide (t ≤ 1073741824) = false := by simpa using h2
  have hbd := build_ent2 l 3
  have HU : Hid True := Lib.hid trivial
  go_enter Try.func33, Try.ntmps33
  go_upto_region 14 with (first
    | (clear HU; refine wp_boxEntW (Ent.mk l 3 t pt pp r c s) rfl rfl rfl ?_; intro w0 hE hb0 z0; have E0 := Lib.hid hE; have HB0 := Lib.hid hb0; have G0 : Hid True := Lib.hid trivial; clear hE hb0)
    | (clear G0; refine wp_newEntW rfl rfl ?_; intro w1 hR hb1 z1; have R1 := Lib.hid hR; have E1 := Lib.hid (RowAt.keep E0.out hb1); have HB1 := Lib.hid (HB0.out.trans (hb1.mono HB0.out.size)); have G1 : Hid True := Lib.hid trivial; obtain ⟨a0, a1, a2, a3, a4, a5, a6, a7, a8, a9, a10, a11, a12⟩ := EnAt.all E1.out; simp only at a0 a1 a2 a3 a4 a5 a6 a7 a8 a9 a10 a11 a12; clear hR hb1 E0 HB0)
    | (clear G1; refine wp_newEntW rfl rfl ?_; intro w2 hO hb2 z2; have O2 := Lib.hid hO; have R2 := Lib.hid (RowAt.keep R1.out hb2); have E2 := Lib.hid (RowAt.keep E1.out hb2); have HB2 := Lib.hid (HB1.out.trans (hb2.mono HB1.out.size)); clear hO hb2 R1 E1 HB1 a0 a1 a2 a3 a4 a5 a6 a7 a8 a9 a10 a11 a12)
    | (clear hbd; refine wp_storeEntW (Ent.mk l 3 0 0 0 0 chg0 ⟨#[]⟩) O2.out (evals_length _) rfl rfl rfl rfl ?_; intro w3 hO hS; have O3 := Lib.hid hO; have R3 := Lib.hid (StoredAt.row hS R2.out (by omega)); have E3 := Lib.hid (StoredAt.row hS E2.out (by omega)); have HB3 := Lib.hid (StoredAt.below hS HB2.out (by omega)); clear hO hS O2 R2 E2 HB2; obtain ⟨a0, a1, a2, a3, a4, a5, a6, a7, a8, a9, a10, a11, a12⟩ := EnAt.all E3.out; simp only at a0 a1 a2 a3 a4 a5 a6 a7 a8 a9 a10 a11 a12))
  have HS3 := Lib.hid (St.add (st_nil (w := w) HB3.out) E3.out)
  clear a0 a1 a2 a3 a4 a5 a6 a7 a8 a9 a10 a11 a12 E3 HB3
  refine wp_region_held_drew (S := St [(w.heap.size, (Ent.vals (Ent.mk l 3 t pt pp r c s)))] w) (by kernel_rfl) (St.drew HS3.out) (fun hHeld => ?_)
  have r14_1 := Lib.hid (RowAt.drew O3.out)
  have r14_2 := Lib.hid (RowAt.drew R3.out)
  refine wpAnyH_take (i := 0) (v := ?_) rfl (by kernel_rfl) (by kernel_rfl) (by kernel_rfl) (fun _ _ _ h => h) (Or.inl ⟨by rfl, ?_⟩) (by assumption) ?_
  rotate_left
  · (intro W _; go_simp; try with_reducible rfl)
  try simp only [Act.put, List.getElem_toArray, List.getElem_cons_zero, List.setIfInBounds_toArray, List.set_cons_zero, List.set_cons_succ]
  refine wpAnyH_take (i := 1) (v := ?_) rfl (by kernel_rfl) (by kernel_rfl) (by kernel_rfl) (fun _ _ _ h => h) (Or.inl ⟨by rfl, ?_⟩) (by assumption) ?_
  rotate_left
  · (intro W hSw; have c0 := (St.row hSw (b := w.heap.size) (vs := (Ent.vals (Ent.mk l 3 t pt pp r c s))) (by simp)).cells 2 _ rfl; clear hSw; go_simp; try with_reducible rfl)
  try simp only [Act.put, List.getElem_toArray, List.getElem_cons_zero, List.getElem_cons_succ, List.setIfInBounds_toArray, List.set_cons_zero, List.set_cons_succ]
  refine wpAnyH_take (i := 2) (v := ?_) rfl (by kernel_rfl) (by kernel_rfl) (by kernel_rfl) (fun _ _ _ h => h) (Or.inl ⟨by rfl, ?_⟩) (by assumption) ?_
  rotate_left
  · (intro W _; go_simp; try with_reducible rfl)
  try simp only [Act.put, List.getElem_toArray, List.getElem_cons_zero, List.getElem_cons_succ, List.setIfInBounds_toArray, List.set_cons_zero, List.set_cons_succ]
  refine wpAnyH_take (i := 3) (v := ?_) rfl (by kernel_rfl) (by kernel_rfl) (by kernel_rfl) (fun _ _ _ h => h) (Or.inl ⟨by rfl, ?_⟩) (by assumption) ?_
  rotate_left
  · (intro W hSw; have c0 := (St.row hSw (b := w.heap.size) (vs := (Ent.vals (Ent.mk l 3 t pt pp r c s))) (by simp)).cells 3 _ rfl; clear hSw; go_simp; try with_reducible rfl)
  try simp only [Act.put, List.getElem_toArray, List.getElem_cons_zero, List.getElem_cons_succ, List.setIfInBounds_toArray, List.set_cons_zero, List.set_cons_succ]
  refine wpAnyH_take (i := 4) (v := ?_) rfl (by kernel_rfl) (by kernel_rfl) (by kernel_rfl) (fun _ _ _ h => h) (Or.inl ⟨by rfl, ?_⟩) (by assumption) ?_
  rotate_left
  · (intro W _; go_simp; try with_reducible rfl)
  try simp only [Act.put, List.getElem_toArray, List.getElem_cons_zero, List.getElem_cons_succ, List.setIfInBounds_toArray, List.set_cons_zero, List.set_cons_succ]
  refine wpAnyH_ready (rs := [5]) (by kernel_rfl) (by simp) (AllReadyH.cons rfl (fun K hK => ?_) AllReadyH.nil)
  simp only [List.getElem_toArray, List.getElem_cons_zero, List.getElem_cons_succ]
  rw [if_pos (by rfl)]
  with_reducible refine op_storeField 3 (.int .i64 t) rfl rfl info_int1 r14_1.out (show 2 < 13 by decide) (by rfl) ?_ ?_ (fun W14_3 hP14_5 hS14_6 => ?_)
  · rfl
  · rfl
  have r14_7 : Hid (EnAt w1.heap.size (Ent.mk l 3 t 0 0 0 chg0 ⟨#[]⟩) W14_3) := Lib.hid hP14_5
  have r14_8 := Lib.hid (StoredAt.row hS14_6 r14_2.out (by omega))
  refine hK.out _ _ (St.stored hHeld (by simp; omega) (by omega) hS14_6) (fun hH14_4 => ?_)
  clear hK K
  simp only [Act.put, List.setIfInBounds_toArray, List.set_cons_zero, List.set_cons_succ]
  refine wpAnyH_take (i := 6) (v := ?_) rfl (by kernel_rfl) (by kernel_rfl) (by kernel_rfl) (fun _ _ _ h => h) (Or.inl ⟨by rfl, ?_⟩) (by assumption) ?_
  rotate_left
  · (intro W _; go_simp; try with_reducible rfl)
  try simp only [Act.put, List.getElem_toArray, List.getElem_cons_zero, List.getElem_cons_succ, List.setIfInBounds_toArray, List.set_cons_zero, List.set_cons_succ]
  refine wpAnyH_ready (rs := [7]) (by kernel_rfl) (by simp) (AllReadyH.cons rfl (fun K hK => ?_) AllReadyH.nil)
  simp only [List.getElem_toArray, List.getElem_cons_zero, List.getElem_cons_succ]
  rw [if_pos (by rfl)]
  with_reducible refine op_storeField 3 (.int .i64 pt) rfl rfl info_int1 r14_7.out (show 3 < 13 by decide) (by rfl) ?_ ?_ (fun W14_9 hP14_11 hS14_12 => ?_)
  · rfl
  · rfl
  have r14_13 : Hid (EnAt w1.heap.size (Ent.mk l 3 t pt 0 0 chg0 ⟨#[]⟩) W14_9) := Lib.hid hP14_11
  have r14_14 := Lib.hid (StoredAt.row hS14_12 r14_8.out (by omega))
  refine hK.out _ _ (St.stored hH14_4 (by simp; omega) (by omega) hS14_12) (fun hH14_10 => ?_)
  clear hK K
  simp only [Act.put, List.setIfInBounds_toArray, List.set_cons_zero, List.set_cons_succ]
  refine wpAnyH_done (by kernel_rfl) ?_ _
  have E5 := Lib.hid (St.row hH14_10 (b := w.heap.size) (vs := Ent.vals (Ent.mk l 3 t pt pp r c s)) (by simp))
  have HB5 := Lib.hid (And.right hH14_10)
  have O5 := Lib.hid r14_13.out
  have R5 := Lib.hid r14_14.out
  obtain ⟨a0, a1, a2, a3, a4, a5, a6, a7, a8, a9, a10, a11, a12⟩ := EnAt.all E5.out
  simp only at a0 a1 a2 a3 a4 a5 a6 a7 a8 a9 a10 a11 a12
  go_upto_region 15 with (fail)
  have HS5 := Lib.hid (St.add (St.add (st_nil (w := w) HB5.out) E5.out) O5.out)
  clear a0 a1 a2 a3 a4 a5 a6 a7 a8 a9 a10 a11 a12
  refine wp_region_held_drew (S := St [(w1.heap.size, (Ent.vals (Ent.mk l 3 t pt 0 0 chg0 ⟨#[]⟩))), (w.heap.size, (Ent.vals (Ent.mk l 3 t pt pp r c s)))] w) (by kernel_rfl) (St.drew HS5.out) (fun hHeld => ?_)
  have r15_1 := Lib.hid (RowAt.drew R5.out)
  refine wpAnyH_take (i := 0) (v := (.agg (Ent.arr (Ent.mk l 3 t pt 0 0 chg0 ⟨#[]⟩)))) rfl (by kernel_rfl) (by kernel_rfl) (by kernel_rfl) (fun _ _ _ h => h) (yieldsIf_load_mid (by rfl) 28 _ rfl w1.heap.size 0 rfl (Ent.vals (Ent.mk l 3 t pt 0 0 chg0 ⟨#[]⟩)) _ (fun W hSw => RowAt.range (St.row hSw (b := w1.heap.size) (vs := (Ent.vals (Ent.mk l 3 t pt 0 0 chg0 ⟨#[]⟩))) (by simp)) 0 (fun j v hv => by rw [Nat.zero_add]; exact hv)) Try.underlying28 rfl info_ent) (by assumption) ?_
  try simp only [Act.put, List.getElem_toArray, List.getElem_cons_zero, List.setIfInBounds_toArray, List.set_cons_zero, List.set_cons_succ]
  refine wpAnyH_take (i := 1) (v := ?_) rfl (by kernel_rfl) (by kernel_rfl) (by kernel_rfl) (fun _ _ _ h => h) (Or.inl ⟨by rfl, ?_⟩) (by assumption) ?_
  rotate_left
  · (intro W _; go_simp; try with_reducible rfl)
  try simp only [Act.put, List.getElem_toArray, List.getElem_cons_zero, List.getElem_cons_succ, List.setIfInBounds_toArray, List.set_cons_zero, List.set_cons_succ]
  refine wpAnyH_take (i := 2) (v := ?_) rfl (by kernel_rfl) (by kernel_rfl) (by kernel_rfl) (fun _ _ _ h => h) (Or.inl ⟨by rfl, ?_⟩) (by assumption) ?_
  rotate_left
  · (intro W hSw; have c0 := (St.row hSw (b := w.heap.size) (vs := (Ent.vals (Ent.mk l 3 t pt pp r c s))) (by simp)).cells 2 _ rfl; clear hSw; go_simp; try with_reducible rfl)
  try simp only [Act.put, List.getElem_toArray, List.getElem_cons_zero, List.getElem_cons_succ, List.setIfInBounds_toArray, List.set_cons_zero, List.set_cons_succ]
  refine wpAnyH_take (i := 3) (v := ?_) rfl (by kernel_rfl) (by kernel_rfl) (by kernel_rfl) (fun _ _ _ h => h) (Or.inl ⟨by rfl, ?_⟩) (by assumption) ?_
  rotate_left
  · (intro W _; go_simp; try with_reducible rfl)
  try simp only [Act.put, List.getElem_toArray, List.getElem_cons_zero, List.getElem_cons_succ, List.setIfInBounds_toArray, List.set_cons_zero, List.set_cons_succ]
  refine wpAnyH_take (i := 4) (v := ?_) rfl (by kernel_rfl) (by kernel_rfl) (by kernel_rfl) (fun _ _ _ h => h) (Or.inl ⟨by rfl, ?_⟩) (by assumption) ?_
  rotate_left
  · (intro W _; go_simp; try with_reducible rfl)
  try simp only [Act.put, List.getElem_toArray, List.getElem_cons_zero, List.getElem_cons_succ, List.setIfInBounds_toArray, List.set_cons_zero, List.set_cons_succ]
  refine wpAnyH_take (i := 5) (v := ?_) rfl (by kernel_rfl) (by kernel_rfl) (by kernel_rfl) (fun _ _ _ h => h) (Or.inl ⟨by rfl, ?_⟩) (by assumption) ?_
  rotate_left
  · (intro W _; go_simp; try with_reducible rfl)
  try simp only [Act.put, List.getElem_toArray, List.getElem_cons_zero, List.getElem_cons_succ, List.setIfInBounds_toArray, List.set_cons_zero, List.set_cons_succ]
  refine wpAnyH_take (i := 6) (v := ?_) rfl (by kernel_rfl) (by kernel_rfl) (by kernel_rfl) (fun _ _ _ h => h) (Or.inl ⟨by rfl, ?_⟩) (by assumption) ?_
  rotate_left
  · (intro W hSw; have c0 := (St.row hSw (b := w.heap.size) (vs := (Ent.vals (Ent.mk l 3 t pt pp r c s))) (by simp)).cells 2 _ rfl; clear hSw; go_simp; try with_reducible rfl)
  try simp only [Act.put, List.getElem_toArray, List.getElem_cons_zero, List.getElem_cons_succ, List.setIfInBounds_toArray, List.set_cons_zero, List.set_cons_succ]
  refine wpAnyH_take (i := 7) (v := ?_) rfl (by kernel_rfl) (by kernel_rfl) (by kernel_rfl) (fun _ _ _ h => h) (Or.inl ⟨by rfl, ?_⟩) (by assumption) ?_
  rotate_left
  · (intro W _; go_simp; try with_reducible rfl)
  try simp only [Act.put, List.getElem_toArray, List.getElem_cons_zero, List.getElem_cons_succ, List.setIfInBounds_toArray, List.set_cons_zero, List.set_cons_succ]
  refine wpAnyH_take (i := 8) (v := ?_) rfl (by kernel_rfl) (by kernel_rfl) (by kernel_rfl) (fun _ _ _ h => h) (Or.inl ⟨by rfl, ?_⟩) (by assumption) ?_
  rotate_left
  · (intro W _; go_simp; try with_reducible rfl)
  try simp only [Act.put, List.getElem_toArray, List.getElem_cons_zero, List.getElem_cons_succ, List.setIfInBounds_toArray, List.set_cons_zero, List.set_cons_succ]
  refine wpAnyH_take (i := 9) (v := ?_) rfl (by kernel_rfl) (by kernel_rfl) (by kernel_rfl) (fun _ _ _ h => h) (Or.inl ⟨by rfl, ?_⟩) (by assumption) ?_
  rotate_left
  · (intro W _; go_simp; try with_reducible rfl)
  try simp only [Act.put, List.getElem_toArray, List.getElem_cons_zero, List.getElem_cons_succ, List.setIfInBounds_toArray, List.set_cons_zero, List.set_cons_succ]
  refine wpAnyH_take (i := 10) (v := undef) rfl (by kernel_rfl) (by kernel_rfl) (by kernel_rfl) (fun _ _ _ h => h) (Or.inr ⟨by rfl, rfl⟩) (by assumption) ?_
  try simp only [Act.put, List.getElem_toArray, List.getElem_cons_zero, List.getElem_cons_succ, List.setIfInBounds_toArray, List.set_cons_zero, List.set_cons_succ]
  refine wpAnyH_take (i := 11) (v := undef) rfl (by kernel_rfl) (by kernel_rfl) (by kernel_rfl) (fun _ _ _ h => h) (Or.inr ⟨by rfl, rfl⟩) (by assumption) ?_
  try simp only [Act.put, List.getElem_toArray, List.getElem_cons_zero, List.getElem_cons_succ, List.setIfInBounds_toArray, List.set_cons_zero, List.set_cons_succ]
  refine wpAnyH_take (i := 12) (v := undef) rfl (by kernel_rfl) (by kernel_rfl) (by kernel_rfl) (fun _ _ _ h => h) (Or.inr ⟨by rfl, rfl⟩) (by assumption) ?_
  try simp only [Act.put, List.getElem_toArray, List.getElem_cons_zero, List.getElem_cons_succ, List.setIfInBounds_toArray, List.set_cons_zero, List.set_cons_succ]
  refine wpAnyH_take (i := 13) (v := ?_) rfl (by kernel_rfl) (by kernel_rfl) (by kernel_rfl) (fun _ _ _ h => h) (Or.inl ⟨by rfl, ?_⟩) (by assumption) ?_
  rotate_left
  · (intro W _; go_simp; try with_reducible rfl)
  try simp only [Act.put, List.getElem_toArray, List.getElem_cons_zero, List.getElem_cons_succ, List.setIfInBounds_toArray, List.set_cons_zero, List.set_cons_succ]
  refine wpAnyH_ready (rs := [14]) (by kernel_rfl) (by simp) (AllReadyH.cons rfl (fun K hK => ?_) AllReadyH.nil)
  simp only [List.getElem_toArray, List.getElem_cons_zero, List.getElem_cons_succ]
  rw [if_pos (by rfl)]
  with_reducible refine op_storeEnt (Ent.mk l 3 t pt 0 0 chg0 ⟨#[]⟩) r15_1.out (evals_length _) (by rfl) ?_ ?_ (fun W15_2 hP15_4 hS15_5 => ?_)
  · rfl
  · rfl
  have r15_6 : Hid (EnAt w0.heap.size (Ent.mk l 3 t pt 0 0 chg0 ⟨#[]⟩) W15_2) := Lib.hid hP15_4
  refine hK.out _ _ (St.stored hHeld (by simp; omega) (by omega) hS15_5) (fun hH15_3 => ?_)
  clear hK K
  simp only [Act.put, List.setIfInBounds_toArray, List.set_cons_zero, List.set_cons_succ]
  refine wpAnyH_take (i := 15) (v := ?_) rfl (by kernel_rfl) (by kernel_rfl) (by kernel_rfl) (fun _ _ _ h => h) (Or.inl ⟨by rfl, ?_⟩) (by assumption) ?_
  rotate_left
  · (intro W _; go_simp; try with_reducible rfl)
  try simp only [Act.put, List.getElem_toArray, List.getElem_cons_zero, List.getElem_cons_succ, List.setIfInBounds_toArray, List.set_cons_zero, List.set_cons_succ]
  refine wpAnyH_done (by kernel_rfl) ?_ _
  go_wp2
  exact bodyPost_ret (res_entE rfl rfl r15_6.out) rfl ⟨rfl, And.right hH15_3⟩

set_option maxRecDepth 4000 in
set_option maxHeartbeats 4000000 in
theorem shape3c (l t pt pp r : Int) (c : Chg) (s : ByteArray) (h1 : 1 ≤ t) (h2 : t ≤ 1073741824) (w : World) : Calls Try.prog 33 #[.agg (Ent.arr (Ent.mk l 3 t pt pp r c s))] w fun e' w' => e' = .returned (.tuple #[.agg (Ent.arr (Ent.mk l 3 t pt 0 0 chg0 ⟨#[]⟩)), .bool (decide (0 < pt))]) ∧ Below w.heap.size w w' := by
  have d1 : decide (1 ≤ t) = true := by simpa using h1
  have d2 : decide (t ≤ 1073741824) = true := by simpa using h2
  have hbd := build_ent2 l 3
  have HU : Hid True := Lib.hid trivial
  go_enter Try.func33, Try.ntmps33
  go_upto_region 14 with (first
    | (clear HU; refine wp_boxEntW (Ent.mk l 3 t pt pp r c s) rfl rfl rfl ?_; intro w0 hE hb0 z0; have E0 := Lib.hid hE; have HB0 := Lib.hid hb0; have G0 : Hid True := Lib.hid trivial; clear hE hb0)
    | (clear G0; refine wp_newEntW rfl rfl ?_; intro w1 hR hb1 z1; have R1 := Lib.hid hR; have E1 := Lib.hid (RowAt.keep E0.out hb1); have HB1 := Lib.hid (HB0.out.trans (hb1.mono HB0.out.size)); have G1 : Hid True := Lib.hid trivial; obtain ⟨a0, a1, a2, a3, a4, a5, a6, a7, a8, a9, a10, a11, a12⟩ := EnAt.all E1.out; simp only at a0 a1 a2 a3 a4 a5 a6 a7 a8 a9 a10 a11 a12; clear hR hb1 E0 HB0)
    | (clear G1; refine wp_newEntW rfl rfl ?_; intro w2 hO hb2 z2; have O2 := Lib.hid hO; have R2 := Lib.hid (RowAt.keep R1.out hb2); have E2 := Lib.hid (RowAt.keep E1.out hb2); have HB2 := Lib.hid (HB1.out.trans (hb2.mono HB1.out.size)); clear hO hb2 R1 E1 HB1 a0 a1 a2 a3 a4 a5 a6 a7 a8 a9 a10 a11 a12)
    | (clear hbd; refine wp_storeEntW (Ent.mk l 3 0 0 0 0 chg0 ⟨#[]⟩) O2.out (evals_length _) rfl rfl rfl rfl ?_; intro w3 hO hS; have O3 := Lib.hid hO; have R3 := Lib.hid (StoredAt.row hS R2.out (by omega)); have E3 := Lib.hid (StoredAt.row hS E2.out (by omega)); have HB3 := Lib.hid (StoredAt.below hS HB2.out (by omega)); clear hO hS O2 R2 E2 HB2; obtain ⟨a0, a1, a2, a3, a4, a5, a6, a7, a8, a9, a10, a11, a12⟩ := EnAt.all E3.out; simp only at a0 a1 a2 a3 a4 a5 a6 a7 a8 a9 a10 a11 a12))
  have HS3 := Lib.hid (St.add (st_nil (w := w) HB3.out) E3.out)
  clear a0 a1 a2 a3 a4 a5 a6 a7 a8 a9 a10 a11 a12 E3 HB3
  refine wp_region_held_drew (S := St [(w.heap.size, (Ent.vals (Ent.mk l 3 t pt pp r c s)))] w) (by kernel_rfl) (St.drew HS3.out) (fun hHeld => ?_)
  have r14_1 := Lib.hid (RowAt.drew O3.out)
  have r14_2 := Lib.hid (RowAt.drew R3.out)
  refine wpAnyH_take (i := 0) (v := ?_) rfl (by kernel_rfl) (by kernel_rfl) (by kernel_rfl) (fun _ _ _ h => h) (Or.inl ⟨by rfl, ?_⟩) (by assumption) ?_
  rotate_left
  · (intro W _; go_simp; try with_reducible rfl)
  try simp only [Act.put, List.getElem_toArray, List.getElem_cons_zero, List.setIfInBounds_toArray, List.set_cons_zero, List.set_cons_succ]
  refine wpAnyH_take (i := 1) (v := ?_) rfl (by kernel_rfl) (by kernel_rfl) (by kernel_rfl) (fun _ _ _ h => h) (Or.inl ⟨by rfl, ?_⟩) (by assumption) ?_
  rotate_left
  · (intro W hSw; have c0 := (St.row hSw (b := w.heap.size) (vs := (Ent.vals (Ent.mk l 3 t pt pp r c s))) (by simp)).cells 2 _ rfl; clear hSw; go_simp; try with_reducible rfl)
  try simp only [Act.put, List.getElem_toArray, List.getElem_cons_zero, List.getElem_cons_succ, List.setIfInBounds_toArray, List.set_cons_zero, List.set_cons_succ]
  refine wpAnyH_take (i := 2) (v := ?_) rfl (by kernel_rfl) (by kernel_rfl) (by kernel_rfl) (fun _ _ _ h => h) (Or.inl ⟨by rfl, ?_⟩) (by assumption) ?_
  rotate_left
  · (intro W _; go_simp; try with_reducible rfl)
  try simp only [Act.put, List.getElem_toArray, List.getElem_cons_zero, List.getElem_cons_succ, List.setIfInBounds_toArray, List.set_cons_zero, List.set_cons_succ]
  refine wpAnyH_take (i := 3) (v := ?_) rfl (by kernel_rfl) (by kernel_rfl) (by kernel_rfl) (fun _ _ _ h => h) (Or.inl ⟨by rfl, ?_⟩) (by assumption) ?_
  rotate_left
  · (intro W hSw; have c0 := (St.row hSw (b := w.heap.size) (vs := (Ent.vals (Ent.mk l 3 t pt pp r c s))) (by simp)).cells 3 _ rfl; clear hSw; go_simp; try with_reducible rfl)
  try simp only [Act.put, List.getElem_toArray, List.getElem_cons_zero, List.getElem_cons_succ, List.setIfInBounds_toArray, List.set_cons_zero, List.set_cons_succ]
  refine wpAnyH_take (i := 4) (v := ?_) rfl (by kernel_rfl) (by kernel_rfl) (by kernel_rfl) (fun _ _ _ h => h) (Or.inl ⟨by rfl, ?_⟩) (by assumption) ?_
  rotate_left
  · (intro W _; go_simp; try with_reducible rfl)
  try simp only [Act.put, List.getElem_toArray, List.getElem_cons_zero, List.getElem_cons_succ, List.setIfInBounds_toArray, List.set_cons_zero, List.set_cons_succ]
  refine wpAnyH_ready (rs := [5]) (by kernel_rfl) (by simp) (AllReadyH.cons rfl (fun K hK => ?_) AllReadyH.nil)
  simp only [List.getElem_toArray, List.getElem_cons_zero, List.getElem_cons_succ]
  rw [if_pos (by rfl)]
  with_reducible refine op_storeField 3 (.int .i64 t) rfl rfl info_int1 r14_1.out (show 2 < 13 by decide) (by rfl) ?_ ?_ (fun W14_3 hP14_5 hS14_6 => ?_)
  · rfl
  · rfl
  have r14_7 : Hid (EnAt w1.heap.size (Ent.mk l 3 t 0 0 0 chg0 ⟨#[]⟩) W14_3) := Lib.hid hP14_5
  have r14_8 := Lib.hid (StoredAt.row hS14_6 r14_2.out (by omega))
  refine hK.out _ _ (St.stored hHeld (by simp; omega) (by omega) hS14_6) (fun hH14_4 => ?_)
  clear hK K
  simp only [Act.put, List.setIfInBounds_toArray, List.set_cons_zero, List.set_cons_succ]
  refine wpAnyH_take (i := 6) (v := ?_) rfl (by kernel_rfl) (by kernel_rfl) (by kernel_rfl) (fun _ _ _ h => h) (Or.inl ⟨by rfl, ?_⟩) (by assumption) ?_
  rotate_left
  · (intro W _; go_simp; try with_reducible rfl)
  try simp only [Act.put, List.getElem_toArray, List.getElem_cons_zero, List.getElem_cons_succ, List.setIfInBounds_toArray, List.set_cons_zero, List.set_cons_succ]
  refine wpAnyH_ready (rs := [7]) (by kernel_rfl) (by simp) (AllReadyH.cons rfl (fun K hK => ?_) AllReadyH.nil)
  simp only [List.getElem_toArray, List.getElem_cons_zero, List.getElem_cons_succ]
  rw [if_pos (by rfl)]
  with_reducible refine op_storeField 3 (.int .i64 pt) rfl rfl info_int1 r14_7.out (show 3 < 13 by decide) (by rfl) ?_ ?_ (fun W14_9 hP14_11 hS14_12 => ?_)
  · rfl
  · rfl
  have r14_13 : Hid (EnAt w1.heap.size (Ent.mk l 3 t pt 0 0 chg0 ⟨#[]⟩) W14_9) := Lib.hid hP14_11
  have r14_14 := Lib.hid (StoredAt.row hS14_12 r14_8.out (by omega))
  refine hK.out _ _ (St.stored hH14_4 (by simp; omega) (by omega) hS14_12) (fun hH14_10 => ?_)
  clear hK K
  simp only [Act.put, List.setIfInBounds_toArray, List.set_cons_zero, List.set_cons_succ]
  refine wpAnyH_done (by kernel_rfl) ?_ _
  have E5 := Lib.hid (St.row hH14_10 (b := w.heap.size) (vs := Ent.vals (Ent.mk l 3 t pt pp r c s)) (by simp))
  have HB5 := Lib.hid (And.right hH14_10)
  have O5 := Lib.hid r14_13.out
  have R5 := Lib.hid r14_14.out
  obtain ⟨a0, a1, a2, a3, a4, a5, a6, a7, a8, a9, a10, a11, a12⟩ := EnAt.all E5.out
  simp only at a0 a1 a2 a3 a4 a5 a6 a7 a8 a9 a10 a11 a12
  go_upto_region 15 with (fail)
  have HS5 := Lib.hid (St.add (St.add (st_nil (w := w) HB5.out) E5.out) O5.out)
  clear a0 a1 a2 a3 a4 a5 a6 a7 a8 a9 a10 a11 a12
  refine wp_region_held_drew (S := St [(w1.heap.size, (Ent.vals (Ent.mk l 3 t pt 0 0 chg0 ⟨#[]⟩))), (w.heap.size, (Ent.vals (Ent.mk l 3 t pt pp r c s)))] w) (by kernel_rfl) (St.drew HS5.out) (fun hHeld => ?_)
  have r15_1 := Lib.hid (RowAt.drew R5.out)
  refine wpAnyH_take (i := 0) (v := (.agg (Ent.arr (Ent.mk l 3 t pt 0 0 chg0 ⟨#[]⟩)))) rfl (by kernel_rfl) (by kernel_rfl) (by kernel_rfl) (fun _ _ _ h => h) (yieldsIf_load_mid (by rfl) 28 _ rfl w1.heap.size 0 rfl (Ent.vals (Ent.mk l 3 t pt 0 0 chg0 ⟨#[]⟩)) _ (fun W hSw => RowAt.range (St.row hSw (b := w1.heap.size) (vs := (Ent.vals (Ent.mk l 3 t pt 0 0 chg0 ⟨#[]⟩))) (by simp)) 0 (fun j v hv => by rw [Nat.zero_add]; exact hv)) Try.underlying28 rfl info_ent) (by assumption) ?_
  try simp only [Act.put, List.getElem_toArray, List.getElem_cons_zero, List.setIfInBounds_toArray, List.set_cons_zero, List.set_cons_succ]
  refine wpAnyH_take (i := 1) (v := ?_) rfl (by kernel_rfl) (by kernel_rfl) (by kernel_rfl) (fun _ _ _ h => h) (Or.inl ⟨by rfl, ?_⟩) (by assumption) ?_
  rotate_left
  · (intro W _; go_simp; try with_reducible rfl)
  try simp only [Act.put, List.getElem_toArray, List.getElem_cons_zero, List.getElem_cons_succ, List.setIfInBounds_toArray, List.set_cons_zero, List.set_cons_succ]
  refine wpAnyH_take (i := 2) (v := ?_) rfl (by kernel_rfl) (by kernel_rfl) (by kernel_rfl) (fun _ _ _ h => h) (Or.inl ⟨by rfl, ?_⟩) (by assumption) ?_
  rotate_left
  · (intro W hSw; have c0 := (St.row hSw (b := w.heap.size) (vs := (Ent.vals (Ent.mk l 3 t pt pp r c s))) (by simp)).cells 2 _ rfl; clear hSw; go_simp; try with_reducible rfl)
  try simp only [Act.put, List.getElem_toArray, List.getElem_cons_zero, List.getElem_cons_succ, List.setIfInBounds_toArray, List.set_cons_zero, List.set_cons_succ]
  refine wpAnyH_take (i := 3) (v := ?_) rfl (by kernel_rfl) (by kernel_rfl) (by kernel_rfl) (fun _ _ _ h => h) (Or.inl ⟨by rfl, ?_⟩) (by assumption) ?_
  rotate_left
  · (intro W _; go_simp; try with_reducible rfl)
  try simp only [Act.put, List.getElem_toArray, List.getElem_cons_zero, List.getElem_cons_succ, List.setIfInBounds_toArray, List.set_cons_zero, List.set_cons_succ]
  refine wpAnyH_take (i := 4) (v := ?_) rfl (by kernel_rfl) (by kernel_rfl) (by kernel_rfl) (fun _ _ _ h => h) (Or.inl ⟨by rfl, ?_⟩) (by assumption) ?_
  rotate_left
  · (intro W _; go_simp; try with_reducible rfl)
  try simp only [Act.put, List.getElem_toArray, List.getElem_cons_zero, List.getElem_cons_succ, List.setIfInBounds_toArray, List.set_cons_zero, List.set_cons_succ]
  refine wpAnyH_take (i := 5) (v := ?_) rfl (by kernel_rfl) (by kernel_rfl) (by kernel_rfl) (fun _ _ _ h => h) (Or.inl ⟨by rfl, ?_⟩) (by assumption) ?_
  rotate_left
  · (intro W _; go_simp; try with_reducible rfl)
  try simp only [Act.put, List.getElem_toArray, List.getElem_cons_zero, List.getElem_cons_succ, List.setIfInBounds_toArray, List.set_cons_zero, List.set_cons_succ]
  refine wpAnyH_take (i := 6) (v := ?_) rfl (by kernel_rfl) (by kernel_rfl) (by kernel_rfl) (fun _ _ _ h => h) (Or.inl ⟨by rfl, ?_⟩) (by assumption) ?_
  rotate_left
  · (intro W hSw; have c0 := (St.row hSw (b := w.heap.size) (vs := (Ent.vals (Ent.mk l 3 t pt pp r c s))) (by simp)).cells 2 _ rfl; clear hSw; go_simp; try with_reducible rfl)
  try simp only [Act.put, List.getElem_toArray, List.getElem_cons_zero, List.getElem_cons_succ, List.setIfInBounds_toArray, List.set_cons_zero, List.set_cons_succ]
  refine wpAnyH_take (i := 7) (v := ?_) rfl (by kernel_rfl) (by kernel_rfl) (by kernel_rfl) (fun _ _ _ h => h) (Or.inl ⟨by rfl, ?_⟩) (by assumption) ?_
  rotate_left
  · (intro W _; go_simp; try with_reducible rfl)
  try simp only [Act.put, List.getElem_toArray, List.getElem_cons_zero, List.getElem_cons_succ, List.setIfInBounds_toArray, List.set_cons_zero, List.set_cons_succ]
  refine wpAnyH_take (i := 8) (v := ?_) rfl (by kernel_rfl) (by kernel_rfl) (by kernel_rfl) (fun _ _ _ h => h) (Or.inl ⟨by rfl, ?_⟩) (by assumption) ?_
  rotate_left
  · (intro W _; go_simp; try with_reducible rfl)
  try simp only [Act.put, List.getElem_toArray, List.getElem_cons_zero, List.getElem_cons_succ, List.setIfInBounds_toArray, List.set_cons_zero, List.set_cons_succ]
  refine wpAnyH_take (i := 9) (v := ?_) rfl (by kernel_rfl) (by kernel_rfl) (by kernel_rfl) (fun _ _ _ h => h) (Or.inl ⟨by rfl, ?_⟩) (by assumption) ?_
  rotate_left
  · (intro W _; go_simp; try with_reducible rfl)
  try simp only [Act.put, List.getElem_toArray, List.getElem_cons_zero, List.getElem_cons_succ, List.setIfInBounds_toArray, List.set_cons_zero, List.set_cons_succ]
  refine wpAnyH_take (i := 10) (v := ?_) rfl (by kernel_rfl) (by kernel_rfl) (by kernel_rfl) (fun _ _ _ h => h) (Or.inl ⟨by rfl, ?_⟩) (by assumption) ?_
  rotate_left
  · (intro W _; go_simp; try with_reducible rfl)
  try simp only [Act.put, List.getElem_toArray, List.getElem_cons_zero, List.getElem_cons_succ, List.setIfInBounds_toArray, List.set_cons_zero, List.set_cons_succ]
  refine wpAnyH_take (i := 11) (v := ?_) rfl (by kernel_rfl) (by kernel_rfl) (by kernel_rfl) (fun _ _ _ h => h) (Or.inl ⟨by rfl, ?_⟩) (by assumption) ?_
  rotate_left
  · (intro W hSw; have c0 := (St.row hSw (b := w.heap.size) (vs := (Ent.vals (Ent.mk l 3 t pt pp r c s))) (by simp)).cells 3 _ rfl; clear hSw; go_simp; try with_reducible rfl)
  try simp only [Act.put, List.getElem_toArray, List.getElem_cons_zero, List.getElem_cons_succ, List.setIfInBounds_toArray, List.set_cons_zero, List.set_cons_succ]
  refine wpAnyH_take (i := 12) (v := ?_) rfl (by kernel_rfl) (by kernel_rfl) (by kernel_rfl) (fun _ _ _ h => h) (Or.inl ⟨by rfl, ?_⟩) (by assumption) ?_
  rotate_left
  · (intro W _; go_simp; try with_reducible rfl)
  try simp only [Act.put, List.getElem_toArray, List.getElem_cons_zero, List.getElem_cons_succ, List.setIfInBounds_toArray, List.set_cons_zero, List.set_cons_succ]
  refine wpAnyH_take (i := 13) (v := ?_) rfl (by kernel_rfl) (by kernel_rfl) (by kernel_rfl) (fun _ _ _ h => h) (Or.inl ⟨by rfl, ?_⟩) (by assumption) ?_
  rotate_left
  · (intro W _; go_simp; try with_reducible rfl)
  try simp only [Act.put, List.getElem_toArray, List.getElem_cons_zero, List.getElem_cons_succ, List.setIfInBounds_toArray, List.set_cons_zero, List.set_cons_succ]
  refine wpAnyH_ready (rs := [14]) (by kernel_rfl) (by simp) (AllReadyH.cons rfl (fun K hK => ?_) AllReadyH.nil)
  simp only [List.getElem_toArray, List.getElem_cons_zero, List.getElem_cons_succ]
  rw [if_pos (by rfl)]
  with_reducible refine op_storeEnt (Ent.mk l 3 t pt 0 0 chg0 ⟨#[]⟩) r15_1.out (evals_length _) (by rfl) ?_ ?_ (fun W15_2 hP15_4 hS15_5 => ?_)
  · rfl
  · rfl
  have r15_6 : Hid (EnAt w0.heap.size (Ent.mk l 3 t pt 0 0 chg0 ⟨#[]⟩) W15_2) := Lib.hid hP15_4
  refine hK.out _ _ (St.stored hHeld (by simp; omega) (by omega) hS15_5) (fun hH15_3 => ?_)
  clear hK K
  simp only [Act.put, List.setIfInBounds_toArray, List.set_cons_zero, List.set_cons_succ]
  refine wpAnyH_take (i := 15) (v := ?_) rfl (by kernel_rfl) (by kernel_rfl) (by kernel_rfl) (fun _ _ _ h => h) (Or.inl ⟨by rfl, ?_⟩) (by assumption) ?_
  rotate_left
  · (intro W _; go_simp; try with_reducible rfl)
  try simp only [Act.put, List.getElem_toArray, List.getElem_cons_zero, List.getElem_cons_succ, List.setIfInBounds_toArray, List.set_cons_zero, List.set_cons_succ]
  refine wpAnyH_done (by kernel_rfl) ?_ _
  go_wp2
  exact bodyPost_ret (res_entE rfl rfl r15_6.out) rfl ⟨rfl, And.right hH15_3⟩

set_option maxRecDepth 4000 in
set_option maxHeartbeats 4000000 in
theorem shape4a (l t pt pp r : Int) (c : Chg) (s : ByteArray) (h1 : ¬ 1 ≤ t) (w : World) : Calls Try.prog 33 #[.agg (Ent.arr (Ent.mk l 4 t pt pp r c s))] w fun e' w' => e' = .returned (.tuple #[.agg (Ent.arr (Ent.mk l 4 t pt 0 0 chg0 ⟨#[]⟩)), .bool false]) ∧ Below w.heap.size w w' := by
  have d1 : decide (1 ≤ t) = false := by simpa using h1
  have hbd := build_ent2 l 4
  have HU : Hid True := Lib.hid trivial
  go_enter Try.func33, Try.ntmps33
  go_upto_region 14 with (first
    | (clear HU; refine wp_boxEntW (Ent.mk l 4 t pt pp r c s) rfl rfl rfl ?_; intro w0 hE hb0 z0; have E0 := Lib.hid hE; have HB0 := Lib.hid hb0; have G0 : Hid True := Lib.hid trivial; clear hE hb0)
    | (clear G0; refine wp_newEntW rfl rfl ?_; intro w1 hR hb1 z1; have R1 := Lib.hid hR; have E1 := Lib.hid (RowAt.keep E0.out hb1); have HB1 := Lib.hid (HB0.out.trans (hb1.mono HB0.out.size)); have G1 : Hid True := Lib.hid trivial; obtain ⟨a0, a1, a2, a3, a4, a5, a6, a7, a8, a9, a10, a11, a12⟩ := EnAt.all E1.out; simp only at a0 a1 a2 a3 a4 a5 a6 a7 a8 a9 a10 a11 a12; clear hR hb1 E0 HB0)
    | (clear G1; refine wp_newEntW rfl rfl ?_; intro w2 hO hb2 z2; have O2 := Lib.hid hO; have R2 := Lib.hid (RowAt.keep R1.out hb2); have E2 := Lib.hid (RowAt.keep E1.out hb2); have HB2 := Lib.hid (HB1.out.trans (hb2.mono HB1.out.size)); clear hO hb2 R1 E1 HB1 a0 a1 a2 a3 a4 a5 a6 a7 a8 a9 a10 a11 a12)
    | (clear hbd; refine wp_storeEntW (Ent.mk l 4 0 0 0 0 chg0 ⟨#[]⟩) O2.out (evals_length _) rfl rfl rfl rfl ?_; intro w3 hO hS; have O3 := Lib.hid hO; have R3 := Lib.hid (StoredAt.row hS R2.out (by omega)); have E3 := Lib.hid (StoredAt.row hS E2.out (by omega)); have HB3 := Lib.hid (StoredAt.below hS HB2.out (by omega)); clear hO hS O2 R2 E2 HB2; obtain ⟨a0, a1, a2, a3, a4, a5, a6, a7, a8, a9, a10, a11, a12⟩ := EnAt.all E3.out; simp only at a0 a1 a2 a3 a4 a5 a6 a7 a8 a9 a10 a11 a12))
  have HS3 := Lib.hid (St.add (st_nil (w := w) HB3.out) E3.out)
  clear a0 a1 a2 a3 a4 a5 a6 a7 a8 a9 a10 a11 a12 E3 HB3
  refine wp_region_held_drew (S := St [(w.heap.size, (Ent.vals (Ent.mk l 4 t pt pp r c s)))] w) (by kernel_rfl) (St.drew HS3.out) (fun hHeld => ?_)
  have r14_1 := Lib.hid (RowAt.drew O3.out)
  have r14_2 := Lib.hid (RowAt.drew R3.out)
  refine wpAnyH_take (i := 0) (v := ?_) rfl (by kernel_rfl) (by kernel_rfl) (by kernel_rfl) (fun _ _ _ h => h) (Or.inl ⟨by rfl, ?_⟩) (by assumption) ?_
  rotate_left
  · (intro W _; go_simp; try with_reducible rfl)
  try simp only [Act.put, List.getElem_toArray, List.getElem_cons_zero, List.setIfInBounds_toArray, List.set_cons_zero, List.set_cons_succ]
  refine wpAnyH_take (i := 1) (v := ?_) rfl (by kernel_rfl) (by kernel_rfl) (by kernel_rfl) (fun _ _ _ h => h) (Or.inl ⟨by rfl, ?_⟩) (by assumption) ?_
  rotate_left
  · (intro W hSw; have c0 := (St.row hSw (b := w.heap.size) (vs := (Ent.vals (Ent.mk l 4 t pt pp r c s))) (by simp)).cells 2 _ rfl; clear hSw; go_simp; try with_reducible rfl)
  try simp only [Act.put, List.getElem_toArray, List.getElem_cons_zero, List.getElem_cons_succ, List.setIfInBounds_toArray, List.set_cons_zero, List.set_cons_succ]
  refine wpAnyH_take (i := 2) (v := ?_) rfl (by kernel_rfl) (by kernel_rfl) (by kernel_rfl) (fun _ _ _ h => h) (Or.inl ⟨by rfl, ?_⟩) (by assumption) ?_
  rotate_left
  · (intro W _; go_simp; try with_reducible rfl)
  try simp only [Act.put, List.getElem_toArray, List.getElem_cons_zero, List.getElem_cons_succ, List.setIfInBounds_toArray, List.set_cons_zero, List.set_cons_succ]
  refine wpAnyH_take (i := 3) (v := ?_) rfl (by kernel_rfl) (by kernel_rfl) (by kernel_rfl) (fun _ _ _ h => h) (Or.inl ⟨by rfl, ?_⟩) (by assumption) ?_
  rotate_left
  · (intro W hSw; have c0 := (St.row hSw (b := w.heap.size) (vs := (Ent.vals (Ent.mk l 4 t pt pp r c s))) (by simp)).cells 3 _ rfl; clear hSw; go_simp; try with_reducible rfl)
  try simp only [Act.put, List.getElem_toArray, List.getElem_cons_zero, List.getElem_cons_succ, List.setIfInBounds_toArray, List.set_cons_zero, List.set_cons_succ]
  refine wpAnyH_take (i := 4) (v := ?_) rfl (by kernel_rfl) (by kernel_rfl) (by kernel_rfl) (fun _ _ _ h => h) (Or.inl ⟨by rfl, ?_⟩) (by assumption) ?_
  rotate_left
  · (intro W _; go_simp; try with_reducible rfl)
  try simp only [Act.put, List.getElem_toArray, List.getElem_cons_zero, List.getElem_cons_succ, List.setIfInBounds_toArray, List.set_cons_zero, List.set_cons_succ]
  refine wpAnyH_ready (rs := [5]) (by kernel_rfl) (by simp) (AllReadyH.cons rfl (fun K hK => ?_) AllReadyH.nil)
  simp only [List.getElem_toArray, List.getElem_cons_zero, List.getElem_cons_succ]
  rw [if_pos (by rfl)]
  with_reducible refine op_storeField 3 (.int .i64 t) rfl rfl info_int1 r14_1.out (show 2 < 13 by decide) (by rfl) ?_ ?_ (fun W14_3 hP14_5 hS14_6 => ?_)
  · rfl
  · rfl
  have r14_7 : Hid (EnAt w1.heap.size (Ent.mk l 4 t 0 0 0 chg0 ⟨#[]⟩) W14_3) := Lib.hid hP14_5
  have r14_8 := Lib.hid (StoredAt.row hS14_6 r14_2.out (by omega))
  refine hK.out _ _ (St.stored hHeld (by simp; omega) (by omega) hS14_6) (fun hH14_4 => ?_)
  clear hK K
  simp only [Act.put, List.setIfInBounds_toArray, List.set_cons_zero, List.set_cons_succ]
  refine wpAnyH_take (i := 6) (v := ?_) rfl (by kernel_rfl) (by kernel_rfl) (by kernel_rfl) (fun _ _ _ h => h) (Or.inl ⟨by rfl, ?_⟩) (by assumption) ?_
  rotate_left
  · (intro W _; go_simp; try with_reducible rfl)
  try simp only [Act.put, List.getElem_toArray, List.getElem_cons_zero, List.getElem_cons_succ, List.setIfInBounds_toArray, List.set_cons_zero, List.set_cons_succ]
  refine wpAnyH_ready (rs := [7]) (by kernel_rfl) (by simp) (AllReadyH.cons rfl (fun K hK => ?_) AllReadyH.nil)
  simp only [List.getElem_toArray, List.getElem_cons_zero, List.getElem_cons_succ]
  rw [if_pos (by rfl)]
  with_reducible refine op_storeField 3 (.int .i64 pt) rfl rfl info_int1 r14_7.out (show 3 < 13 by decide) (by rfl) ?_ ?_ (fun W14_9 hP14_11 hS14_12 => ?_)
  · rfl
  · rfl
  have r14_13 : Hid (EnAt w1.heap.size (Ent.mk l 4 t pt 0 0 chg0 ⟨#[]⟩) W14_9) := Lib.hid hP14_11
  have r14_14 := Lib.hid (StoredAt.row hS14_12 r14_8.out (by omega))
  refine hK.out _ _ (St.stored hH14_4 (by simp; omega) (by omega) hS14_12) (fun hH14_10 => ?_)
  clear hK K
  simp only [Act.put, List.setIfInBounds_toArray, List.set_cons_zero, List.set_cons_succ]
  refine wpAnyH_done (by kernel_rfl) ?_ _
  have E5 := Lib.hid (St.row hH14_10 (b := w.heap.size) (vs := Ent.vals (Ent.mk l 4 t pt pp r c s)) (by simp))
  have HB5 := Lib.hid (And.right hH14_10)
  have O5 := Lib.hid r14_13.out
  have R5 := Lib.hid r14_14.out
  obtain ⟨a0, a1, a2, a3, a4, a5, a6, a7, a8, a9, a10, a11, a12⟩ := EnAt.all E5.out
  simp only at a0 a1 a2 a3 a4 a5 a6 a7 a8 a9 a10 a11 a12
  go_upto_region 15 with (fail)
  have HS5 := Lib.hid (St.add (St.add (st_nil (w := w) HB5.out) E5.out) O5.out)
  clear a0 a1 a2 a3 a4 a5 a6 a7 a8 a9 a10 a11 a12
  refine wp_region_held_drew (S := St [(w1.heap.size, (Ent.vals (Ent.mk l 4 t pt 0 0 chg0 ⟨#[]⟩))), (w.heap.size, (Ent.vals (Ent.mk l 4 t pt pp r c s)))] w) (by kernel_rfl) (St.drew HS5.out) (fun hHeld => ?_)
  have r15_1 := Lib.hid (RowAt.drew R5.out)
  refine wpAnyH_take (i := 0) (v := (.agg (Ent.arr (Ent.mk l 4 t pt 0 0 chg0 ⟨#[]⟩)))) rfl (by kernel_rfl) (by kernel_rfl) (by kernel_rfl) (fun _ _ _ h => h) (yieldsIf_load_mid (by rfl) 28 _ rfl w1.heap.size 0 rfl (Ent.vals (Ent.mk l 4 t pt 0 0 chg0 ⟨#[]⟩)) _ (fun W hSw => RowAt.range (St.row hSw (b := w1.heap.size) (vs := (Ent.vals (Ent.mk l 4 t pt 0 0 chg0 ⟨#[]⟩))) (by simp)) 0 (fun j v hv => by rw [Nat.zero_add]; exact hv)) Try.underlying28 rfl info_ent) (by assumption) ?_
  try simp only [Act.put, List.getElem_toArray, List.getElem_cons_zero, List.setIfInBounds_toArray, List.set_cons_zero, List.set_cons_succ]
  refine wpAnyH_take (i := 1) (v := ?_) rfl (by kernel_rfl) (by kernel_rfl) (by kernel_rfl) (fun _ _ _ h => h) (Or.inl ⟨by rfl, ?_⟩) (by assumption) ?_
  rotate_left
  · (intro W _; go_simp; try with_reducible rfl)
  try simp only [Act.put, List.getElem_toArray, List.getElem_cons_zero, List.getElem_cons_succ, List.setIfInBounds_toArray, List.set_cons_zero, List.set_cons_succ]
  refine wpAnyH_take (i := 2) (v := ?_) rfl (by kernel_rfl) (by kernel_rfl) (by kernel_rfl) (fun _ _ _ h => h) (Or.inl ⟨by rfl, ?_⟩) (by assumption) ?_
  rotate_left
  · (intro W hSw; have c0 := (St.row hSw (b := w.heap.size) (vs := (Ent.vals (Ent.mk l 4 t pt pp r c s))) (by simp)).cells 2 _ rfl; clear hSw; go_simp; try with_reducible rfl)
  try simp only [Act.put, List.getElem_toArray, List.getElem_cons_zero, List.getElem_cons_succ, List.setIfInBounds_toArray, List.set_cons_zero, List.set_cons_succ]
  refine wpAnyH_take (i := 3) (v := ?_) rfl (by kernel_rfl) (by kernel_rfl) (by kernel_rfl) (fun _ _ _ h => h) (Or.inl ⟨by rfl, ?_⟩) (by assumption) ?_
  rotate_left
  · (intro W _; go_simp; try with_reducible rfl)
  try simp only [Act.put, List.getElem_toArray, List.getElem_cons_zero, List.getElem_cons_succ, List.setIfInBounds_toArray, List.set_cons_zero, List.set_cons_succ]
  refine wpAnyH_take (i := 4) (v := ?_) rfl (by kernel_rfl) (by kernel_rfl) (by kernel_rfl) (fun _ _ _ h => h) (Or.inl ⟨by rfl, ?_⟩) (by assumption) ?_
  rotate_left
  · (intro W _; go_simp; try with_reducible rfl)
  try simp only [Act.put, List.getElem_toArray, List.getElem_cons_zero, List.getElem_cons_succ, List.setIfInBounds_toArray, List.set_cons_zero, List.set_cons_succ]
  refine wpAnyH_take (i := 5) (v := undef) rfl (by kernel_rfl) (by kernel_rfl) (by kernel_rfl) (fun _ _ _ h => h) (Or.inr ⟨by rfl, rfl⟩) (by assumption) ?_
  try simp only [Act.put, List.getElem_toArray, List.getElem_cons_zero, List.getElem_cons_succ, List.setIfInBounds_toArray, List.set_cons_zero, List.set_cons_succ]
  refine wpAnyH_take (i := 6) (v := undef) rfl (by kernel_rfl) (by kernel_rfl) (by kernel_rfl) (fun _ _ _ h => h) (Or.inr ⟨by rfl, rfl⟩) (by assumption) ?_
  try simp only [Act.put, List.getElem_toArray, List.getElem_cons_zero, List.getElem_cons_succ, List.setIfInBounds_toArray, List.set_cons_zero, List.set_cons_succ]
  refine wpAnyH_take (i := 7) (v := undef) rfl (by kernel_rfl) (by kernel_rfl) (by kernel_rfl) (fun _ _ _ h => h) (Or.inr ⟨by rfl, rfl⟩) (by assumption) ?_
  try simp only [Act.put, List.getElem_toArray, List.getElem_cons_zero, List.getElem_cons_succ, List.setIfInBounds_toArray, List.set_cons_zero, List.set_cons_succ]
  refine wpAnyH_take (i := 8) (v := ?_) rfl (by kernel_rfl) (by kernel_rfl) (by kernel_rfl) (fun _ _ _ h => h) (Or.inl ⟨by rfl, ?_⟩) (by assumption) ?_
  rotate_left
  · (intro W _; go_simp; try with_reducible rfl)
  try simp only [Act.put, List.getElem_toArray, List.getElem_cons_zero, List.getElem_cons_succ, List.setIfInBounds_toArray, List.set_cons_zero, List.set_cons_succ]
  refine wpAnyH_take (i := 9) (v := ?_) rfl (by kernel_rfl) (by kernel_rfl) (by kernel_rfl) (fun _ _ _ h => h) (Or.inl ⟨by rfl, ?_⟩) (by assumption) ?_
  rotate_left
  · (intro W _; go_simp; try with_reducible rfl)
  try simp only [Act.put, List.getElem_toArray, List.getElem_cons_zero, List.getElem_cons_succ, List.setIfInBounds_toArray, List.set_cons_zero, List.set_cons_succ]
  refine wpAnyH_take (i := 10) (v := undef) rfl (by kernel_rfl) (by kernel_rfl) (by kernel_rfl) (fun _ _ _ h => h) (Or.inr ⟨by rfl, rfl⟩) (by assumption) ?_
  try simp only [Act.put, List.getElem_toArray, List.getElem_cons_zero, List.getElem_cons_succ, List.setIfInBounds_toArray, List.set_cons_zero, List.set_cons_succ]
  refine wpAnyH_take (i := 11) (v := undef) rfl (by kernel_rfl) (by kernel_rfl) (by kernel_rfl) (fun _ _ _ h => h) (Or.inr ⟨by rfl, rfl⟩) (by assumption) ?_
  try simp only [Act.put, List.getElem_toArray, List.getElem_cons_zero, List.getElem_cons_succ, List.setIfInBounds_toArray, List.set_cons_zero, List.set_cons_succ]
  refine wpAnyH_take (i := 12) (v := undef) rfl (by kernel_rfl) (by kernel_rfl) (by kernel_rfl) (fun _ _ _ h => h) (Or.inr ⟨by rfl, rfl⟩) (by assumption) ?_
  try simp only [Act.put, List.getElem_toArray, List.getElem_cons_zero, List.getElem_cons_succ, List.setIfInBounds_toArray, List.set_cons_zero, List.set_cons_succ]
  refine wpAnyH_take (i := 13) (v := ?_) rfl (by kernel_rfl) (by kernel_rfl) (by kernel_rfl) (fun _ _ _ h => h) (Or.inl ⟨by rfl, ?_⟩) (by assumption) ?_
  rotate_left
  · (intro W _; go_simp; try with_reducible rfl)
  try simp only [Act.put, List.getElem_toArray, List.getElem_cons_zero, List.getElem_cons_succ, List.setIfInBounds_toArray, List.set_cons_zero, List.set_cons_succ]
  refine wpAnyH_ready (rs := [14]) (by kernel_rfl) (by simp) (AllReadyH.cons rfl (fun K hK => ?_) AllReadyH.nil)
  simp only [List.getElem_toArray, List.getElem_cons_zero, List.getElem_cons_succ]
  rw [if_pos (by rfl)]
  with_reducible refine op_storeEnt (Ent.mk l 4 t pt 0 0 chg0 ⟨#[]⟩) r15_1.out (evals_length _) (by rfl) ?_ ?_ (fun W15_2 hP15_4 hS15_5 => ?_)
  · rfl
  · rfl
  have r15_6 : Hid (EnAt w0.heap.size (Ent.mk l 4 t pt 0 0 chg0 ⟨#[]⟩) W15_2) := Lib.hid hP15_4
  refine hK.out _ _ (St.stored hHeld (by simp; omega) (by omega) hS15_5) (fun hH15_3 => ?_)
  clear hK K
  simp only [Act.put, List.setIfInBounds_toArray, List.set_cons_zero, List.set_cons_succ]
  refine wpAnyH_take (i := 15) (v := ?_) rfl (by kernel_rfl) (by kernel_rfl) (by kernel_rfl) (fun _ _ _ h => h) (Or.inl ⟨by rfl, ?_⟩) (by assumption) ?_
  rotate_left
  · (intro W _; go_simp; try with_reducible rfl)
  try simp only [Act.put, List.getElem_toArray, List.getElem_cons_zero, List.getElem_cons_succ, List.setIfInBounds_toArray, List.set_cons_zero, List.set_cons_succ]
  refine wpAnyH_done (by kernel_rfl) ?_ _
  go_wp2
  exact bodyPost_ret (res_entE rfl rfl r15_6.out) rfl ⟨rfl, And.right hH15_3⟩

set_option maxRecDepth 4000 in
set_option maxHeartbeats 4000000 in
theorem shape4b (l t pt pp r : Int) (c : Chg) (s : ByteArray) (h1 : 1 ≤ t) (h2 : ¬ t ≤ 1073741824) (w : World) : Calls Try.prog 33 #[.agg (Ent.arr (Ent.mk l 4 t pt pp r c s))] w fun e' w' => e' = .returned (.tuple #[.agg (Ent.arr (Ent.mk l 4 t pt 0 0 chg0 ⟨#[]⟩)), .bool false]) ∧ Below w.heap.size w w' := by
  have d1 : decide (1 ≤ t) = true := by simpa using h1
  have d2 : decide (t ≤ 1073741824) = false := by simpa using h2
  have hbd := build_ent2 l 4
  have HU : Hid True := Lib.hid trivial
  go_enter Try.func33, Try.ntmps33
  go_upto_region 14 with (first
    | (clear HU; refine wp_boxEntW (Ent.mk l 4 t pt pp r c s) rfl rfl rfl ?_; intro w0 hE hb0 z0; have E0 := Lib.hid hE; have HB0 := Lib.hid hb0; have G0 : Hid True := Lib.hid trivial; clear hE hb0)
    | (clear G0; refine wp_newEntW rfl rfl ?_; intro w1 hR hb1 z1; have R1 := Lib.hid hR; have E1 := Lib.hid (RowAt.keep E0.out hb1); have HB1 := Lib.hid (HB0.out.trans (hb1.mono HB0.out.size)); have G1 : Hid True := Lib.hid trivial; obtain ⟨a0, a1, a2, a3, a4, a5, a6, a7, a8, a9, a10, a11, a12⟩ := EnAt.all E1.out; simp only at a0 a1 a2 a3 a4 a5 a6 a7 a8 a9 a10 a11 a12; clear hR hb1 E0 HB0)
    | (clear G1; refine wp_newEntW rfl rfl ?_; intro w2 hO hb2 z2; have O2 := Lib.hid hO; have R2 := Lib.hid (RowAt.keep R1.out hb2); have E2 := Lib.hid (RowAt.keep E1.out hb2); have HB2 := Lib.hid (HB1.out.trans (hb2.mono HB1.out.size)); clear hO hb2 R1 E1 HB1 a0 a1 a2 a3 a4 a5 a6 a7 a8 a9 a10 a11 a12)
    | (clear hbd; refine wp_storeEntW (Ent.mk l 4 0 0 0 0 chg0 ⟨#[]⟩) O2.out (evals_length _) rfl rfl rfl rfl ?_; intro w3 hO hS; have O3 := Lib.hid hO; have R3 := Lib.hid (StoredAt.row hS R2.out (by omega)); have E3 := Lib.hid (StoredAt.row hS E2.out (by omega)); have HB3 := Lib.hid (StoredAt.below hS HB2.out (by omega)); clear hO hS O2 R2 E2 HB2; obtain ⟨a0, a1, a2, a3, a4, a5, a6, a7, a8, a9, a10, a11, a12⟩ := EnAt.all E3.out; simp only at a0 a1 a2 a3 a4 a5 a6 a7 a8 a9 a10 a11 a12))
  have HS3 := Lib.hid (St.add (st_nil (w := w) HB3.out) E3.out)
  clear a0 a1 a2 a3 a4 a5 a6 a7 a8 a9 a10 a11 a12 E3 HB3
  refine wp_region_held_drew (S := St [(w.heap.size, (Ent.vals (Ent.mk l 4 t pt pp r c s)))] w) (by kernel_rfl) (St.drew HS3.out) (fun hHeld => ?_)
  have r14_1 := Lib.hid (RowAt.drew O3.out)
  have r14_2 := Lib.hid (RowAt.drew R3.out)
  refine wpAnyH_take (i := 0) (v := ?_) rfl (by kernel_rfl) (by kernel_rfl) (by kernel_rfl) (fun _ _ _ h => h) (Or.inl ⟨by rfl, ?_⟩) (by assumption) ?_
  rotate_left
  · (intro W _; go_simp; try with_reducible rfl)
  try simp only [Act.put, List.getElem_toArray, List.getElem_cons_zero, List.setIfInBounds_toArray, List.set_cons_zero, List.set_cons_succ]
  refine wpAnyH_take (i := 1) (v := ?_) rfl (by kernel_rfl) (by kernel_rfl) (by kernel_rfl) (fun _ _ _ h => h) (Or.inl ⟨by rfl, ?_⟩) (by assumption) ?_
  rotate_left
  · (intro W hSw; have c0 := (St.row hSw (b := w.heap.size) (vs := (Ent.vals (Ent.mk l 4 t pt pp r c s))) (by simp)).cells 2 _ rfl; clear hSw; go_simp; try with_reducible rfl)
  try simp only [Act.put, List.getElem_toArray, List.getElem_cons_zero, List.getElem_cons_succ, List.setIfInBounds_toArray, List.set_cons_zero, List.set_cons_succ]
  refine wpAnyH_take (i := 2) (v := ?_) rfl (by kernel_rfl) (by kernel_rfl) (by kernel_rfl) (fun _ _ _ h => h) (Or.inl ⟨by rfl, ?_⟩) (by assumption) ?_
  rotate_left
  · (intro W _; go_simp; try with_reducible rfl)
  try simp only [Act.put, List.getElem_toArray, List.getElem_cons_zero, List.getElem_cons_succ, List.setIfInBounds_toArray, List.set_cons_zero, List.set_cons_succ]
  refine wpAnyH_take (i := 3) (v := ?_) rfl (by kernel_rfl) (by kernel_rfl) (by kernel_rfl) (fun _ _ _ h => h) (Or.inl ⟨by rfl, ?_⟩) (by assumption) ?_
  rotate_left
  · (intro W hSw; have c0 := (St.row hSw (b := w.heap.size) (vs := (Ent.vals (Ent.mk l 4 t pt pp r c s))) (by simp)).cells 3 _ rfl; clear hSw; go_simp; try with_reducible rfl)
  try simp only [Act.put, List.getElem_toArray, List.getElem_cons_zero, List.getElem_cons_succ, List.setIfInBounds_toArray, List.set_cons_zero, List.set_cons_succ]
  refine wpAnyH_take (i := 4) (v := ?_) rfl (by kernel_rfl) (by kernel_rfl) (by kernel_rfl) (fun _ _ _ h => h) (Or.inl ⟨by rfl, ?_⟩) (by assumption) ?_
  rotate_left
  · (intro W _; go_simp; try with_reducible rfl)
  try simp only [Act.put, List.getElem_toArray, List.getElem_cons_zero, List.getElem_cons_succ, List.setIfInBounds_toArray, List.set_cons_zero, List.set_cons_succ]
  refine wpAnyH_ready (rs := [5]) (by kernel_rfl) (by simp) (AllReadyH.cons rfl (fun K hK => ?_) AllReadyH.nil)
  simp only [List.getElem_toArray, List.getElem_cons_zero, List.getElem_cons_succ]
  rw [if_pos (by rfl)]
  with_reducible refine op_storeField 3 (.int .i64 t) rfl rfl info_int1 r14_1.out (show 2 < 13 by decide) (by rfl) ?_ ?_ (fun W14_3 hP14_5 hS14_6 => ?_)
  · rfl
  · rfl
  have r14_7 : Hid (EnAt w1.heap.size (Ent.mk l 4 t 0 0 0 chg0 ⟨#[]⟩) W14_3) := Lib.hid hP14_5
  have r14_8 := Lib.hid (StoredAt.row hS14_6 r14_2.out (by omega))
  refine hK.out _ _ (St.stored hHeld (by simp; omega) (by omega) hS14_6) (fun hH14_4 => ?_)
  clear hK K
  simp only [Act.put, List.setIfInBounds_toArray, List.set_cons_zero, List.set_cons_succ]
  refine wpAnyH_take (i := 6) (v := ?_) rfl (by kernel_rfl) (by kernel_rfl) (by kernel_rfl) (fun _ _ _ h => h) (Or.inl ⟨by rfl, ?_⟩) (by assumption) ?_
  rotate_left
  · (intro W _; go_simp; try with_reducible rfl)
  try simp only [Act.put, List.getElem_toArray, List.getElem_cons_zero, List.getElem_cons_succ, List.setIfInBounds_toArray, List.set_cons_zero, List.set_cons_succ]
  refine wpAnyH_ready (rs := [7]) (by kernel_rfl) (by simp) (AllReadyH.cons rfl (fun K hK => ?_) AllReadyH.nil)
  simp only [List.getElem_toArray, List.getElem_cons_zero, List.getElem_cons_succ]
  rw [if_pos (by rfl)]
  with_reducible refine op_storeField 3 (.int .i64 pt) rfl rfl info_int1 r14_7.out (show 3 < 13 by decide) (by rfl) ?_ ?_ (fun W14_9 hP14_11 hS14_12 => ?_)
  · rfl
  · rfl
  have r14_13 : Hid (EnAt w1.heap.size (Ent.mk l 4 t pt 0 0 chg0 ⟨#[]⟩) W14_9) := Lib.hid hP14_11
  have r14_14 := Lib.hid (StoredAt.row hS14_12 r14_8.out (by omega))
  refine hK.out _ _ (St.stored hH14_4 (by simp; omega) (by omega) hS14_12) (fun hH14_10 => ?_)
  clear hK K
  simp only [Act.put, List.setIfInBounds_toArray, List.set_cons_zero, List.set_cons_succ]
  refine wpAnyH_done (by kernel_rfl) ?_ _
  have E5 := Lib.hid (St.row hH14_10 (b := w.heap.size) (vs := Ent.vals (Ent.mk l 4 t pt pp r c s)) (by simp))
  have HB5 := Lib.hid (And.right hH14_10)
  have O5 := Lib.hid r14_13.out
  have R5 := Lib.hid r14_14.out
  obtain ⟨a0, a1, a2, a3, a4, a5, a6, a7, a8, a9, a10, a11, a12⟩ := EnAt.all E5.out
  simp only at a0 a1 a2 a3 a4 a5 a6 a7 a8 a9 a10 a11 a12
  go_upto_region 15 with (fail)
  have HS5 := Lib.hid (St.add (St.add (st_nil (w := w) HB5.out) E5.out) O5.out)
  clear a0 a1 a2 a3 a4 a5 a6 a7 a8 a9 a10 a11 a12
  refine wp_region_held_drew (S := St [(w1.heap.size, (Ent.vals (Ent.mk l 4 t pt 0 0 chg0 ⟨#[]⟩))), (w.heap.size, (Ent.vals (Ent.mk l 4 t pt pp r c s)))] w) (by kernel_rfl) (St.drew HS5.out) (fun hHeld => ?_)
  have r15_1 := Lib.hid (RowAt.drew R5.out)
  refine wpAnyH_take (i := 0) (v := (.agg (Ent.arr (Ent.mk l 4 t pt 0 0 chg0 ⟨#[]⟩)))) rfl (by kernel_rfl) (by kernel_rfl) (by kernel_rfl) (fun _ _ _ h => h) (yieldsIf_load_mid (by rfl) 28 _ rfl w1.heap.size 0 rfl (Ent.vals (Ent.mk l 4 t pt 0 0 chg0 ⟨#[]⟩)) _ (fun W hSw => RowAt.range (St.row hSw (b := w1.heap.size) (vs := (Ent.vals (Ent.mk l 4 t pt 0 0 chg0 ⟨#[]⟩))) (by simp)) 0 (fun j v hv => by rw [Nat.zero_add]; exact hv)) Try.underlying28 rfl info_ent) (by assumption) ?_
  try simp only [Act.put, List.getElem_toArray, List.getElem_cons_zero, List.setIfInBounds_toArray, List.set_cons_zero, List.set_cons_succ]
  refine wpAnyH_take (i := 1) (v := ?_) rfl (by kernel_rfl) (by kernel_rfl) (by kernel_rfl) (fun _ _ _ h => h) (Or.inl ⟨by rfl, ?_⟩) (by assumption) ?_
  rotate_left
  · (intro W _; go_simp; try with_reducible rfl)
  try simp only [Act.put, List.getElem_toArray, List.getElem_cons_zero, List.getElem_cons_succ, List.setIfInBounds_toArray, List.set_cons_zero, List.set_cons_succ]
  refine wpAnyH_take (i := 2) (v := ?_) rfl (by kernel_rfl) (by kernel_rfl) (by kernel_rfl) (fun _ _ _ h => h) (Or.inl ⟨by rfl, ?_⟩) (by assumption) ?_
  rotate_left
  · (intro W hSw; have c0 := (St.row hSw (b := w.heap.size) (vs := (Ent.vals (Ent.mk l 4 t pt pp r c s))) (by simp)).cells 2 _ rfl; clear hSw; go_simp; try with_reducible rfl)
  try simp only [Act.put, List.getElem_toArray, List.getElem_cons_zero, List.getElem_cons_succ, List.setIfInBounds_toArray, List.set_cons_zero, List.set_cons_succ]
  refine wpAnyH_take (i := 3) (v := ?_) rfl (by kernel_rfl) (by kernel_rfl) (by kernel_rfl) (fun _ _ _ h => h) (Or.inl ⟨by rfl, ?_⟩) (by assumption) ?_
  rotate_left
  · (intro W _; go_simp; try with_reducible rfl)
  try simp only [Act.put, List.getElem_toArray, List.getElem_cons_zero, List.getElem_cons_succ, List.setIfInBounds_toArray, List.set_cons_zero, List.set_cons_succ]
  refine wpAnyH_take (i := 4) (v := ?_) rfl (by kernel_rfl) (by kernel_rfl) (by kernel_rfl) (fun _ _ _ h => h) (Or.inl ⟨by rfl, ?_⟩) (by assumption) ?_
  rotate_left
  · (intro W _; go_simp; try with_reducible rfl)
  try simp only [Act.put, List.getElem_toArray, List.getElem_cons_zero, List.getElem_cons_succ, List.setIfInBounds_toArray, List.set_cons_zero, List.set_cons_succ]
  refine wpAnyH_take (i := 5) (v := ?_) rfl (by kernel_rfl) (by kernel_rfl) (by kernel_rfl) (fun _ _ _ h => h) (Or.inl ⟨by rfl, ?_⟩) (by assumption) ?_
  rotate_left
  · (intro W _; go_simp; try with_reducible rfl)
  try simp only [Act.put, List.getElem_toArray, List.getElem_cons_zero, List.getElem_cons_succ, List.setIfInBounds_toArray, List.set_cons_zero, List.set_cons_succ]
  refine wpAnyH_take (i := 6) (v := ?_) rfl (by kernel_rfl) (by kernel_rfl) (by kernel_rfl) (fun _ _ _ h => h) (Or.inl ⟨by rfl, ?_⟩) (by assumption) ?_
  rotate_left
  · (intro W hSw; have c0 := (St.row hSw (b := w.heap.size) (vs := (Ent.vals (Ent.mk l 4 t pt pp r c s))) (by simp)).cells 2 _ rfl; clear hSw; go_simp; try with_reducible rfl)
  try simp only [Act.put, List.getElem_toArray, List.getElem_cons_zero, List.getElem_cons_succ, List.setIfInBounds_toArray, List.set_cons_zero, List.set_cons_succ]
  refine wpAnyH_take (i := 7) (v := ?_) rfl (by kernel_rfl) (by kernel_rfl) (by kernel_rfl) (fun _ _ _ h => h) (Or.inl ⟨by rfl, ?_⟩) (by assumption) ?_
  rotate_left
  · (intro W _; go_simp; try with_reducible rfl)
  try simp only [Act.put, List.getElem_toArray, List.getElem_cons_zero, List.getElem_cons_succ, List.setIfInBounds_toArray, List.set_cons_zero, List.set_cons_succ]
  refine wpAnyH_take (i := 8) (v := ?_) rfl (by kernel_rfl) (by kernel_rfl) (by kernel_rfl) (fun _ _ _ h => h) (Or.inl ⟨by rfl, ?_⟩) (by assumption) ?_
  rotate_left
  · (intro W _; go_simp; try with_reducible rfl)
  try simp only [Act.put, List.getElem_toArray, List.getElem_cons_zero, List.getElem_cons_succ, List.setIfInBounds_toArray, List.set_cons_zero, List.set_cons_succ]
  refine wpAnyH_take (i := 9) (v := ?_) rfl (by kernel_rfl) (by kernel_rfl) (by kernel_rfl) (fun _ _ _ h => h) (Or.inl ⟨by rfl, ?_⟩) (by assumption) ?_
  rotate_left
  · (intro W _; go_simp; try with_reducible rfl)
  try simp only [Act.put, List.getElem_toArray, List.getElem_cons_zero, List.getElem_cons_succ, List.setIfInBounds_toArray, List.set_cons_zero, List.set_cons_succ]
  refine wpAnyH_take (i := 10) (v := undef) rfl (by kernel_rfl) (by kernel_rfl) (by kernel_rfl) (fun _ _ _ h => h) (Or.inr ⟨by rfl, rfl⟩) (by assumption) ?_
  try simp only [Act.put, List.getElem_toArray, List.getElem_cons_zero, List.getElem_cons_succ, List.setIfInBounds_toArray, List.set_cons_zero, List.set_cons_succ]
  refine wpAnyH_take (i := 11) (v := undef) rfl (by kernel_rfl) (by kernel_rfl) (by kernel_rfl) (fun _ _ _ h => h) (Or.inr ⟨by rfl, rfl⟩) (by assumption) ?_
  try simp only [Act.put, List.getElem_toArray, List.getElem_cons_zero, List.getElem_cons_succ, List.setIfInBounds_toArray, List.set_cons_zero, List.set_cons_succ]
  refine wpAnyH_take (i := 12) (v := undef) rfl (by kernel_rfl) (by kernel_rfl) (by kernel_rfl) (fun _ _ _ h => h) (Or.inr ⟨by rfl, rfl⟩) (by assumption) ?_
  try simp only [Act.put, List.getElem_toArray, List.getElem_cons_zero, List.getElem_cons_succ, List.setIfInBounds_toArray, List.set_cons_zero, List.set_cons_succ]
  refine wpAnyH_take (i := 13) (v := ?_) rfl (by kernel_rfl) (by kernel_rfl) (by kernel_rfl) (fun _ _ _ h => h) (Or.inl ⟨by rfl, ?_⟩) (by assumption) ?_
  rotate_left
  · (intro W _; go_simp; try with_reducible rfl)
  try simp only [Act.put, List.getElem_toArray, List.getElem_cons_zero, List.getElem_cons_succ, List.setIfInBounds_toArray, List.set_cons_zero, List.set_cons_succ]
  refine wpAnyH_ready (rs := [14]) (by kernel_rfl) (by simp) (AllReadyH.cons rfl (fun K hK => ?_) AllReadyH.nil)
  simp only [List.getElem_toArray, List.getElem_cons_zero, List.getElem_cons_succ]
  rw [if_pos (by rfl)]
  with_reducible refine op_storeEnt (Ent.mk l 4 t pt 0 0 chg0 ⟨#[]⟩) r15_1.out (evals_length _) (by rfl) ?_ ?_ (fun W15_2 hP15_4 hS15_5 => ?_)
  · rfl
  · rfl
  have r15_6 : Hid (EnAt w0.heap.size (Ent.mk l 4 t pt 0 0 chg0 ⟨#[]⟩) W15_2) := Lib.hid hP15_4
  refine hK.out _ _ (St.stored hHeld (by simp; omega) (by omega) hS15_5) (fun hH15_3 => ?_)
  clear hK K
  simp only [Act.put, List.setIfInBounds_toArray, List.set_cons_zero, List.set_cons_succ]
  refine wpAnyH_take (i := 15) (v := ?_) rfl (by kernel_rfl) (by kernel_rfl) (by kernel_rfl) (fun _ _ _ h => h) (Or.inl ⟨by rfl, ?_⟩) (by assumption) ?_
  rotate_left
  · (intro W _; go_simp; try with_reducible rfl)
  try simp only [Act.put, List.getElem_toArray, List.getElem_cons_zero, List.getElem_cons_succ, List.setIfInBounds_toArray, List.set_cons_zero, List.set_cons_succ]
  refine wpAnyH_done (by kernel_rfl) ?_ _
  go_wp2
  exact bodyPost_ret (res_entE rfl rfl r15_6.out) rfl ⟨rfl, And.right hH15_3⟩

set_option maxRecDepth 4000 in
set_option maxHeartbeats 4000000 in
theorem shape4c (l t pt pp r : Int) (c : Chg) (s : ByteArray) (h1 : 1 ≤ t) (h2 : t ≤ 1073741824) (w : World) : Calls Try.prog 33 #[.agg (Ent.arr (Ent.mk l 4 t pt pp r c s))] w fun e' w' => e' = .returned (.tuple #[.agg (Ent.arr (Ent.mk l 4 t pt 0 0 chg0 ⟨#[]⟩)), .bool (decide (0 < pt))]) ∧ Below w.heap.size w w' := by
  have d1 : decide (1 ≤ t) = true := by simpa using h1
  have d2 : decide (t ≤ 1073741824) = true := by simpa using h2
  have hbd := build_ent2 l 4
  have HU : Hid True := Lib.hid trivial
  go_enter Try.func33, Try.ntmps33
  go_upto_region 14 with (first
    | (clear HU; refine wp_boxEntW (Ent.mk l 4 t pt pp r c s) rfl rfl rfl ?_; intro w0 hE hb0 z0; have E0 := Lib.hid hE; have HB0 := Lib.hid hb0; have G0 : Hid True := Lib.hid trivial; clear hE hb0)
    | (clear G0; refine wp_newEntW rfl rfl ?_; intro w1 hR hb1 z1; have R1 := Lib.hid hR; have E1 := Lib.hid (RowAt.keep E0.out hb1); have HB1 := Lib.hid (HB0.out.trans (hb1.mono HB0.out.size)); have G1 : Hid True := Lib.hid trivial; obtain ⟨a0, a1, a2, a3, a4, a5, a6, a7, a8, a9, a10, a11, a12⟩ := EnAt.all E1.out; simp only at a0 a1 a2 a3 a4 a5 a6 a7 a8 a9 a10 a11 a12; clear hR hb1 E0 HB0)
    | (clear G1; refine wp_newEntW rfl rfl ?_; intro w2 hO hb2 z2; have O2 := Lib.hid hO; have R2 := Lib.hid (RowAt.keep R1.out hb2); have E2 := Lib.hid (RowAt.keep E1.out hb2); have HB2 := Lib.hid (HB1.out.trans (hb2.mono HB1.out.size)); clear hO hb2 R1 E1 HB1 a0 a1 a2 a3 a4 a5 a6 a7 a8 a9 a10 a11 a12)
    | (clear hbd; refine wp_storeEntW (Ent.mk l 4 0 0 0 0 chg0 ⟨#[]⟩) O2.out (evals_length _) rfl rfl rfl rfl ?_; intro w3 hO hS; have O3 := Lib.hid hO; have R3 := Lib.hid (StoredAt.row hS R2.out (by omega)); have E3 := Lib.hid (StoredAt.row hS E2.out (by omega)); have HB3 := Lib.hid (StoredAt.below hS HB2.out (by omega)); clear hO hS O2 R2 E2 HB2; obtain ⟨a0, a1, a2, a3, a4, a5, a6, a7, a8, a9, a10, a11, a12⟩ := EnAt.all E3.out; simp only at a0 a1 a2 a3 a4 a5 a6 a7 a8 a9 a10 a11 a12))
  have HS3 := Lib.hid (St.add (st_nil (w := w) HB3.out) E3.out)
  clear a0 a1 a2 a3 a4 a5 a6 a7 a8 a9 a10 a11 a12 E3 HB3
  refine wp_region_held_drew (S := St [(w.heap.size, (Ent.vals (Ent.mk l 4 t pt pp r c s)))] w) (by kernel_rfl) (St.drew HS3.out) (fun hHeld => ?_)
  have r14_1 := Lib.hid (RowAt.drew O3.out)
  have r14_2 := Lib.hid (RowAt.drew R3.out)
  refine wpAnyH_take (i := 0) (v := ?_) rfl (by kernel_rfl) (by kernel_rfl) (by kernel_rfl) (fun _ _ _ h => h) (Or.inl ⟨by rfl, ?_⟩) (by assumption) ?_
  rotate_left
  · (intro W _; go_simp; try with_reducible rfl)
  try simp only [Act.put, List.getElem_toArray, List.getElem_cons_zero, List.setIfInBounds_toArray, List.set_cons_zero, List.set_cons_succ]
  refine wpAnyH_take (i := 1) (v := ?_) rfl (by kernel_rfl) (by kernel_rfl) (by kernel_rfl) (fun _ _ _ h => h) (Or.inl ⟨by rfl, ?_⟩) (by assumption) ?_
  rotate_left
  · (intro W hSw; have c0 := (St.row hSw (b := w.heap.size) (vs := (Ent.vals (Ent.mk l 4 t pt pp r c s))) (by simp)).cells 2 _ rfl; clear hSw; go_simp; try with_reducible rfl)
  try simp only [Act.put, List.getElem_toArray, List.getElem_cons_zero, List.getElem_cons_succ, List.setIfInBounds_toArray, List.set_cons_zero, List.set_cons_succ]
  refine wpAnyH_take (i := 2) (v := ?_) rfl (by kernel_rfl) (by kernel_rfl) (by kernel_rfl) (fun _ _ _ h => h) (Or.inl ⟨by rfl, ?_⟩) (by assumption) ?_
  rotate_left
  · (intro W _; go_simp; try with_reducible rfl)
  try simp only [Act.put, List.getElem_toArray, List.getElem_cons_zero, List.getElem_cons_succ, List.setIfInBounds_toArray, List.set_cons_zero, List.set_cons_succ]
  refine wpAnyH_take (i := 3) (v := ?_) rfl (by kernel_rfl) (by kernel_rfl) (by kernel_rfl) (fun _ _ _ h => h) (Or.inl ⟨by rfl, ?_⟩) (by assumption) ?_
  rotate_left
  · (intro W hSw; have c0 := (St.row hSw (b := w.heap.size) (vs := (Ent.vals (Ent.mk l 4 t pt pp r c s))) (by simp)).cells 3 _ rfl; clear hSw; go_simp; try with_reducible rfl)
  try simp only [Act.put, List.getElem_toArray, List.getElem_cons_zero, List.getElem_cons_succ, List.setIfInBounds_toArray, List.set_cons_zero, List.set_cons_succ]
  refine wpAnyH_take (i := 4) (v := ?_) rfl (by kernel_rfl) (by kernel_rfl) (by kernel_rfl) (fun _ _ _ h => h) (Or.inl ⟨by rfl, ?_⟩) (by assumption) ?_
  rotate_left
  · (intro W _; go_simp; try with_reducible rfl)
  try simp only [Act.put, List.getElem_toArray, List.getElem_cons_zero, List.getElem_cons_succ, List.setIfInBounds_toArray, List.set_cons_zero, List.set_cons_succ]
  refine wpAnyH_ready (rs := [5]) (by kernel_rfl) (by simp) (AllReadyH.cons rfl (fun K hK => ?_) AllReadyH.nil)
  simp only [List.getElem_toArray, List.getElem_cons_zero, List.getElem_cons_succ]
  rw [if_pos (by rfl)]
  with_reducible refine op_storeField 3 (.int .i64 t) rfl rfl info_int1 r14_1.out (show 2 < 13 by decide) (by rfl) ?_ ?_ (fun W14_3 hP14_5 hS14_6 => ?_)
  · rfl
  · rfl
  have r14_7 : Hid (EnAt w1.heap.size (Ent.mk l 4 t 0 0 0 chg0 ⟨#[]⟩) W14_3) := Lib.hid hP14_5
  have r14_8 := Lib.hid (StoredAt.row hS14_6 r14_2.out (by omega))
  refine hK.out _ _ (St.stored hHeld (by simp; omega) (by omega) hS14_6) (fun hH14_4 => ?_)
  clear hK K
  simp only [Act.put, List.setIfInBounds_toArray, List.set_cons_zero, List.set_cons_succ]
  refine wpAnyH_take (i := 6) (v := ?_) rfl (by kernel_rfl) (by kernel_rfl) (by kernel_rfl) (fun _ _ _ h => h) (Or.inl ⟨by rfl, ?_⟩) (by assumption) ?_
  rotate_left
  · (intro W _; go_simp; try with_reducible rfl)
  try simp only [Act.put, List.getElem_toArray, List.getElem_cons_zero, List.getElem_cons_succ, List.setIfInBounds_toArray, List.set_cons_zero, List.set_cons_succ]
  refine wpAnyH_ready (rs := [7]) (by kernel_rfl) (by simp) (AllReadyH.cons rfl (fun K hK => ?_) AllReadyH.nil)
  simp only [List.getElem_toArray, List.getElem_cons_zero, List.getElem_cons_succ]
  rw [if_pos (by rfl)]
  with_reducible refine op_storeField 3 (.int .i64 pt) rfl rfl info_int1 r14_7.out (show 3 < 13 by decide) (by rfl) ?_ ?_ (fun W14_9 hP14_11 hS14_12 => ?_)
  · rfl
  · rfl
  have r14_13 : Hid (EnAt w1.heap.size (Ent.mk l 4 t pt 0 0 chg0 ⟨#[]⟩) W14_9) := Lib.hid hP14_11
  have r14_14 := Lib.hid (StoredAt.row hS14_12 r14_8.out (by omega))
  refine hK.out _ _ (St.stored hH14_4 (by simp; omega) (by omega) hS14_12) (fun hH14_10 => ?_)
  clear hK K
  simp only [Act.put, List.setIfInBounds_toArray, List.set_cons_zero, List.set_cons_succ]
  refine wpAnyH_done (by kernel_rfl) ?_ _
  have E5 := Lib.hid (St.row hH14_10 (b := w.heap.size) (vs := Ent.vals (Ent.mk l 4 t pt pp r c s)) (by simp))
  have HB5 := Lib.hid (And.right hH14_10)
  have O5 := Lib.hid r14_13.out
  have R5 := Lib.hid r14_14.out
  obtain ⟨a0, a1, a2, a3, a4, a5, a6, a7, a8, a9, a10, a11, a12⟩ := EnAt.all E5.out
  simp only at a0 a1 a2 a3 a4 a5 a6 a7 a8 a9 a10 a11 a12
  go_upto_region 15 with (fail)
  have HS5 := Lib.hid (St.add (St.add (st_nil (w := w) HB5.out) E5.out) O5.out)
  clear a0 a1 a2 a3 a4 a5 a6 a7 a8 a9 a10 a11 a12
  refine wp_region_held_drew (S := St [(w1.heap.size, (Ent.vals (Ent.mk l 4 t pt 0 0 chg0 ⟨#[]⟩))), (w.heap.size, (Ent.vals (Ent.mk l 4 t pt pp r c s)))] w) (by kernel_rfl) (St.drew HS5.out) (fun hHeld => ?_)
  have r15_1 := Lib.hid (RowAt.drew R5.out)
  refine wpAnyH_take (i := 0) (v := (.agg (Ent.arr (Ent.mk l 4 t pt 0 0 chg0 ⟨#[]⟩)))) rfl (by kernel_rfl) (by kernel_rfl) (by kernel_rfl) (fun _ _ _ h => h) (yieldsIf_load_mid (by rfl) 28 _ rfl w1.heap.size 0 rfl (Ent.vals (Ent.mk l 4 t pt 0 0 chg0 ⟨#[]⟩)) _ (fun W hSw => RowAt.range (St.row hSw (b := w1.heap.size) (vs := (Ent.vals (Ent.mk l 4 t pt 0 0 chg0 ⟨#[]⟩))) (by simp)) 0 (fun j v hv => by rw [Nat.zero_add]; exact hv)) Try.underlying28 rfl info_ent) (by assumption) ?_
  try simp only [Act.put, List.getElem_toArray, List.getElem_cons_zero, List.setIfInBounds_toArray, List.set_cons_zero, List.set_cons_succ]
  refine wpAnyH_take (i := 1) (v := ?_) rfl (by kernel_rfl) (by kernel_rfl) (by kernel_rfl) (fun _ _ _ h => h) (Or.inl ⟨by rfl, ?_⟩) (by assumption) ?_
  rotate_left
  · (intro W _; go_simp; try with_reducible rfl)
  try simp only [Act.put, List.getElem_toArray, List.getElem_cons_zero, List.getElem_cons_succ, List.setIfInBounds_toArray, List.set_cons_zero, List.set_cons_succ]
  refine wpAnyH_take (i := 2) (v := ?_) rfl (by kernel_rfl) (by kernel_rfl) (by kernel_rfl) (fun _ _ _ h => h) (Or.inl ⟨by rfl, ?_⟩) (by assumption) ?_
  rotate_left
  · (intro W hSw; have c0 := (St.row hSw (b := w.heap.size) (vs := (Ent.vals (Ent.mk l 4 t pt pp r c s))) (by simp)).cells 2 _ rfl; clear hSw; go_simp; try with_reducible rfl)
  try simp only [Act.put, List.getElem_toArray, List.getElem_cons_zero, List.getElem_cons_succ, List.setIfInBounds_toArray, List.set_cons_zero, List.set_cons_succ]
  refine wpAnyH_take (i := 3) (v := ?_) rfl (by kernel_rfl) (by kernel_rfl) (by kernel_rfl) (fun _ _ _ h => h) (Or.inl ⟨by rfl, ?_⟩) (by assumption) ?_
  rotate_left
  · (intro W _; go_simp; try with_reducible rfl)
  try simp only [Act.put, List.getElem_toArray, List.getElem_cons_zero, List.getElem_cons_succ, List.setIfInBounds_toArray, List.set_cons_zero, List.set_cons_succ]
  refine wpAnyH_take (i := 4) (v := ?_) rfl (by kernel_rfl) (by kernel_rfl) (by kernel_rfl) (fun _ _ _ h => h) (Or.inl ⟨by rfl, ?_⟩) (by assumption) ?_
  rotate_left
  · (intro W _; go_simp; try with_reducible rfl)
  try simp only [Act.put, List.getElem_toArray, List.getElem_cons_zero, List.getElem_cons_succ, List.setIfInBounds_toArray, List.set_cons_zero, List.set_cons_succ]
  refine wpAnyH_take (i := 5) (v := ?_) rfl (by kernel_rfl) (by kernel_rfl) (by kernel_rfl) (fun _ _ _ h => h) (Or.inl ⟨by rfl, ?_⟩) (by assumption) ?_
  rotate_left
  · (intro W _; go_simp; try with_reducible rfl)
  try simp only [Act.put, List.getElem_toArray, List.getElem_cons_zero, List.getElem_cons_succ, List.setIfInBounds_toArray, List.set_cons_zero, List.set_cons_succ]
  refine wpAnyH_take (i := 6) (v := ?_) rfl (by kernel_rfl) (by kernel_rfl) (by kernel_rfl) (fun _ _ _ h => h) (Or.inl ⟨by rfl, ?_⟩) (by assumption) ?_
  rotate_left
  · (intro W hSw; have c0 := (St.row hSw (b := w.heap.size) (vs := (Ent.vals (Ent.mk l 4 t pt pp r c s))) (by simp)).cells 2 _ rfl; clear hSw; go_simp; try with_reducible rfl)
  try simp only [Act.put, List.getElem_toArray, List.getElem_cons_zero, List.getElem_cons_succ, List.setIfInBounds_toArray, List.set_cons_zero, List.set_cons_succ]
  refine wpAnyH_take (i := 7) (v := ?_) rfl (by kernel_rfl) (by kernel_rfl) (by kernel_rfl) (fun _ _ _ h => h) (Or.inl ⟨by rfl, ?_⟩) (by assumption) ?_
  rotate_left
  · (intro W _; go_simp; try with_reducible rfl)
  try simp only [Act.put, List.getElem_toArray, List.getElem_cons_zero, List.getElem_cons_succ, List.setIfInBounds_toArray, List.set_cons_zero, List.set_cons_succ]
  refine wpAnyH_take (i := 8) (v := ?_) rfl (by kernel_rfl) (by kernel_rfl) (by kernel_rfl) (fun _ _ _ h => h) (Or.inl ⟨by rfl, ?_⟩) (by assumption) ?_
  rotate_left
  · (intro W _; go_simp; try with_reducible rfl)
  try simp only [Act.put, List.getElem_toArray, List.getElem_cons_zero, List.getElem_cons_succ, List.setIfInBounds_toArray, List.set_cons_zero, List.set_cons_succ]
  refine wpAnyH_take (i := 9) (v := ?_) rfl (by kernel_rfl) (by kernel_rfl) (by kernel_rfl) (fun _ _ _ h => h) (Or.inl ⟨by rfl, ?_⟩) (by assumption) ?_
  rotate_left
  · (intro W _; go_simp; try with_reducible rfl)
  try simp only [Act.put, List.getElem_toArray, List.getElem_cons_zero, List.getElem_cons_succ, List.setIfInBounds_toArray, List.set_cons_zero, List.set_cons_succ]
  refine wpAnyH_take (i := 10) (v := ?_) rfl (by kernel_rfl) (by kernel_rfl) (by kernel_rfl) (fun _ _ _ h => h) (Or.inl ⟨by rfl, ?_⟩) (by assumption) ?_
  rotate_left
  · (intro W _; go_simp; try with_reducible rfl)
  try simp only [Act.put, List.getElem_toArray, List.getElem_cons_zero, List.getElem_cons_succ, List.setIfInBounds_toArray, List.set_cons_zero, List.set_cons_succ]
  refine wpAnyH_take (i := 11) (v := ?_) rfl (by kernel_rfl) (by kernel_rfl) (by kernel_rfl) (fun _ _ _ h => h) (Or.inl ⟨by rfl, ?_⟩) (by assumption) ?_
  rotate_left
  · (intro W hSw; have c0 := (St.row hSw (b := w.heap.size) (vs := (Ent.vals (Ent.mk l 4 t pt pp r c s))) (by simp)).cells 3 _ rfl; clear hSw; go_simp; try with_reducible rfl)
  try simp only [Act.put, List.getElem_toArray, List.getElem_cons_zero, List.getElem_cons_succ, List.setIfInBounds_toArray, List.set_cons_zero, List.set_cons_succ]
  refine wpAnyH_take (i := 12) (v := ?_) rfl (by kernel_rfl) (by kernel_rfl) (by kernel_rfl) (fun _ _ _ h => h) (Or.inl ⟨by rfl, ?_⟩) (by assumption) ?_
  rotate_left
  · (intro W _; go_simp; try with_reducible rfl)
  try simp only [Act.put, List.getElem_toArray, List.getElem_cons_zero, List.getElem_cons_succ, List.setIfInBounds_toArray, List.set_cons_zero, List.set_cons_succ]
  refine wpAnyH_take (i := 13) (v := ?_) rfl (by kernel_rfl) (by kernel_rfl) (by kernel_rfl) (fun _ _ _ h => h) (Or.inl ⟨by rfl, ?_⟩) (by assumption) ?_
  rotate_left
  · (intro W _; go_simp; try with_reducible rfl)
  try simp only [Act.put, List.getElem_toArray, List.getElem_cons_zero, List.getElem_cons_succ, List.setIfInBounds_toArray, List.set_cons_zero, List.set_cons_succ]
  refine wpAnyH_ready (rs := [14]) (by kernel_rfl) (by simp) (AllReadyH.cons rfl (fun K hK => ?_) AllReadyH.nil)
  simp only [List.getElem_toArray, List.getElem_cons_zero, List.getElem_cons_succ]
  rw [if_pos (by rfl)]
  with_reducible refine op_storeEnt (Ent.mk l 4 t pt 0 0 chg0 ⟨#[]⟩) r15_1.out (evals_length _) (by rfl) ?_ ?_ (fun W15_2 hP15_4 hS15_5 => ?_)
  · rfl
  · rfl
  have r15_6 : Hid (EnAt w0.heap.size (Ent.mk l 4 t pt 0 0 chg0 ⟨#[]⟩) W15_2) := Lib.hid hP15_4
  refine hK.out _ _ (St.stored hHeld (by simp; omega) (by omega) hS15_5) (fun hH15_3 => ?_)
  clear hK K
  simp only [Act.put, List.setIfInBounds_toArray, List.set_cons_zero, List.set_cons_succ]
  refine wpAnyH_take (i := 15) (v := ?_) rfl (by kernel_rfl) (by kernel_rfl) (by kernel_rfl) (fun _ _ _ h => h) (Or.inl ⟨by rfl, ?_⟩) (by assumption) ?_
  rotate_left
  · (intro W _; go_simp; try with_reducible rfl)
  try simp only [Act.put, List.getElem_toArray, List.getElem_cons_zero, List.getElem_cons_succ, List.setIfInBounds_toArray, List.set_cons_zero, List.set_cons_succ]
  refine wpAnyH_done (by kernel_rfl) ?_ _
  go_wp2
  exact bodyPost_ret (res_entE rfl rfl r15_6.out) rfl ⟨rfl, And.right hH15_3⟩

set_option maxRecDepth 4000 in
set_option maxHeartbeats 4000000 in
theorem shape5a (l t pt pp r : Int) (c : Chg) (s : ByteArray) (h1 : ¬ 1 ≤ t) (w : World) : Calls Try.prog 33 #[.agg (Ent.arr (Ent.mk l 5 t pt pp r c s))] w fun e' w' => e' = .returned (.tuple #[.agg (Ent.arr (Ent.mk l 5 t pt 0 0 chg0 ⟨#[]⟩)), .bool false]) ∧ Below w.heap.size w w' := by
  have d1 : decide (1 ≤ t) = false := by simpa using h1
  have hbd := build_ent2 l 5
  have HU : Hid True := Lib.hid trivial
  go_enter Try.func33, Try.ntmps33
  go_upto_region 14 with (first
    | (clear HU; refine wp_boxEntW (Ent.mk l 5 t pt pp r c s) rfl rfl rfl ?_; intro w0 hE hb0 z0; have E0 := Lib.hid hE; have HB0 := Lib.hid hb0; have G0 : Hid True := Lib.hid trivial; clear hE hb0)
    | (clear G0; refine wp_newEntW rfl rfl ?_; intro w1 hR hb1 z1; have R1 := Lib.hid hR; have E1 := Lib.hid (RowAt.keep E0.out hb1); have HB1 := Lib.hid (HB0.out.trans (hb1.mono HB0.out.size)); have G1 : Hid True := Lib.hid trivial; obtain ⟨a0, a1, a2, a3, a4, a5, a6, a7, a8, a9, a10, a11, a12⟩ := EnAt.all E1.out; simp only at a0 a1 a2 a3 a4 a5 a6 a7 a8 a9 a10 a11 a12; clear hR hb1 E0 HB0)
    | (clear G1; refine wp_newEntW rfl rfl ?_; intro w2 hO hb2 z2; have O2 := Lib.hid hO; have R2 := Lib.hid (RowAt.keep R1.out hb2); have E2 := Lib.hid (RowAt.keep E1.out hb2); have HB2 := Lib.hid (HB1.out.trans (hb2.mono HB1.out.size)); clear hO hb2 R1 E1 HB1 a0 a1 a2 a3 a4 a5 a6 a7 a8 a9 a10 a11 a12)
    | (clear hbd; refine wp_storeEntW (Ent.mk l 5 0 0 0 0 chg0 ⟨#[]⟩) O2.out (evals_length _) rfl rfl rfl rfl ?_; intro w3 hO hS; have O3 := Lib.hid hO; have R3 := Lib.hid (StoredAt.row hS R2.out (by omega)); have E3 := Lib.hid (StoredAt.row hS E2.out (by omega)); have HB3 := Lib.hid (StoredAt.below hS HB2.out (by omega)); clear hO hS O2 R2 E2 HB2; obtain ⟨a0, a1, a2, a3, a4, a5, a6, a7, a8, a9, a10, a11, a12⟩ := EnAt.all E3.out; simp only at a0 a1 a2 a3 a4 a5 a6 a7 a8 a9 a10 a11 a12))
  have HS3 := Lib.hid (St.add (st_nil (w := w) HB3.out) E3.out)
  clear a0 a1 a2 a3 a4 a5 a6 a7 a8 a9 a10 a11 a12 E3 HB3
  refine wp_region_held_drew (S := St [(w.heap.size, (Ent.vals (Ent.mk l 5 t pt pp r c s)))] w) (by kernel_rfl) (St.drew HS3.out) (fun hHeld => ?_)
  have r14_1 := Lib.hid (RowAt.drew O3.out)
  have r14_2 := Lib.hid (RowAt.drew R3.out)
  refine wpAnyH_take (i := 0) (v := ?_) rfl (by kernel_rfl) (by kernel_rfl) (by kernel_rfl) (fun _ _ _ h => h) (Or.inl ⟨by rfl, ?_⟩) (by assumption) ?_
  rotate_left
  · (intro W _; go_simp; try with_reducible rfl)
  try simp only [Act.put, List.getElem_toArray, List.getElem_cons_zero, List.setIfInBounds_toArray, List.set_cons_zero, List.set_cons_succ]
  refine wpAnyH_take (i := 1) (v := ?_) rfl (by kernel_rfl) (by kernel_rfl) (by kernel_rfl) (fun _ _ _ h => h) (Or.inl ⟨by rfl, ?_⟩) (by assumption) ?_
  rotate_left
  · (intro W hSw; have c0 := (St.row hSw (b := w.heap.size) (vs := (Ent.vals (Ent.mk l 5 t pt pp r c s))) (by simp)).cells 2 _ rfl; clear hSw; go_simp; try with_reducible rfl)
  try simp only [Act.put, List.getElem_toArray, List.getElem_cons_zero, List.getElem_cons_succ, List.setIfInBounds_toArray, List.set_cons_zero, List.set_cons_succ]
  refine wpAnyH_take (i := 2) (v := ?_) rfl (by kernel_rfl) (by kernel_rfl) (by kernel_rfl) (fun _ _ _ h => h) (Or.inl ⟨by rfl, ?_⟩) (by assumption) ?_
  rotate_left
  · (intro W _; go_simp; try with_reducible rfl)
  try simp only [Act.put, List.getElem_toArray, List.getElem_cons_zero, List.getElem_cons_succ, List.setIfInBounds_toArray, List.set_cons_zero, List.set_cons_succ]
  refine wpAnyH_take (i := 3) (v := ?_) rfl (by kernel_rfl) (by kernel_rfl) (by kernel_rfl) (fun _ _ _ h => h) (Or.inl ⟨by rfl, ?_⟩) (by assumption) ?_
  rotate_left
  · (intro W hSw; have c0 := (St.row hSw (b := w.heap.size) (vs := (Ent.vals (Ent.mk l 5 t pt pp r c s))) (by simp)).cells 3 _ rfl; clear hSw; go_simp; try with_reducible rfl)
  try simp only [Act.put, List.getElem_toArray, List.getElem_cons_zero, List.getElem_cons_succ, List.setIfInBounds_toArray, List.set_cons_zero, List.set_cons_succ]
  refine wpAnyH_take (i := 4) (v := ?_) rfl (by kernel_rfl) (by kernel_rfl) (by kernel_rfl) (fun _ _ _ h => h) (Or.inl ⟨by rfl, ?_⟩) (by assumption) ?_
  rotate_left
  · (intro W _; go_simp; try with_reducible rfl)
  try simp only [Act.put, List.getElem_toArray, List.getElem_cons_zero, List.getElem_cons_succ, List.setIfInBounds_toArray, List.set_cons_zero, List.set_cons_succ]
  refine wpAnyH_ready (rs := [5]) (by kernel_rfl) (by simp) (AllReadyH.cons rfl (fun K hK => ?_) AllReadyH.nil)
  simp only [List.getElem_toArray, List.getElem_cons_zero, List.getElem_cons_succ]
  rw [if_pos (by rfl)]
  with_reducible refine op_storeField 3 (.int .i64 t) rfl rfl info_int1 r14_1.out (show 2 < 13 by decide) (by rfl) ?_ ?_ (fun W14_3 hP14_5 hS14_6 => ?_)
  · rfl
  · rfl
  have r14_7 : Hid (EnAt w1.heap.size (Ent.mk l 5 t 0 0 0 chg0 ⟨#[]⟩) W14_3) := Lib.hid hP14_5
  have r14_8 := Lib.hid (StoredAt.row hS14_6 r14_2.out (by omega))
  refine hK.out _ _ (St.stored hHeld (by simp; omega) (by omega) hS14_6) (fun hH14_4 => ?_)
  clear hK K
  simp only [Act.put, List.setIfInBounds_toArray, List.set_cons_zero, List.set_cons_succ]
  refine wpAnyH_take (i := 6) (v := ?_) rfl (by kernel_rfl) (by kernel_rfl) (by kernel_rfl) (fun _ _ _ h => h) (Or.inl ⟨by rfl, ?_⟩) (by assumption) ?_
  rotate_left
  · (intro W _; go_simp; try with_reducible rfl)
  try simp only [Act.put, List.getElem_toArray, List.getElem_cons_zero, List.getElem_cons_succ, List.setIfInBounds_toArray, List.set_cons_zero, List.set_cons_succ]
  refine wpAnyH_ready (rs := [7]) (by kernel_rfl) (by simp) (AllReadyH.cons rfl (fun K hK => ?_) AllReadyH.nil)
  simp only [List.getElem_toArray, List.getElem_cons_zero, List.getElem_cons_succ]
  rw [if_pos (by rfl)]
  with_reducible refine op_storeField 3 (.int .i64 pt) rfl rfl info_int1 r14_7.out (show 3 < 13 by decide) (by rfl) ?_ ?_ (fun W14_9 hP14_11 hS14_12 => ?_)
  · rfl
  · rfl
  have r14_13 : Hid (EnAt w1.heap.size (Ent.mk l 5 t pt 0 0 chg0 ⟨#[]⟩) W14_9) := Lib.hid hP14_11
  have r14_14 := Lib.hid (StoredAt.row hS14_12 r14_8.out (by omega))
  refine hK.out _ _ (St.stored hH14_4 (by simp; omega) (by omega) hS14_12) (fun hH14_10 => ?_)
  clear hK K
  simp only [Act.put, List.setIfInBounds_toArray, List.set_cons_zero, List.set_cons_succ]
  refine wpAnyH_done (by kernel_rfl) ?_ _
  have E5 := Lib.hid (St.row hH14_10 (b := w.heap.size) (vs := Ent.vals (Ent.mk l 5 t pt pp r c s)) (by simp))
  have HB5 := Lib.hid (And.right hH14_10)
  have O5 := Lib.hid r14_13.out
  have R5 := Lib.hid r14_14.out
  obtain ⟨a0, a1, a2, a3, a4, a5, a6, a7, a8, a9, a10, a11, a12⟩ := EnAt.all E5.out
  simp only at a0 a1 a2 a3 a4 a5 a6 a7 a8 a9 a10 a11 a12
  go_upto_region 15 with (fail)
  have HS5 := Lib.hid (St.add (St.add (st_nil (w := w) HB5.out) E5.out) O5.out)
  clear a0 a1 a2 a3 a4 a5 a6 a7 a8 a9 a10 a11 a12
  refine wp_region_held_drew (S := St [(w1.heap.size, (Ent.vals (Ent.mk l 5 t pt 0 0 chg0 ⟨#[]⟩))), (w.heap.size, (Ent.vals (Ent.mk l 5 t pt pp r c s)))] w) (by kernel_rfl) (St.drew HS5.out) (fun hHeld => ?_)
  have r15_1 := Lib.hid (RowAt.drew R5.out)
  refine wpAnyH_take (i := 0) (v := (.agg (Ent.arr (Ent.mk l 5 t pt 0 0 chg0 ⟨#[]⟩)))) rfl (by kernel_rfl) (by kernel_rfl) (by kernel_rfl) (fun _ _ _ h => h) (yieldsIf_load_mid (by rfl) 28 _ rfl w1.heap.size 0 rfl (Ent.vals (Ent.mk l 5 t pt 0 0 chg0 ⟨#[]⟩)) _ (fun W hSw => RowAt.range (St.row hSw (b := w1.heap.size) (vs := (Ent.vals (Ent.mk l 5 t pt 0 0 chg0 ⟨#[]⟩))) (by simp)) 0 (fun j v hv => by rw [Nat.zero_add]; exact hv)) Try.underlying28 rfl info_ent) (by assumption) ?_
  try simp only [Act.put, List.getElem_toArray, List.getElem_cons_zero, List.setIfInBounds_toArray, List.set_cons_zero, List.set_cons_succ]
  refine wpAnyH_take (i := 1) (v := ?_) rfl (by kernel_rfl) (by kernel_rfl) (by kernel_rfl) (fun _ _ _ h => h) (Or.inl ⟨by rfl, ?_⟩) (by assumption) ?_
  rotate_left
  · (intro W _; go_simp; try with_reducible rfl)
  try simp only [Act.put, List.getElem_toArray, List.getElem_cons_zero, List.getElem_cons_succ, List.setIfInBounds_toArray, List.set_cons_zero, List.set_cons_succ]
  refine wpAnyH_take (i := 2) (v := ?_) rfl (by kernel_rfl) (by kernel_rfl) (by kernel_rfl) (fun _ _ _ h => h) (Or.inl ⟨by rfl, ?_⟩) (by assumption) ?_
  rotate_left
  · (intro W hSw; have c0 := (St.row hSw (b := w.heap.size) (vs := (Ent.vals (Ent.mk l 5 t pt pp r c s))) (by simp)).cells 2 _ rfl; clear hSw; go_simp; try with_reducible rfl)
  try simp only [Act.put, List.getElem_toArray, List.getElem_cons_zero, List.getElem_cons_succ, List.setIfInBounds_toArray, List.set_cons_zero, List.set_cons_succ]
  refine wpAnyH_take (i := 3) (v := ?_) rfl (by kernel_rfl) (by kernel_rfl) (by kernel_rfl) (fun _ _ _ h => h) (Or.inl ⟨by rfl, ?_⟩) (by assumption) ?_
  rotate_left
  · (intro W _; go_simp; try with_reducible rfl)
  try simp only [Act.put, List.getElem_toArray, List.getElem_cons_zero, List.getElem_cons_succ, List.setIfInBounds_toArray, List.set_cons_zero, List.set_cons_succ]
  refine wpAnyH_take (i := 4) (v := ?_) rfl (by kernel_rfl) (by kernel_rfl) (by kernel_rfl) (fun _ _ _ h => h) (Or.inl ⟨by rfl, ?_⟩) (by assumption) ?_
  rotate_left
  · (intro W _; go_simp; try with_reducible rfl)
  try simp only [Act.put, List.getElem_toArray, List.getElem_cons_zero, List.getElem_cons_succ, List.setIfInBounds_toArray, List.set_cons_zero, List.set_cons_succ]
  refine wpAnyH_take (i := 5) (v := undef) rfl (by kernel_rfl) (by kernel_rfl) (by kernel_rfl) (fun _ _ _ h => h) (Or.inr ⟨by rfl, rfl⟩) (by assumption) ?_
  try simp only [Act.put, List.getElem_toArray, List.getElem_cons_zero, List.getElem_cons_succ, List.setIfInBounds_toArray, List.set_cons_zero, List.set_cons_succ]
  refine wpAnyH_take (i := 6) (v := undef) rfl (by kernel_rfl) (by kernel_rfl) (by kernel_rfl) (fun _ _ _ h => h) (Or.inr ⟨by rfl, rfl⟩) (by assumption) ?_
  try simp only [Act.put, List.getElem_toArray, List.getElem_cons_zero, List.getElem_cons_succ, List.setIfInBounds_toArray, List.set_cons_zero, List.set_cons_succ]
  refine wpAnyH_take (i := 7) (v := undef) rfl (by kernel_rfl) (by kernel_rfl) (by kernel_rfl) (fun _ _ _ h => h) (Or.inr ⟨by rfl, rfl⟩) (by assumption) ?_
  try simp only [Act.put, List.getElem_toArray, List.getElem_cons_zero, List.getElem_cons_succ, List.setIfInBounds_toArray, List.set_cons_zero, List.set_cons_succ]
  refine wpAnyH_take (i := 8) (v := ?_) rfl (by kernel_rfl) (by kernel_rfl) (by kernel_rfl) (fun _ _ _ h => h) (Or.inl ⟨by rfl, ?_⟩) (by assumption) ?_
  rotate_left
  · (intro W _; go_simp; try with_reducible rfl)
  try simp only [Act.put, List.getElem_toArray, List.getElem_cons_zero, List.getElem_cons_succ, List.setIfInBounds_toArray, List.set_cons_zero, List.set_cons_succ]
  refine wpAnyH_take (i := 9) (v := ?_) rfl (by kernel_rfl) (by kernel_rfl) (by kernel_rfl) (fun _ _ _ h => h) (Or.inl ⟨by rfl, ?_⟩) (by assumption) ?_
  rotate_left
  · (intro W _; go_simp; try with_reducible rfl)
  try simp only [Act.put, List.getElem_toArray, List.getElem_cons_zero, List.getElem_cons_succ, List.setIfInBounds_toArray, List.set_cons_zero, List.set_cons_succ]
  refine wpAnyH_take (i := 10) (v := undef) rfl (by kernel_rfl) (by kernel_rfl) (by kernel_rfl) (fun _ _ _ h => h) (Or.inr ⟨by rfl, rfl⟩) (by assumption) ?_
  try simp only [Act.put, List.getElem_toArray, List.getElem_cons_zero, List.getElem_cons_succ, List.setIfInBounds_toArray, List.set_cons_zero, List.set_cons_succ]
  refine wpAnyH_take (i := 11) (v := undef) rfl (by kernel_rfl) (by kernel_rfl) (by kernel_rfl) (fun _ _ _ h => h) (Or.inr ⟨by rfl, rfl⟩) (by assumption) ?_
  try simp only [Act.put, List.getElem_toArray, List.getElem_cons_zero, List.getElem_cons_succ, List.setIfInBounds_toArray, List.set_cons_zero, List.set_cons_succ]
  refine wpAnyH_take (i := 12) (v := undef) rfl (by kernel_rfl) (by kernel_rfl) (by kernel_rfl) (fun _ _ _ h => h) (Or.inr ⟨by rfl, rfl⟩) (by assumption) ?_
  try simp only [Act.put, List.getElem_toArray, List.getElem_cons_zero, List.getElem_cons_succ, List.setIfInBounds_toArray, List.set_cons_zero, List.set_cons_succ]
  refine wpAnyH_take (i := 13) (v := ?_) rfl (by kernel_rfl) (by kernel_rfl) (by kernel_rfl) (fun _ _ _ h => h) (Or.inl ⟨by rfl, ?_⟩) (by assumption) ?_
  rotate_left
  · (intro W _; go_simp; try with_reducible rfl)
  try simp only [Act.put, List.getElem_toArray, List.getElem_cons_zero, List.getElem_cons_succ, List.setIfInBounds_toArray, List.set_cons_zero, List.set_cons_succ]
  refine wpAnyH_ready (rs := [14]) (by kernel_rfl) (by simp) (AllReadyH.cons rfl (fun K hK => ?_) AllReadyH.nil)
  simp only [List.getElem_toArray, List.getElem_cons_zero, List.getElem_cons_succ]
  rw [if_pos (by rfl)]
  with_reducible refine op_storeEnt (Ent.mk l 5 t pt 0 0 chg0 ⟨#[]⟩) r15_1.out (evals_length _) (by rfl) ?_ ?_ (fun W15_2 hP15_4 hS15_5 => ?_)
  · rfl
  · rfl
  have r15_6 : Hid (EnAt w0.heap.size (Ent.mk l 5 t pt 0 0 chg0 ⟨#[]⟩) W15_2) := Lib.hid hP15_4
  refine hK.out _ _ (St.stored hHeld (by simp; omega) (by omega) hS15_5) (fun hH15_3 => ?_)
  clear hK K
  simp only [Act.put, List.setIfInBounds_toArray, List.set_cons_zero, List.set_cons_succ]
  refine wpAnyH_take (i := 15) (v := ?_) rfl (by kernel_rfl) (by kernel_rfl) (by kernel_rfl) (fun _ _ _ h => h) (Or.inl ⟨by rfl, ?_⟩) (by assumption) ?_
  rotate_left
  · (intro W _; go_simp; try with_reducible rfl)
  try simp only [Act.put, List.getElem_toArray, List.getElem_cons_zero, List.getElem_cons_succ, List.setIfInBounds_toArray, List.set_cons_zero, List.set_cons_succ]
  refine wpAnyH_done (by kernel_rfl) ?_ _
  go_wp2
  exact bodyPost_ret (res_entE rfl rfl r15_6.out) rfl ⟨rfl, And.right hH15_3⟩

set_option maxRecDepth 4000 in
set_option maxHeartbeats 4000000 in
theorem shape5b (l t pt pp r : Int) (c : Chg) (s : ByteArray) (h1 : 1 ≤ t) (h2 : ¬ t ≤ 1073741824) (w : World) : Calls Try.prog 33 #[.agg (Ent.arr (Ent.mk l 5 t pt pp r c s))] w fun e' w' => e' = .returned (.tuple #[.agg (Ent.arr (Ent.mk l 5 t pt 0 0 chg0 ⟨#[]⟩)), .bool false]) ∧ Below w.heap.size w w' := by
  have d1 : decide (1 ≤ t) = true := by simpa using h1
  have d2 : decide (t ≤ 1073741824) = false := by simpa using h2
  have hbd := build_ent2 l 5
  have HU : Hid True := Lib.hid trivial
  go_enter Try.func33, Try.ntmps33
  go_upto_region 14 with (first
    | (clear HU; refine wp_boxEntW (Ent.mk l 5 t pt pp r c s) rfl rfl rfl ?_; intro w0 hE hb0 z0; have E0 := Lib.hid hE; have HB0 := Lib.hid hb0; have G0 : Hid True := Lib.hid trivial; clear hE hb0)
    | (clear G0; refine wp_newEntW rfl rfl ?_; intro w1 hR hb1 z1; have R1 := Lib.hid hR; have E1 := Lib.hid (RowAt.keep E0.out hb1); have HB1 := Lib.hid (HB0.out.trans (hb1.mono HB0.out.size)); have G1 : Hid True := Lib.hid trivial; obtain ⟨a0, a1, a2, a3, a4, a5, a6, a7, a8, a9, a10, a11, a12⟩ := EnAt.all E1.out; simp only at a0 a1 a2 a3 a4 a5 a6 a7 a8 a9 a10 a11 a12; clear hR hb1 E0 HB0)
    | (clear G1; refine wp_newEntW rfl rfl ?_; intro w2 hO hb2 z2; have O2 := Lib.hid hO; have R2 := Lib.hid (RowAt.keep R1.out hb2); have E2 := Lib.hid (RowAt.keep E1.out hb2); have HB2 := Lib.hid (HB1.out.trans (hb2.mono HB1.out.size)); clear hO hb2 R1 E1 HB1 a0 a1 a2 a3 a4 a5 a6 a7 a8 a9 a10 a11 a12)
    | (clear hbd; refine wp_storeEntW (Ent.mk l 5 0 0 0 0 chg0 ⟨#[]⟩) O2.out (evals_length _) rfl rfl rfl rfl ?_; intro w3 hO hS; have O3 := Lib.hid hO; have R3 := Lib.hid (StoredAt.row hS R2.out (by omega)); have E3 := Lib.hid (StoredAt.row hS E2.out (by omega)); have HB3 := Lib.hid (StoredAt.below hS HB2.out (by omega)); clear hO hS O2 R2 E2 HB2; obtain ⟨a0, a1, a2, a3, a4, a5, a6, a7, a8, a9, a10, a11, a12⟩ := EnAt.all E3.out; simp only at a0 a1 a2 a3 a4 a5 a6 a7 a8 a9 a10 a11 a12))
  have HS3 := Lib.hid (St.add (st_nil (w := w) HB3.out) E3.out)
  clear a0 a1 a2 a3 a4 a5 a6 a7 a8 a9 a10 a11 a12 E3 HB3
  refine wp_region_held_drew (S := St [(w.heap.size, (Ent.vals (Ent.mk l 5 t pt pp r c s)))] w) (by kernel_rfl) (St.drew HS3.out) (fun hHeld => ?_)
  have r14_1 := Lib.hid (RowAt.drew O3.out)
  have r14_2 := Lib.hid (RowAt.drew R3.out)
  refine wpAnyH_take (i := 0) (v := ?_) rfl (by kernel_rfl) (by kernel_rfl) (by kernel_rfl) (fun _ _ _ h => h) (Or.inl ⟨by rfl, ?_⟩) (by assumption) ?_
  rotate_left
  · (intro W _; go_simp; try with_reducible rfl)
  try simp only [Act.put, List.getElem_toArray, List.getElem_cons_zero, List.setIfInBounds_toArray, List.set_cons_zero, List.set_cons_succ]
  refine wpAnyH_take (i := 1) (v := ?_) rfl (by kernel_rfl) (by kernel_rfl) (by kernel_rfl) (fun _ _ _ h => h) (Or.inl ⟨by rfl, ?_⟩) (by assumption) ?_
  rotate_left
  · (intro W hSw; have c0 := (St.row hSw (b := w.heap.size) (vs := (Ent.vals (Ent.mk l 5 t pt pp r c s))) (by simp)).cells 2 _ rfl; clear hSw; go_simp; try with_reducible rfl)
  try simp only [Act.put, List.getElem_toArray, List.getElem_cons_zero, List.getElem_cons_succ, List.setIfInBounds_toArray, List.set_cons_zero, List.set_cons_succ]
  refine wpAnyH_take (i := 2) (v := ?_) rfl (by kernel_rfl) (by kernel_rfl) (by kernel_rfl) (fun _ _ _ h => h) (Or.inl ⟨by rfl, ?_⟩) (by assumption) ?_
  rotate_left
  · (intro W _; go_simp; try with_reducible rfl)
  try simp only [Act.put, List.getElem_toArray, List.getElem_cons_zero, List.getElem_cons_succ, List.setIfInBounds_toArray, List.set_cons_zero, List.set_cons_succ]
  refine wpAnyH_take (i := 3) (v := ?_) rfl (by kernel_rfl) (by kernel_rfl) (by kernel_rfl) (fun _ _ _ h => h) (Or.inl ⟨by rfl, ?_⟩) (by assumption) ?_
  rotate_left
  · (intro W hSw; have c0 := (St.row hSw (b := w.heap.size) (vs := (Ent.vals (Ent.mk l 5 t pt pp r c s))) (by simp)).cells 3 _ rfl; clear hSw; go_simp; try with_reducible rfl)
  try simp only [Act.put, List.getElem_toArray, List.getElem_cons_zero, List.getElem_cons_succ, List.setIfInBounds_toArray, List.set_cons_zero, List.set_cons_succ]
  refine wpAnyH_take (i := 4) (v := ?_) rfl (by kernel_rfl) (by kernel_rfl) (by kernel_rfl) (fun _ _ _ h => h) (Or.inl ⟨by rfl, ?_⟩) (by assumption) ?_
  rotate_left
  · (intro W _; go_simp; try with_reducible rfl)
  try simp only [Act.put, List.getElem_toArray, List.getElem_cons_zero, List.getElem_cons_succ, List.setIfInBounds_toArray, List.set_cons_zero, List.set_cons_succ]
  refine wpAnyH_ready (rs := [5]) (by kernel_rfl) (by simp) (AllReadyH.cons rfl (fun K hK => ?_) AllReadyH.nil)
  simp only [List.getElem_toArray, List.getElem_cons_zero, List.getElem_cons_succ]
  rw [if_pos (by rfl)]
  with_reducible refine op_storeField 3 (.int .i64 t) rfl rfl info_int1 r14_1.out (show 2 < 13 by decide) (by rfl) ?_ ?_ (fun W14_3 hP14_5 hS14_6 => ?_)
  · rfl
  · rfl
  have r14_7 : Hid (EnAt w1.heap.size (Ent.mk l 5 t 0 0 0 chg0 ⟨#[]⟩) W14_3) := Lib.hid hP14_5
  have r14_8 := Lib.hid (StoredAt.row hS14_6 r14_2.out (by omega))
  refine hK.out _ _ (St.stored hHeld (by simp; omega) (by omega) hS14_6) (fun hH14_4 => ?_)
  clear hK K
  simp only [Act.put, List.setIfInBounds_toArray, List.set_cons_zero, List.set_cons_succ]
  refine wpAnyH_take (i := 6) (v := ?_) rfl (by kernel_rfl) (by kernel_rfl) (by kernel_rfl) (fun _ _ _ h => h) (Or.inl ⟨by rfl, ?_⟩) (by assumption) ?_
  rotate_left
  · (intro W _; go_simp; try with_reducible rfl)
  try simp only [Act.put, List.getElem_toArray, List.getElem_cons_zero, List.getElem_cons_succ, List.setIfInBounds_toArray, List.set_cons_zero, List.set_cons_succ]
  refine wpAnyH_ready (rs := [7]) (by kernel_rfl) (by simp) (AllReadyH.cons rfl (fun K hK => ?_) AllReadyH.nil)
  simp only [List.getElem_toArray, List.getElem_cons_zero, List.getElem_cons_succ]
  rw [if_pos (by rfl)]
  with_reducible refine op_storeField 3 (.int .i64 pt) rfl rfl info_int1 r14_7.out (show 3 < 13 by decide) (by rfl) ?_ ?_ (fun W14_9 hP14_11 hS14_12 => ?_)
  · rfl
  · rfl
  have r14_13 : Hid (EnAt w1.heap.size (Ent.mk l 5 t pt 0 0 chg0 ⟨#[]⟩) W14_9) := Lib.hid hP14_11
  have r14_14 := Lib.hid (StoredAt.row hS14_12 r14_8.out (by omega))
  refine hK.out _ _ (St.stored hH14_4 (by simp; omega) (by omega) hS14_12) (fun hH14_10 => ?_)
  clear hK K
  simp only [Act.put, List.setIfInBounds_toArray, List.set_cons_zero, List.set_cons_succ]
  refine wpAnyH_done (by kernel_rfl) ?_ _
  have E5 := Lib.hid (St.row hH14_10 (b := w.heap.size) (vs := Ent.vals (Ent.mk l 5 t pt pp r c s)) (by simp))
  have HB5 := Lib.hid (And.right hH14_10)
  have O5 := Lib.hid r14_13.out
  have R5 := Lib.hid r14_14.out
  obtain ⟨a0, a1, a2, a3, a4, a5, a6, a7, a8, a9, a10, a11, a12⟩ := EnAt.all E5.out
  simp only at a0 a1 a2 a3 a4 a5 a6 a7 a8 a9 a10 a11 a12
  go_upto_region 15 with (fail)
  have HS5 := Lib.hid (St.add (St.add (st_nil (w := w) HB5.out) E5.out) O5.out)
  clear a0 a1 a2 a3 a4 a5 a6 a7 a8 a9 a10 a11 a12
  refine wp_region_held_drew (S := St [(w1.heap.size, (Ent.vals (Ent.mk l 5 t pt 0 0 chg0 ⟨#[]⟩))), (w.heap.size, (Ent.vals (Ent.mk l 5 t pt pp r c s)))] w) (by kernel_rfl) (St.drew HS5.out) (fun hHeld => ?_)
  have r15_1 := Lib.hid (RowAt.drew R5.out)
  refine wpAnyH_take (i := 0) (v := (.agg (Ent.arr (Ent.mk l 5 t pt 0 0 chg0 ⟨#[]⟩)))) rfl (by kernel_rfl) (by kernel_rfl) (by kernel_rfl) (fun _ _ _ h => h) (yieldsIf_load_mid (by rfl) 28 _ rfl w1.heap.size 0 rfl (Ent.vals (Ent.mk l 5 t pt 0 0 chg0 ⟨#[]⟩)) _ (fun W hSw => RowAt.range (St.row hSw (b := w1.heap.size) (vs := (Ent.vals (Ent.mk l 5 t pt 0 0 chg0 ⟨#[]⟩))) (by simp)) 0 (fun j v hv => by rw [Nat.zero_add]; exact hv)) Try.underlying28 rfl info_ent) (by assumption) ?_
  try simp only [Act.put, List.getElem_toArray, List.getElem_cons_zero, List.setIfInBounds_toArray, List.set_cons_zero, List.set_cons_succ]
  refine wpAnyH_take (i := 1) (v := ?_) rfl (by kernel_rfl) (by kernel_rfl) (by kernel_rfl) (fun _ _ _ h => h) (Or.inl ⟨by rfl, ?_⟩) (by assumption) ?_
  rotate_left
  · (intro W _; go_simp; try with_reducible rfl)
  try simp only [Act.put, List.getElem_toArray, List.getElem_cons_zero, List.getElem_cons_succ, List.setIfInBounds_toArray, List.set_cons_zero, List.set_cons_succ]
  refine wpAnyH_take (i := 2) (v := ?_) rfl (by kernel_rfl) (by kernel_rfl) (by kernel_rfl) (fun _ _ _ h => h) (Or.inl ⟨by rfl, ?_⟩) (by assumption) ?_
  rotate_left
  · (intro W hSw; have c0 := (St.row hSw (b := w.heap.size) (vs := (Ent.vals (Ent.mk l 5 t pt pp r c s))) (by simp)).cells 2 _ rfl; clear hSw; go_simp; try with_reducible rfl)
  try simp only [Act.put, List.getElem_toArray, List.getElem_cons_zero, List.getElem_cons_succ, List.setIfInBounds_toArray, List.set_cons_zero, List.set_cons_succ]
  refine wpAnyH_take (i := 3) (v := ?_) rfl (by kernel_rfl) (by kernel_rfl) (by kernel_rfl) (fun _ _ _ h => h) (Or.inl ⟨by rfl, ?_⟩) (by assumption) ?_
  rotate_left
  · (intro W _; go_simp; try with_reducible rfl)
  try simp only [Act.put, List.getElem_toArray, List.getElem_cons_zero, List.getElem_cons_succ, List.setIfInBounds_toArray, List.set_cons_zero, List.set_cons_succ]
  refine wpAnyH_take (i := 4) (v := ?_) rfl (by kernel_rfl) (by kernel_rfl) (by kernel_rfl) (fun _ _ _ h => h) (Or.inl ⟨by rfl, ?_⟩) (by assumption) ?_
  rotate_left
  · (intro W _; go_simp; try with_reducible rfl)
  try simp only [Act.put, List.getElem_toArray, List.getElem_cons_zero, List.getElem_cons_succ, List.setIfInBounds_toArray, List.set_cons_zero, List.set_cons_succ]
  refine wpAnyH_take (i := 5) (v := ?_) rfl (by kernel_rfl) (by kernel_rfl) (by kernel_rfl) (fun _ _ _ h => h) (Or.inl ⟨by rfl, ?_⟩) (by assumption) ?_
  rotate_left
  · (intro W _; go_simp; try with_reducible rfl)
  try simp only [Act.put, List.getElem_toArray, List.getElem_cons_zero, List.getElem_cons_succ, List.setIfInBounds_toArray, List.set_cons_zero, List.set_cons_succ]
  refine wpAnyH_take (i := 6) (v := ?_) rfl (by kernel_rfl) (by kernel_rfl) (by kernel_rfl) (fun _ _ _ h => h) (Or.inl ⟨by rfl, ?_⟩) (by assumption) ?_
  rotate_left
  · (intro W hSw; have c0 := (St.row hSw (b := w.heap.size) (vs := (Ent.vals (Ent.mk l 5 t pt pp r c s))) (by simp)).cells 2 _ rfl; clear hSw; go_simp; try with_reducible rfl)
  try simp only [Act.put, List.getElem_toArray, List.getElem_cons_zero, List.getElem_cons_succ, List.setIfInBounds_toArray, List.set_cons_zero, List.set_cons_succ]
  refine wpAnyH_take (i := 7) (v := ?_) rfl (by kernel_rfl) (by kernel_rfl) (by kernel_rfl) (fun _ _ _ h => h) (Or.inl ⟨by rfl, ?_⟩) (by assumption) ?_
  rotate_left
  · (intro W _; go_simp; try with_reducible rfl)
  try simp only [Act.put, List.getElem_toArray, List.getElem_cons_zero, List.getElem_cons_succ, List.setIfInBounds_toArray, List.set_cons_zero, List.set_cons_succ]
  refine wpAnyH_take (i := 8) (v := ?_) rfl (by kernel_rfl) (by kernel_rfl) (by kernel_rfl) (fun _ _ _ h => h) (Or.inl ⟨by rfl, ?_⟩) (by assumption) ?_
  rotate_left
  · (intro W _; go_simp; try with_reducible rfl)
  try simp only [Act.put, List.getElem_toArray, List.getElem_cons_zero, List.getElem_cons_succ, List.setIfInBounds_toArray, List.set_cons_zero, List.set_cons_succ]
  refine wpAnyH_take (i := 9) (v := ?_) rfl (by kernel_rfl) (by kernel_rfl) (by kernel_rfl) (fun _ _ _ h => h) (Or.inl ⟨by rfl, ?_⟩) (by assumption) ?_
  rotate_left
  · (intro W _; go_simp; try with_reducible rfl)
  try simp only [Act.put, List.getElem_toArray, List.getElem_cons_zero, List.getElem_cons_succ, List.setIfInBounds_toArray, List.set_cons_zero, List.set_cons_succ]
  refine wpAnyH_take (i := 10) (v := undef) rfl (by kernel_rfl) (by kernel_rfl) (by kernel_rfl) (fun _ _ _ h => h) (Or.inr ⟨by rfl, rfl⟩) (by assumption) ?_
  try simp only [Act.put, List.getElem_toArray, List.getElem_cons_zero, List.getElem_cons_succ, List.setIfInBounds_toArray, List.set_cons_zero, List.set_cons_succ]
  refine wpAnyH_take (i := 11) (v := undef) rfl (by kernel_rfl) (by kernel_rfl) (by kernel_rfl) (fun _ _ _ h => h) (Or.inr ⟨by rfl, rfl⟩) (by assumption) ?_
  try simp only [Act.put, List.getElem_toArray, List.getElem_cons_zero, List.getElem_cons_succ, List.setIfInBounds_toArray, List.set_cons_zero, List.set_cons_succ]
  refine wpAnyH_take (i := 12) (v := undef) rfl (by kernel_rfl) (by kernel_rfl) (by kernel_rfl) (fun _ _ _ h => h) (Or.inr ⟨by rfl, rfl⟩) (by assumption) ?_
  try simp only [Act.put, List.getElem_toArray, List.getElem_cons_zero, List.getElem_cons_succ, List.setIfInBounds_toArray, List.set_cons_zero, List.set_cons_succ]
  refine wpAnyH_take (i := 13) (v := ?_) rfl (by kernel_rfl) (by kernel_rfl) (by kernel_rfl) (fun _ _ _ h => h) (Or.inl ⟨by rfl, ?_⟩) (by assumption) ?_
  rotate_left
  · (intro W _; go_simp; try with_reducible rfl)
  try simp only [Act.put, List.getElem_toArray, List.getElem_cons_zero, List.getElem_cons_succ, List.setIfInBounds_toArray, List.set_cons_zero, List.set_cons_succ]
  refine wpAnyH_ready (rs := [14]) (by kernel_rfl) (by simp) (AllReadyH.cons rfl (fun K hK => ?_) AllReadyH.nil)
  simp only [List.getElem_toArray, List.getElem_cons_zero, List.getElem_cons_succ]
  rw [if_pos (by rfl)]
  with_reducible refine op_storeEnt (Ent.mk l 5 t pt 0 0 chg0 ⟨#[]⟩) r15_1.out (evals_length _) (by rfl) ?_ ?_ (fun W15_2 hP15_4 hS15_5 => ?_)
  · rfl
  · rfl
  have r15_6 : Hid (EnAt w0.heap.size (Ent.mk l 5 t pt 0 0 chg0 ⟨#[]⟩) W15_2) := Lib.hid hP15_4
  refine hK.out _ _ (St.stored hHeld (by simp; omega) (by omega) hS15_5) (fun hH15_3 => ?_)
  clear hK K
  simp only [Act.put, List.setIfInBounds_toArray, List.set_cons_zero, List.set_cons_succ]
  refine wpAnyH_take (i := 15) (v := ?_) rfl (by kernel_rfl) (by kernel_rfl) (by kernel_rfl) (fun _ _ _ h => h) (Or.inl ⟨by rfl, ?_⟩) (by assumption) ?_
  rotate_left
  · (intro W _; go_simp; try with_reducible rfl)
  try simp only [Act.put, List.getElem_toArray, List.getElem_cons_zero, List.getElem_cons_succ, List.setIfInBounds_toArray, List.set_cons_zero, List.set_cons_succ]
  refine wpAnyH_done (by kernel_rfl) ?_ _
  go_wp2
  exact bodyPost_ret (res_entE rfl rfl r15_6.out) rfl ⟨rfl, And.right hH15_3⟩

set_option maxRecDepth 4000 in
set_option maxHeartbeats 4000000 in
theorem shape5c (l t pt pp r : Int) (c : Chg) (s : ByteArray) (h1 : 1 ≤ t) (h2 : t ≤ 1073741824) (w : World) : Calls Try.prog 33 #[.agg (Ent.arr (Ent.mk l 5 t pt pp r c s))] w fun e' w' => e' = .returned (.tuple #[.agg (Ent.arr (Ent.mk l 5 t pt 0 0 chg0 ⟨#[]⟩)), .bool (decide (0 < pt))]) ∧ Below w.heap.size w w' := by
  have d1 : decide (1 ≤ t) = true := by simpa using h1
  have d2 : decide (t ≤ 1073741824) = true := by simpa using h2
  have hbd := build_ent2 l 5
  have HU : Hid True := Lib.hid trivial
  go_enter Try.func33, Try.ntmps33
  go_upto_region 14 with (first
    | (clear HU; refine wp_boxEntW (Ent.mk l 5 t pt pp r c s) rfl rfl rfl ?_; intro w0 hE hb0 z0; have E0 := Lib.hid hE; have HB0 := Lib.hid hb0; have G0 : Hid True := Lib.hid trivial; clear hE hb0)
    | (clear G0; refine wp_newEntW rfl rfl ?_; intro w1 hR hb1 z1; have R1 := Lib.hid hR; have E1 := Lib.hid (RowAt.keep E0.out hb1); have HB1 := Lib.hid (HB0.out.trans (hb1.mono HB0.out.size)); have G1 : Hid True := Lib.hid trivial; obtain ⟨a0, a1, a2, a3, a4, a5, a6, a7, a8, a9, a10, a11, a12⟩ := EnAt.all E1.out; simp only at a0 a1 a2 a3 a4 a5 a6 a7 a8 a9 a10 a11 a12; clear hR hb1 E0 HB0)
    | (clear G1; refine wp_newEntW rfl rfl ?_; intro w2 hO hb2 z2; have O2 := Lib.hid hO; have R2 := Lib.hid (RowAt.keep R1.out hb2); have E2 := Lib.hid (RowAt.keep E1.out hb2); have HB2 := Lib.hid (HB1.out.trans (hb2.mono HB1.out.size)); clear hO hb2 R1 E1 HB1 a0 a1 a2 a3 a4 a5 a6 a7 a8 a9 a10 a11 a12)
    | (clear hbd; refine wp_storeEntW (Ent.mk l 5 0 0 0 0 chg0 ⟨#[]⟩) O2.out (evals_length _) rfl rfl rfl rfl ?_; intro w3 hO hS; have O3 := Lib.hid hO; have R3 := Lib.hid (StoredAt.row hS R2.out (by omega)); have E3 := Lib.hid (StoredAt.row hS E2.out (by omega)); have HB3 := Lib.hid (StoredAt.below hS HB2.out (by omega)); clear hO hS O2 R2 E2 HB2; obtain ⟨a0, a1, a2, a3, a4, a5, a6, a7, a8, a9, a10, a11, a12⟩ := EnAt.all E3.out; simp only at a0 a1 a2 a3 a4 a5 a6 a7 a8 a9 a10 a11 a12))
  have HS3 := Lib.hid (St.add (st_nil (w := w) HB3.out) E3.out)
  clear a0 a1 a2 a3 a4 a5 a6 a7 a8 a9 a10 a11 a12 E3 HB3
  refine wp_region_held_drew (S := St [(w.heap.size, (Ent.vals (Ent.mk l 5 t pt pp r c s)))] w) (by kernel_rfl) (St.drew HS3.out) (fun hHeld => ?_)
  have r14_1 := Lib.hid (RowAt.drew O3.out)
  have r14_2 := Lib.hid (RowAt.drew R3.out)
  refine wpAnyH_take (i := 0) (v := ?_) rfl (by kernel_rfl) (by kernel_rfl) (by kernel_rfl) (fun _ _ _ h => h) (Or.inl ⟨by rfl, ?_⟩) (by assumption) ?_
  rotate_left
  · (intro W _; go_simp; try with_reducible rfl)
  try simp only [Act.put, List.getElem_toArray, List.getElem_cons_zero, List.setIfInBounds_toArray, List.set_cons_zero, List.set_cons_succ]
  refine wpAnyH_take (i := 1) (v := ?_) rfl (by kernel_rfl) (by kernel_rfl) (by kernel_rfl) (fun _ _ _ h => h) (Or.inl ⟨by rfl, ?_⟩) (by assumption) ?_
  rotate_left
  · (intro W hSw; have c0 := (St.row hSw (b := w.heap.size) (vs := (Ent.vals (Ent.mk l 5 t pt pp r c s))) (by simp)).cells 2 _ rfl; clear hSw; go_simp; try with_reducible rfl)
  try simp only [Act.put, List.getElem_toArray, List.getElem_cons_zero, List.getElem_cons_succ, List.setIfInBounds_toArray, List.set_cons_zero, List.set_cons_succ]
  refine wpAnyH_take (i := 2) (v := ?_) rfl (by kernel_rfl) (by kernel_rfl) (by kernel_rfl) (fun _ _ _ h => h) (Or.inl ⟨by rfl, ?_⟩) (by assumption) ?_
  rotate_left
  · (intro W _; go_simp; try with_reducible rfl)
  try simp only [Act.put, List.getElem_toArray, List.getElem_cons_zero, List.getElem_cons_succ, List.setIfInBounds_toArray, List.set_cons_zero, List.set_cons_succ]
  refine wpAnyH_take (i := 3) (v := ?_) rfl (by kernel_rfl) (by kernel_rfl) (by kernel_rfl) (fun _ _ _ h => h) (Or.inl ⟨by rfl, ?_⟩) (by assumption) ?_
  rotate_left
  · (intro W hSw; have c0 := (St.row hSw (b := w.heap.size) (vs := (Ent.vals (Ent.mk l 5 t pt pp r c s))) (by simp)).cells 3 _ rfl; clear hSw; go_simp; try with_reducible rfl)
  try simp only [Act.put, List.getElem_toArray, List.getElem_cons_zero, List.getElem_cons_succ, List.setIfInBounds_toArray, List.set_cons_zero, List.set_cons_succ]
  refine wpAnyH_take (i := 4) (v := ?_) rfl (by kernel_rfl) (by kernel_rfl) (by kernel_rfl) (fun _ _ _ h => h) (Or.inl ⟨by rfl, ?_⟩) (by assumption) ?_
  rotate_left
  · (intro W _; go_simp; try with_reducible rfl)
  try simp only [Act.put, List.getElem_toArray, List.getElem_cons_zero, List.getElem_cons_succ, List.setIfInBounds_toArray, List.set_cons_zero, List.set_cons_succ]
  refine wpAnyH_ready (rs := [5]) (by kernel_rfl) (by simp) (AllReadyH.cons rfl (fun K hK => ?_) AllReadyH.nil)
  simp only [List.getElem_toArray, List.getElem_cons_zero, List.getElem_cons_succ]
  rw [if_pos (by rfl)]
  with_reducible refine op_storeField 3 (.int .i64 t) rfl rfl info_int1 r14_1.out (show 2 < 13 by decide) (by rfl) ?_ ?_ (fun W14_3 hP14_5 hS14_6 => ?_)
  · rfl
  · rfl
  have r14_7 : Hid (EnAt w1.heap.size (Ent.mk l 5 t 0 0 0 chg0 ⟨#[]⟩) W14_3) := Lib.hid hP14_5
  have r14_8 := Lib.hid (StoredAt.row hS14_6 r14_2.out (by omega))
  refine hK.out _ _ (St.stored hHeld (by simp; omega) (by omega) hS14_6) (fun hH14_4 => ?_)
  clear hK K
  simp only [Act.put, List.setIfInBounds_toArray, List.set_cons_zero, List.set_cons_succ]
  refine wpAnyH_take (i := 6) (v := ?_) rfl (by kernel_rfl) (by kernel_rfl) (by kernel_rfl) (fun _ _ _ h => h) (Or.inl ⟨by rfl, ?_⟩) (by assumption) ?_
  rotate_left
  · (intro W _; go_simp; try with_reducible rfl)
  try simp only [Act.put, List.getElem_toArray, List.getElem_cons_zero, List.getElem_cons_succ, List.setIfInBounds_toArray, List.set_cons_zero, List.set_cons_succ]
  refine wpAnyH_ready (rs := [7]) (by kernel_rfl) (by simp) (AllReadyH.cons rfl (fun K hK => ?_) AllReadyH.nil)
  simp only [List.getElem_toArray, List.getElem_cons_zero, List.getElem_cons_succ]
  rw [if_pos (by rfl)]
  with_reducible refine op_storeField 3 (.int .i64 pt) rfl rfl info_int1 r14_7.out (show 3 < 13 by decide) (by rfl) ?_ ?_ (fun W14_9 hP14_11 hS14_12 => ?_)
  · rfl
  · rfl
  have r14_13 : Hid (EnAt w1.heap.size (Ent.mk l 5 t pt 0 0 chg0 ⟨#[]⟩) W14_9) := Lib.hid hP14_11
  have r14_14 := Lib.hid (StoredAt.row hS14_12 r14_8.out (by omega))
  refine hK.out _ _ (St.stored hH14_4 (by simp; omega) (by omega) hS14_12) (fun hH14_10 => ?_)
  clear hK K
  simp only [Act.put, List.setIfInBounds_toArray, List.set_cons_zero, List.set_cons_succ]
  refine wpAnyH_done (by kernel_rfl) ?_ _
  have E5 := Lib.hid (St.row hH14_10 (b := w.heap.size) (vs := Ent.vals (Ent.mk l 5 t pt pp r c s)) (by simp))
  have HB5 := Lib.hid (And.right hH14_10)
  have O5 := Lib.hid r14_13.out
  have R5 := Lib.hid r14_14.out
  obtain ⟨a0, a1, a2, a3, a4, a5, a6, a7, a8, a9, a10, a11, a12⟩ := EnAt.all E5.out
  simp only at a0 a1 a2 a3 a4 a5 a6 a7 a8 a9 a10 a11 a12
  go_upto_region 15 with (fail)
  have HS5 := Lib.hid (St.add (St.add (st_nil (w := w) HB5.out) E5.out) O5.out)
  clear a0 a1 a2 a3 a4 a5 a6 a7 a8 a9 a10 a11 a12
  refine wp_region_held_drew (S := St [(w1.heap.size, (Ent.vals (Ent.mk l 5 t pt 0 0 chg0 ⟨#[]⟩))), (w.heap.size, (Ent.vals (Ent.mk l 5 t pt pp r c s)))] w) (by kernel_rfl) (St.drew HS5.out) (fun hHeld => ?_)
  have r15_1 := Lib.hid (RowAt.drew R5.out)
  refine wpAnyH_take (i := 0) (v := (.agg (Ent.arr (Ent.mk l 5 t pt 0 0 chg0 ⟨#[]⟩)))) rfl (by kernel_rfl) (by kernel_rfl) (by kernel_rfl) (fun _ _ _ h => h) (yieldsIf_load_mid (by rfl) 28 _ rfl w1.heap.size 0 rfl (Ent.vals (Ent.mk l 5 t pt 0 0 chg0 ⟨#[]⟩)) _ (fun W hSw => RowAt.range (St.row hSw (b := w1.heap.size) (vs := (Ent.vals (Ent.mk l 5 t pt 0 0 chg0 ⟨#[]⟩))) (by simp)) 0 (fun j v hv => by rw [Nat.zero_add]; exact hv)) Try.underlying28 rfl info_ent) (by assumption) ?_
  try simp only [Act.put, List.getElem_toArray, List.getElem_cons_zero, List.setIfInBounds_toArray, List.set_cons_zero, List.set_cons_succ]
  refine wpAnyH_take (i := 1) (v := ?_) rfl (by kernel_rfl) (by kernel_rfl) (by kernel_rfl) (fun _ _ _ h => h) (Or.inl ⟨by rfl, ?_⟩) (by assumption) ?_
  rotate_left
  · (intro W _; go_simp; try with_reducible rfl)
  try simp only [Act.put, List.getElem_toArray, List.getElem_cons_zero, List.getElem_cons_succ, List.setIfInBounds_toArray, List.set_cons_zero, List.set_cons_succ]
  refine wpAnyH_take (i := 2) (v := ?_) rfl (by kernel_rfl) (by kernel_rfl) (by kernel_rfl) (fun _ _ _ h => h) (Or.inl ⟨by rfl, ?_⟩) (by assumption) ?_
  rotate_left
  · (intro W hSw; have c0 := (St.row hSw (b := w.heap.size) (vs := (Ent.vals (Ent.mk l 5 t pt pp r c s))) (by simp)).cells 2 _ rfl; clear hSw; go_simp; try with_reducible rfl)
  try simp only [Act.put, List.getElem_toArray, List.getElem_cons_zero, List.getElem_cons_succ, List.setIfInBounds_toArray, List.set_cons_zero, List.set_cons_succ]
  refine wpAnyH_take (i := 3) (v := ?_) rfl (by kernel_rfl) (by kernel_rfl) (by kernel_rfl) (fun _ _ _ h => h) (Or.inl ⟨by rfl, ?_⟩) (by assumption) ?_
  rotate_left
  · (intro W _; go_simp; try with_reducible rfl)
  try simp only [Act.put, List.getElem_toArray, List.getElem_cons_zero, List.getElem_cons_succ, List.setIfInBounds_toArray, List.set_cons_zero, List.set_cons_succ]
  refine wpAnyH_take (i := 4) (v := ?_) rfl (by kernel_rfl) (by kernel_rfl) (by kernel_rfl) (fun _ _ _ h => h) (Or.inl ⟨by rfl, ?_⟩) (by assumption) ?_
  rotate_left
  · (intro W _; go_simp; try with_reducible rfl)
  try simp only [Act.put, List.getElem_toArray, List.getElem_cons_zero, List.getElem_cons_succ, List.setIfInBounds_toArray, List.set_cons_zero, List.set_cons_succ]
  refine wpAnyH_take (i := 5) (v := ?_) rfl (by kernel_rfl) (by kernel_rfl) (by kernel_rfl) (fun _ _ _ h => h) (Or.inl ⟨by rfl, ?_⟩) (by assumption) ?_
  rotate_left
  · (intro W _; go_simp; try with_reducible rfl)
  try simp only [Act.put, List.getElem_toArray, List.getElem_cons_zero, List.getElem_cons_succ, List.setIfInBounds_toArray, List.set_cons_zero, List.set_cons_succ]
  refine wpAnyH_take (i := 6) (v := ?_) rfl (by kernel_rfl) (by kernel_rfl) (by kernel_rfl) (fun _ _ _ h => h) (Or.inl ⟨by rfl, ?_⟩) (by assumption) ?_
  rotate_left
  · (intro W hSw; have c0 := (St.row hSw (b := w.heap.size) (vs := (Ent.vals (Ent.mk l 5 t pt pp r c s))) (by simp)).cells 2 _ rfl; clear hSw; go_simp; try with_reducible rfl)
  try simp only [Act.put, List.getElem_toArray, List.getElem_cons_zero, List.getElem_cons_succ, List.setIfInBounds_toArray, List.set_cons_zero, List.set_cons_succ]
  refine wpAnyH_take (i := 7) (v := ?_) rfl (by kernel_rfl) (by kernel_rfl) (by kernel_rfl) (fun _ _ _ h => h) (Or.inl ⟨by rfl, ?_⟩) (by assumption) ?_
  rotate_left
  · (intro W _; go_simp; try with_reducible rfl)
  try simp only [Act.put, List.getElem_toArray, List.getElem_cons_zero, List.getElem_cons_succ, List.setIfInBounds_toArray, List.set_cons_zero, List.set_cons_succ]
  refine wpAnyH_take (i := 8) (v := ?_) rfl (by kernel_rfl) (by kernel_rfl) (by kernel_rfl) (fun _ _ _ h => h) (Or.inl ⟨by rfl, ?_⟩) (by assumption) ?_
  rotate_left
  · (intro W _; go_simp; try with_reducible rfl)
  try simp only [Act.put, List.getElem_toArray, List.getElem_cons_zero, List.getElem_cons_succ, List.setIfInBounds_toArray, List.set_cons_zero, List.set_cons_succ]
  refine wpAnyH_take (i := 9) (v := ?_) rfl (by kernel_rfl) (by kernel_rfl) (by kernel_rfl) (fun _ _ _ h => h) (Or.inl ⟨by rfl, ?_⟩) (by assumption) ?_
  rotate_left
  · (intro W _; go_simp; try with_reducible rfl)
  try simp only [Act.put, List.getElem_toArray, List.getElem_cons_zero, List.getElem_cons_succ, List.setIfInBounds_toArray, List.set_cons_zero, List.set_cons_succ]
  refine wpAnyH_take (i := 10) (v := ?_) rfl (by kernel_rfl) (by kernel_rfl) (by kernel_rfl) (fun _ _ _ h => h) (Or.inl ⟨by rfl, ?_⟩) (by assumption) ?_
  rotate_left
  · (intro W _; go_simp; try with_reducible rfl)
  try simp only [Act.put, List.getElem_toArray, List.getElem_cons_zero, List.getElem_cons_succ, List.setIfInBounds_toArray, List.set_cons_zero, List.set_cons_succ]
  refine wpAnyH_take (i := 11) (v := ?_) rfl (by kernel_rfl) (by kernel_rfl) (by kernel_rfl) (fun _ _ _ h => h) (Or.inl ⟨by rfl, ?_⟩) (by assumption) ?_
  rotate_left
  · (intro W hSw; have c0 := (St.row hSw (b := w.heap.size) (vs := (Ent.vals (Ent.mk l 5 t pt pp r c s))) (by simp)).cells 3 _ rfl; clear hSw; go_simp; try with_reducible rfl)
  try simp only [Act.put, List.getElem_toArray, List.getElem_cons_zero, List.getElem_cons_succ, List.setIfInBounds_toArray, List.set_cons_zero, List.set_cons_succ]
  refine wpAnyH_take (i := 12) (v := ?_) rfl (by kernel_rfl) (by kernel_rfl) (by kernel_rfl) (fun _ _ _ h => h) (Or.inl ⟨by rfl, ?_⟩) (by assumption) ?_
  rotate_left
  · (intro W _; go_simp; try with_reducible rfl)
  try simp only [Act.put, List.getElem_toArray, List.getElem_cons_zero, List.getElem_cons_succ, List.setIfInBounds_toArray, List.set_cons_zero, List.set_cons_succ]
  refine wpAnyH_take (i := 13) (v := ?_) rfl (by kernel_rfl) (by kernel_rfl) (by kernel_rfl) (fun _ _ _ h => h) (Or.inl ⟨by rfl, ?_⟩) (by assumption) ?_
  rotate_left
  · (intro W _; go_simp; try with_reducible rfl)
  try simp only [Act.put, List.getElem_toArray, List.getElem_cons_zero, List.getElem_cons_succ, List.setIfInBounds_toArray, List.set_cons_zero, List.set_cons_succ]
  refine wpAnyH_ready (rs := [14]) (by kernel_rfl) (by simp) (AllReadyH.cons rfl (fun K hK => ?_) AllReadyH.nil)
  simp only [List.getElem_toArray, List.getElem_cons_zero, List.getElem_cons_succ]
  rw [if_pos (by rfl)]
  with_reducible refine op_storeEnt (Ent.mk l 5 t pt 0 0 chg0 ⟨#[]⟩) r15_1.out (evals_length _) (by rfl) ?_ ?_ (fun W15_2 hP15_4 hS15_5 => ?_)
  · rfl
  · rfl
  have r15_6 : Hid (EnAt w0.heap.size (Ent.mk l 5 t pt 0 0 chg0 ⟨#[]⟩) W15_2) := Lib.hid hP15_4
  refine hK.out _ _ (St.stored hHeld (by simp; omega) (by omega) hS15_5) (fun hH15_3 => ?_)
  clear hK K
  simp only [Act.put, List.setIfInBounds_toArray, List.set_cons_zero, List.set_cons_succ]
  refine wpAnyH_take (i := 15) (v := ?_) rfl (by kernel_rfl) (by kernel_rfl) (by kernel_rfl) (fun _ _ _ h => h) (Or.inl ⟨by rfl, ?_⟩) (by assumption) ?_
  rotate_left
  · (intro W _; go_simp; try with_reducible rfl)
  try simp only [Act.put, List.getElem_toArray, List.getElem_cons_zero, List.getElem_cons_succ, List.setIfInBounds_toArray, List.set_cons_zero, List.set_cons_succ]
  refine wpAnyH_done (by kernel_rfl) ?_ _
  go_wp2
  exact bodyPost_ret (res_entE rfl rfl r15_6.out) rfl ⟨rfl, And.right hH15_3⟩

set_option maxRecDepth 4000 in
set_option maxHeartbeats 4000000 in
theorem shape6 (l t pt pp r : Int) (c : Chg) (s : ByteArray)  (w : World) : Calls Try.prog 33 #[.agg (Ent.arr (Ent.mk l 6 t pt pp r c s))] w fun e' w' => e' = .returned (.tuple #[.agg (Ent.arr (Ent.mk l 6 0 0 0 0 chg0 s)), .bool (decide ((s.size : Int) ≤ 8192))]) ∧ Below w.heap.size w w' := by
  have hbd := build_ent2 l 6
  have HU : Hid True := Lib.hid trivial
  go_enter Try.func33, Try.ntmps33
  go_upto_region 19 with (first
    | (clear HU; refine wp_boxEntW (Ent.mk l 6 t pt pp r c s) rfl rfl rfl ?_; intro w0 hE hb0 z0; have E0 := Lib.hid hE; have HB0 := Lib.hid hb0; have G0 : Hid True := Lib.hid trivial; clear hE hb0)
    | (clear G0; refine wp_newEntW rfl rfl ?_; intro w1 hR hb1 z1; have R1 := Lib.hid hR; have E1 := Lib.hid (RowAt.keep E0.out hb1); have HB1 := Lib.hid (HB0.out.trans (hb1.mono HB0.out.size)); have G1 : Hid True := Lib.hid trivial; obtain ⟨a0, a1, a2, a3, a4, a5, a6, a7, a8, a9, a10, a11, a12⟩ := EnAt.all E1.out; simp only at a0 a1 a2 a3 a4 a5 a6 a7 a8 a9 a10 a11 a12; clear hR hb1 E0 HB0)
    | (clear G1; refine wp_newEntW rfl rfl ?_; intro w2 hO hb2 z2; have O2 := Lib.hid hO; have R2 := Lib.hid (RowAt.keep R1.out hb2); have E2 := Lib.hid (RowAt.keep E1.out hb2); have HB2 := Lib.hid (HB1.out.trans (hb2.mono HB1.out.size)); clear hO hb2 R1 E1 HB1 a0 a1 a2 a3 a4 a5 a6 a7 a8 a9 a10 a11 a12)
    | (clear hbd; refine wp_storeEntW (Ent.mk l 6 0 0 0 0 chg0 ⟨#[]⟩) O2.out (evals_length _) rfl rfl rfl rfl ?_; intro w3 hO hS; have O3 := Lib.hid hO; have R3 := Lib.hid (StoredAt.row hS R2.out (by omega)); have E3 := Lib.hid (StoredAt.row hS E2.out (by omega)); have HB3 := Lib.hid (StoredAt.below hS HB2.out (by omega)); clear hO hS O2 R2 E2 HB2; obtain ⟨a0, a1, a2, a3, a4, a5, a6, a7, a8, a9, a10, a11, a12⟩ := EnAt.all E3.out; simp only at a0 a1 a2 a3 a4 a5 a6 a7 a8 a9 a10 a11 a12)
    | (refine wp_storeFieldW 9 (.string s) rfl rfl info_string1 O3.out (show 12 < 13 by decide) rfl rfl rfl rfl ?_; intro w7 hO hS; have O7 : Hid (EnAt w1.heap.size (Ent.mk l 6 0 0 0 0 chg0 s) w7) := Lib.hid hO; have R7 := Lib.hid (StoredAt.row hS R3.out (by omega)); have E7 := Lib.hid (StoredAt.row hS E3.out (by omega)); have HB7 := Lib.hid (StoredAt.below hS HB3.out (by omega)); clear hO hS O3 R3 E3 HB3 a0 a1 a2 a3 a4 a5 a6 a7 a8 a9 a10 a11 a12; obtain ⟨a0, a1, a2, a3, a4, a5, a6, a7, a8, a9, a10, a11, a12⟩ := EnAt.all E7.out; simp only at a0 a1 a2 a3 a4 a5 a6 a7 a8 a9 a10 a11 a12))
  have HS7 := Lib.hid (St.add (St.add (st_nil (w := w) HB7.out) E7.out) O7.out)
  clear a0 a1 a2 a3 a4 a5 a6 a7 a8 a9 a10 a11 a12
  refine wp_region_held_drew (S := St [(w1.heap.size, (Ent.vals (Ent.mk l 6 0 0 0 0 chg0 s))), (w.heap.size, (Ent.vals (Ent.mk l 6 t pt pp r c s)))] w) (by kernel_rfl) (St.drew HS7.out) (fun hHeld => ?_)
  have r19_1 := Lib.hid (RowAt.drew R7.out)
  refine wpAnyH_take (i := 0) (v := (.agg (Ent.arr (Ent.mk l 6 0 0 0 0 chg0 s)))) rfl (by kernel_rfl) (by kernel_rfl) (by kernel_rfl) (fun _ _ _ h => h) (yieldsIf_load_mid (by rfl) 28 _ rfl w1.heap.size 0 rfl (Ent.vals (Ent.mk l 6 0 0 0 0 chg0 s)) _ (fun W hSw => RowAt.range (St.row hSw (b := w1.heap.size) (vs := (Ent.vals (Ent.mk l 6 0 0 0 0 chg0 s))) (by simp)) 0 (fun j v hv => by rw [Nat.zero_add]; exact hv)) Try.underlying28 rfl info_ent) (by assumption) ?_
  try simp only [Act.put, List.getElem_toArray, List.getElem_cons_zero, List.setIfInBounds_toArray, List.set_cons_zero, List.set_cons_succ]
  refine wpAnyH_take (i := 1) (v := ?_) rfl (by kernel_rfl) (by kernel_rfl) (by kernel_rfl) (fun _ _ _ h => h) (Or.inl ⟨by rfl, ?_⟩) (by assumption) ?_
  rotate_left
  · (intro W _; go_simp; try with_reducible rfl)
  try simp only [Act.put, List.getElem_toArray, List.getElem_cons_zero, List.getElem_cons_succ, List.setIfInBounds_toArray, List.set_cons_zero, List.set_cons_succ]
  refine wpAnyH_take (i := 2) (v := ?_) rfl (by kernel_rfl) (by kernel_rfl) (by kernel_rfl) (fun _ _ _ h => h) (Or.inl ⟨by rfl, ?_⟩) (by assumption) ?_
  rotate_left
  · (intro W hSw; have c0 := (St.row hSw (b := w.heap.size) (vs := (Ent.vals (Ent.mk l 6 t pt pp r c s))) (by simp)).cells 12 _ rfl; clear hSw; go_simp; try with_reducible rfl)
  try simp only [Act.put, List.getElem_toArray, List.getElem_cons_zero, List.getElem_cons_succ, List.setIfInBounds_toArray, List.set_cons_zero, List.set_cons_succ]
  refine wpAnyH_take (i := 3) (v := ?_) rfl (by kernel_rfl) (by kernel_rfl) (by kernel_rfl) (fun _ _ _ h => h) (Or.inl ⟨by rfl, ?_⟩) (by assumption) ?_
  rotate_left
  · (intro W _; go_simp; try with_reducible rfl)
  try simp only [Act.put, List.getElem_toArray, List.getElem_cons_zero, List.getElem_cons_succ, List.setIfInBounds_toArray, List.set_cons_zero, List.set_cons_succ]
  refine wpAnyH_take (i := 4) (v := ?_) rfl (by kernel_rfl) (by kernel_rfl) (by kernel_rfl) (fun _ _ _ h => h) (Or.inl ⟨by rfl, ?_⟩) (by assumption) ?_
  rotate_left
  · (intro W _; go_simp; try with_reducible rfl)
  try simp only [Act.put, List.getElem_toArray, List.getElem_cons_zero, List.getElem_cons_succ, List.setIfInBounds_toArray, List.set_cons_zero, List.set_cons_succ]
  refine wpAnyH_ready (rs := [5]) (by kernel_rfl) (by simp) (AllReadyH.cons rfl (fun K hK => ?_) AllReadyH.nil)
  simp only [List.getElem_toArray, List.getElem_cons_zero, List.getElem_cons_succ]
  rw [if_pos (by rfl)]
  with_reducible refine op_storeEnt (Ent.mk l 6 0 0 0 0 chg0 s) r19_1.out (evals_length _) (by rfl) ?_ ?_ (fun W19_2 hP19_4 hS19_5 => ?_)
  · rfl
  · rfl
  have r19_6 : Hid (EnAt w0.heap.size (Ent.mk l 6 0 0 0 0 chg0 s) W19_2) := Lib.hid hP19_4
  refine hK.out _ _ (St.stored hHeld (by simp; omega) (by omega) hS19_5) (fun hH19_3 => ?_)
  clear hK K
  simp only [Act.put, List.setIfInBounds_toArray, List.set_cons_zero, List.set_cons_succ]
  refine wpAnyH_take (i := 6) (v := ?_) rfl (by kernel_rfl) (by kernel_rfl) (by kernel_rfl) (fun _ _ _ h => h) (Or.inl ⟨by rfl, ?_⟩) (by assumption) ?_
  rotate_left
  · (intro W _; go_simp; try with_reducible rfl)
  try simp only [Act.put, List.getElem_toArray, List.getElem_cons_zero, List.getElem_cons_succ, List.setIfInBounds_toArray, List.set_cons_zero, List.set_cons_succ]
  refine wpAnyH_done (by kernel_rfl) ?_ _
  go_wp2
  exact bodyPost_ret (res_entE rfl rfl r19_6.out) rfl ⟨rfl, And.right hH19_3⟩

set_option maxRecDepth 4000 in
set_option maxHeartbeats 4000000 in
theorem shape8 (l t pt pp r : Int) (c : Chg) (s : ByteArray)  (w : World) : Calls Try.prog 33 #[.agg (Ent.arr (Ent.mk l 8 t pt pp r c s))] w fun e' w' => e' = .returned (.tuple #[.agg (Ent.arr (Ent.mk l 8 0 0 0 0 chg0 s)), .bool (decide ((s.size : Int) ≤ 8192))]) ∧ Below w.heap.size w w' := by
  have hbd := build_ent2 l 8
  have HU : Hid True := Lib.hid trivial
  go_enter Try.func33, Try.ntmps33
  go_upto_region 19 with (first
    | (clear HU; refine wp_boxEntW (Ent.mk l 8 t pt pp r c s) rfl rfl rfl ?_; intro w0 hE hb0 z0; have E0 := Lib.hid hE; have HB0 := Lib.hid hb0; have G0 : Hid True := Lib.hid trivial; clear hE hb0)
    | (clear G0; refine wp_newEntW rfl rfl ?_; intro w1 hR hb1 z1; have R1 := Lib.hid hR; have E1 := Lib.hid (RowAt.keep E0.out hb1); have HB1 := Lib.hid (HB0.out.trans (hb1.mono HB0.out.size)); have G1 : Hid True := Lib.hid trivial; obtain ⟨a0, a1, a2, a3, a4, a5, a6, a7, a8, a9, a10, a11, a12⟩ := EnAt.all E1.out; simp only at a0 a1 a2 a3 a4 a5 a6 a7 a8 a9 a10 a11 a12; clear hR hb1 E0 HB0)
    | (clear G1; refine wp_newEntW rfl rfl ?_; intro w2 hO hb2 z2; have O2 := Lib.hid hO; have R2 := Lib.hid (RowAt.keep R1.out hb2); have E2 := Lib.hid (RowAt.keep E1.out hb2); have HB2 := Lib.hid (HB1.out.trans (hb2.mono HB1.out.size)); clear hO hb2 R1 E1 HB1 a0 a1 a2 a3 a4 a5 a6 a7 a8 a9 a10 a11 a12)
    | (clear hbd; refine wp_storeEntW (Ent.mk l 8 0 0 0 0 chg0 ⟨#[]⟩) O2.out (evals_length _) rfl rfl rfl rfl ?_; intro w3 hO hS; have O3 := Lib.hid hO; have R3 := Lib.hid (StoredAt.row hS R2.out (by omega)); have E3 := Lib.hid (StoredAt.row hS E2.out (by omega)); have HB3 := Lib.hid (StoredAt.below hS HB2.out (by omega)); clear hO hS O2 R2 E2 HB2; obtain ⟨a0, a1, a2, a3, a4, a5, a6, a7, a8, a9, a10, a11, a12⟩ := EnAt.all E3.out; simp only at a0 a1 a2 a3 a4 a5 a6 a7 a8 a9 a10 a11 a12)
    | (refine wp_storeFieldW 9 (.string s) rfl rfl info_string1 O3.out (show 12 < 13 by decide) rfl rfl rfl rfl ?_; intro w7 hO hS; have O7 : Hid (EnAt w1.heap.size (Ent.mk l 8 0 0 0 0 chg0 s) w7) := Lib.hid hO; have R7 := Lib.hid (StoredAt.row hS R3.out (by omega)); have E7 := Lib.hid (StoredAt.row hS E3.out (by omega)); have HB7 := Lib.hid (StoredAt.below hS HB3.out (by omega)); clear hO hS O3 R3 E3 HB3 a0 a1 a2 a3 a4 a5 a6 a7 a8 a9 a10 a11 a12; obtain ⟨a0, a1, a2, a3, a4, a5, a6, a7, a8, a9, a10, a11, a12⟩ := EnAt.all E7.out; simp only at a0 a1 a2 a3 a4 a5 a6 a7 a8 a9 a10 a11 a12))
  have HS7 := Lib.hid (St.add (St.add (st_nil (w := w) HB7.out) E7.out) O7.out)
  clear a0 a1 a2 a3 a4 a5 a6 a7 a8 a9 a10 a11 a12
  refine wp_region_held_drew (S := St [(w1.heap.size, (Ent.vals (Ent.mk l 8 0 0 0 0 chg0 s))), (w.heap.size, (Ent.vals (Ent.mk l 8 t pt pp r c s)))] w) (by kernel_rfl) (St.drew HS7.out) (fun hHeld => ?_)
  have r19_1 := Lib.hid (RowAt.drew R7.out)
  refine wpAnyH_take (i := 0) (v := (.agg (Ent.arr (Ent.mk l 8 0 0 0 0 chg0 s)))) rfl (by kernel_rfl) (by kernel_rfl) (by kernel_rfl) (fun _ _ _ h => h) (yieldsIf_load_mid (by rfl) 28 _ rfl w1.heap.size 0 rfl (Ent.vals (Ent.mk l 8 0 0 0 0 chg0 s)) _ (fun W hSw => RowAt.range (St.row hSw (b := w1.heap.size) (vs := (Ent.vals (Ent.mk l 8 0 0 0 0 chg0 s))) (by simp)) 0 (fun j v hv => by rw [Nat.zero_add]; exact hv)) Try.underlying28 rfl info_ent) (by assumption) ?_
  try simp only [Act.put, List.getElem_toArray, List.getElem_cons_zero, List.setIfInBounds_toArray, List.set_cons_zero, List.set_cons_succ]
  refine wpAnyH_take (i := 1) (v := ?_) rfl (by kernel_rfl) (by kernel_rfl) (by kernel_rfl) (fun _ _ _ h => h) (Or.inl ⟨by rfl, ?_⟩) (by assumption) ?_
  rotate_left
  · (intro W _; go_simp; try with_reducible rfl)
  try simp only [Act.put, List.getElem_toArray, List.getElem_cons_zero, List.getElem_cons_succ, List.setIfInBounds_toArray, List.set_cons_zero, List.set_cons_succ]
  refine wpAnyH_take (i := 2) (v := ?_) rfl (by kernel_rfl) (by kernel_rfl) (by kernel_rfl) (fun _ _ _ h => h) (Or.inl ⟨by rfl, ?_⟩) (by assumption) ?_
  rotate_left
  · (intro W hSw; have c0 := (St.row hSw (b := w.heap.size) (vs := (Ent.vals (Ent.mk l 8 t pt pp r c s))) (by simp)).cells 12 _ rfl; clear hSw; go_simp; try with_reducible rfl)
  try simp only [Act.put, List.getElem_toArray, List.getElem_cons_zero, List.getElem_cons_succ, List.setIfInBounds_toArray, List.set_cons_zero, List.set_cons_succ]
  refine wpAnyH_take (i := 3) (v := ?_) rfl (by kernel_rfl) (by kernel_rfl) (by kernel_rfl) (fun _ _ _ h => h) (Or.inl ⟨by rfl, ?_⟩) (by assumption) ?_
  rotate_left
  · (intro W _; go_simp; try with_reducible rfl)
  try simp only [Act.put, List.getElem_toArray, List.getElem_cons_zero, List.getElem_cons_succ, List.setIfInBounds_toArray, List.set_cons_zero, List.set_cons_succ]
  refine wpAnyH_take (i := 4) (v := ?_) rfl (by kernel_rfl) (by kernel_rfl) (by kernel_rfl) (fun _ _ _ h => h) (Or.inl ⟨by rfl, ?_⟩) (by assumption) ?_
  rotate_left
  · (intro W _; go_simp; try with_reducible rfl)
  try simp only [Act.put, List.getElem_toArray, List.getElem_cons_zero, List.getElem_cons_succ, List.setIfInBounds_toArray, List.set_cons_zero, List.set_cons_succ]
  refine wpAnyH_ready (rs := [5]) (by kernel_rfl) (by simp) (AllReadyH.cons rfl (fun K hK => ?_) AllReadyH.nil)
  simp only [List.getElem_toArray, List.getElem_cons_zero, List.getElem_cons_succ]
  rw [if_pos (by rfl)]
  with_reducible refine op_storeEnt (Ent.mk l 8 0 0 0 0 chg0 s) r19_1.out (evals_length _) (by rfl) ?_ ?_ (fun W19_2 hP19_4 hS19_5 => ?_)
  · rfl
  · rfl
  have r19_6 : Hid (EnAt w0.heap.size (Ent.mk l 8 0 0 0 0 chg0 s) W19_2) := Lib.hid hP19_4
  refine hK.out _ _ (St.stored hHeld (by simp; omega) (by omega) hS19_5) (fun hH19_3 => ?_)
  clear hK K
  simp only [Act.put, List.setIfInBounds_toArray, List.set_cons_zero, List.set_cons_succ]
  refine wpAnyH_take (i := 6) (v := ?_) rfl (by kernel_rfl) (by kernel_rfl) (by kernel_rfl) (fun _ _ _ h => h) (Or.inl ⟨by rfl, ?_⟩) (by assumption) ?_
  rotate_left
  · (intro W _; go_simp; try with_reducible rfl)
  try simp only [Act.put, List.getElem_toArray, List.getElem_cons_zero, List.getElem_cons_succ, List.setIfInBounds_toArray, List.set_cons_zero, List.set_cons_succ]
  refine wpAnyH_done (by kernel_rfl) ?_ _
  go_wp2
  exact bodyPost_ret (res_entE rfl rfl r19_6.out) rfl ⟨rfl, And.right hH19_3⟩

set_option maxRecDepth 4000 in
set_option maxHeartbeats 4000000 in
theorem shape7a (l t pt pp r : Int) (c : Chg) (s : ByteArray) (h1 : ¬ 0 ≤ c.page) (w : World) : Calls Try.prog 33 #[.agg (Ent.arr (Ent.mk l 7 t pt pp r c s))] w fun e' w' => e' = .returned (.tuple #[.agg (Ent.arr (Ent.mk l 7 0 0 0 r ⟨c.page, 0, noCell, noCell⟩ ⟨#[]⟩)), .bool false]) ∧ Below w.heap.size w w' := by
  have d1 : decide (0 ≤ c.page) = false := by simpa using h1
  have hbd := build_ent2 l 7
  have HU : Hid True := Lib.hid trivial
  go_enter Try.func33, Try.ntmps33
  go_upto_region 21 with (first
    | (clear HU; refine wp_boxEntW (Ent.mk l 7 t pt pp r c s) rfl rfl rfl ?_; intro w0 hE hb0 z0; have E0 := Lib.hid hE; have HB0 := Lib.hid hb0; have G0 : Hid True := Lib.hid trivial; clear hE hb0)
    | (clear G0; refine wp_newEntW rfl rfl ?_; intro w1 hR hb1 z1; have R1 := Lib.hid hR; have E1 := Lib.hid (RowAt.keep E0.out hb1); have HB1 := Lib.hid (HB0.out.trans (hb1.mono HB0.out.size)); have G1 : Hid True := Lib.hid trivial; obtain ⟨a0, a1, a2, a3, a4, a5, a6, a7, a8, a9, a10, a11, a12⟩ := EnAt.all E1.out; simp only at a0 a1 a2 a3 a4 a5 a6 a7 a8 a9 a10 a11 a12; clear hR hb1 E0 HB0)
    | (clear G1; refine wp_newEntW rfl rfl ?_; intro w2 hO hb2 z2; have O2 := Lib.hid hO; have R2 := Lib.hid (RowAt.keep R1.out hb2); have E2 := Lib.hid (RowAt.keep E1.out hb2); have HB2 := Lib.hid (HB1.out.trans (hb2.mono HB1.out.size)); clear hO hb2 R1 E1 HB1 a0 a1 a2 a3 a4 a5 a6 a7 a8 a9 a10 a11 a12)
    | (clear hbd; refine wp_storeEntW (Ent.mk l 7 0 0 0 0 chg0 ⟨#[]⟩) O2.out (evals_length _) rfl rfl rfl rfl ?_; intro w3 hO hS; have O3 := Lib.hid hO; have R3 := Lib.hid (StoredAt.row hS R2.out (by omega)); have E3 := Lib.hid (StoredAt.row hS E2.out (by omega)); have HB3 := Lib.hid (StoredAt.below hS HB2.out (by omega)); clear hO hS O2 R2 E2 HB2; obtain ⟨a0, a1, a2, a3, a4, a5, a6, a7, a8, a9, a10, a11, a12⟩ := EnAt.all E3.out; simp only at a0 a1 a2 a3 a4 a5 a6 a7 a8 a9 a10 a11 a12))
  have HS3 := Lib.hid (St.add (st_nil (w := w) HB3.out) E3.out)
  clear a0 a1 a2 a3 a4 a5 a6 a7 a8 a9 a10 a11 a12 E3 HB3
  refine wp_region_held_drew (S := St [(w.heap.size, (Ent.vals (Ent.mk l 7 t pt pp r c s)))] w) (by kernel_rfl) (St.drew HS3.out) (fun hHeld => ?_)
  have r21_1 := Lib.hid (RowAt.drew O3.out)
  have r21_2 := Lib.hid (RowAt.drew R3.out)
  refine wpAnyH_take (i := 0) (v := ?_) rfl (by kernel_rfl) (by kernel_rfl) (by kernel_rfl) (fun _ _ _ h => h) (Or.inl ⟨by rfl, ?_⟩) (by assumption) ?_
  rotate_left
  · (intro W _; go_simp; try with_reducible rfl)
  try simp only [Act.put, List.getElem_toArray, List.getElem_cons_zero, List.setIfInBounds_toArray, List.set_cons_zero, List.set_cons_succ]
  refine wpAnyH_take (i := 1) (v := ?_) rfl (by kernel_rfl) (by kernel_rfl) (by kernel_rfl) (fun _ _ _ h => h) (Or.inl ⟨by rfl, ?_⟩) (by assumption) ?_
  rotate_left
  · (intro W hSw; have c0 := (St.row hSw (b := w.heap.size) (vs := (Ent.vals (Ent.mk l 7 t pt pp r c s))) (by simp)).cells 5 _ rfl; clear hSw; go_simp; try with_reducible rfl)
  try simp only [Act.put, List.getElem_toArray, List.getElem_cons_zero, List.getElem_cons_succ, List.setIfInBounds_toArray, List.set_cons_zero, List.set_cons_succ]
  refine wpAnyH_take (i := 2) (v := ?_) rfl (by kernel_rfl) (by kernel_rfl) (by kernel_rfl) (fun _ _ _ h => h) (Or.inl ⟨by rfl, ?_⟩) (by assumption) ?_
  rotate_left
  · (intro W _; go_simp; try with_reducible rfl)
  try simp only [Act.put, List.getElem_toArray, List.getElem_cons_zero, List.getElem_cons_succ, List.setIfInBounds_toArray, List.set_cons_zero, List.set_cons_succ]
  refine wpAnyH_take (i := 3) (v := ?_) rfl (by kernel_rfl) (by kernel_rfl) (by kernel_rfl) (fun _ _ _ h => h) (Or.inl ⟨by rfl, ?_⟩) (by assumption) ?_
  rotate_left
  · (intro W _; go_simp; try with_reducible rfl)
  try simp only [Act.put, List.getElem_toArray, List.getElem_cons_zero, List.getElem_cons_succ, List.setIfInBounds_toArray, List.set_cons_zero, List.set_cons_succ]
  refine wpAnyH_take (i := 4) (v := ?_) rfl (by kernel_rfl) (by kernel_rfl) (by kernel_rfl) (fun _ _ _ h => h) (Or.inl ⟨by rfl, ?_⟩) (by assumption) ?_
  rotate_left
  · (intro W hSw; have c0 := (St.row hSw (b := w.heap.size) (vs := (Ent.vals (Ent.mk l 7 t pt pp r c s))) (by simp)).cells 6 _ rfl; clear hSw; go_simp; try with_reducible rfl)
  try simp only [Act.put, List.getElem_toArray, List.getElem_cons_zero, List.getElem_cons_succ, List.setIfInBounds_toArray, List.set_cons_zero, List.set_cons_succ]
  refine wpAnyH_take (i := 5) (v := ?_) rfl (by kernel_rfl) (by kernel_rfl) (by kernel_rfl) (fun _ _ _ h => h) (Or.inl ⟨by rfl, ?_⟩) (by assumption) ?_
  rotate_left
  · (intro W _; go_simp; try with_reducible rfl)
  try simp only [Act.put, List.getElem_toArray, List.getElem_cons_zero, List.getElem_cons_succ, List.setIfInBounds_toArray, List.set_cons_zero, List.set_cons_succ]
  refine wpAnyH_ready (rs := [6]) (by kernel_rfl) (by simp) (AllReadyH.cons rfl (fun K hK => ?_) AllReadyH.nil)
  simp only [List.getElem_toArray, List.getElem_cons_zero, List.getElem_cons_succ]
  rw [if_pos (by rfl)]
  with_reducible refine op_storeField 3 (.int .i64 r) rfl rfl info_int1 r21_1.out (show 5 < 13 by decide) (by rfl) ?_ ?_ (fun W21_3 hP21_5 hS21_6 => ?_)
  · rfl
  · rfl
  have r21_7 : Hid (EnAt w1.heap.size (Ent.mk l 7 0 0 0 r chg0 ⟨#[]⟩) W21_3) := Lib.hid hP21_5
  have r21_8 := Lib.hid (StoredAt.row hS21_6 r21_2.out (by omega))
  refine hK.out _ _ (St.stored hHeld (by simp; omega) (by omega) hS21_6) (fun hH21_4 => ?_)
  clear hK K
  simp only [Act.put, List.setIfInBounds_toArray, List.set_cons_zero, List.set_cons_succ]
  refine wpAnyH_take (i := 7) (v := ?_) rfl (by kernel_rfl) (by kernel_rfl) (by kernel_rfl) (fun _ _ _ h => h) (Or.inl ⟨by rfl, ?_⟩) (by assumption) ?_
  rotate_left
  · (intro W _; go_simp; try with_reducible rfl)
  try simp only [Act.put, List.getElem_toArray, List.getElem_cons_zero, List.getElem_cons_succ, List.setIfInBounds_toArray, List.set_cons_zero, List.set_cons_succ]
  refine wpAnyH_take (i := 8) (v := ?_) rfl (by kernel_rfl) (by kernel_rfl) (by kernel_rfl) (fun _ _ _ h => h) (Or.inl ⟨by rfl, ?_⟩) (by assumption) ?_
  rotate_left
  · (intro W _; go_simp; try with_reducible rfl)
  try simp only [Act.put, List.getElem_toArray, List.getElem_cons_zero, List.getElem_cons_succ, List.setIfInBounds_toArray, List.set_cons_zero, List.set_cons_succ]
  refine wpAnyH_ready (rs := [9]) (by kernel_rfl) (by simp) (AllReadyH.cons rfl (fun K hK => ?_) AllReadyH.nil)
  simp only [List.getElem_toArray, List.getElem_cons_zero, List.getElem_cons_succ]
  rw [if_pos (by rfl)]
  with_reducible refine op_storeField 3 (.int .i64 c.page) rfl rfl info_int1 r21_7.out (show 6 < 13 by decide) (by rfl) ?_ ?_ (fun W21_9 hP21_11 hS21_12 => ?_)
  · rfl
  · rfl
  have r21_13 : Hid (EnAt w1.heap.size (Ent.mk l 7 0 0 0 r ⟨c.page, 0, noCell, noCell⟩ ⟨#[]⟩) W21_9) := Lib.hid hP21_11
  have r21_14 := Lib.hid (StoredAt.row hS21_12 r21_8.out (by omega))
  refine hK.out _ _ (St.stored hH21_4 (by simp; omega) (by omega) hS21_12) (fun hH21_10 => ?_)
  clear hK K
  simp only [Act.put, List.setIfInBounds_toArray, List.set_cons_zero, List.set_cons_succ]
  refine wpAnyH_done (by kernel_rfl) ?_ _
  have E5 := Lib.hid (St.row hH21_10 (b := w.heap.size) (vs := Ent.vals (Ent.mk l 7 t pt pp r c s)) (by simp))
  have HB5 := Lib.hid (And.right hH21_10)
  have O5 := Lib.hid r21_13.out
  have R5 := Lib.hid r21_14.out
  obtain ⟨a0, a1, a2, a3, a4, a5, a6, a7, a8, a9, a10, a11, a12⟩ := EnAt.all E5.out
  simp only at a0 a1 a2 a3 a4 a5 a6 a7 a8 a9 a10 a11 a12
  go_upto_region 22 with (fail)
  have HS5 := Lib.hid (St.add (St.add (st_nil (w := w) HB5.out) E5.out) O5.out)
  clear a0 a1 a2 a3 a4 a5 a6 a7 a8 a9 a10 a11 a12
  refine wp_region_held_drew (S := St [(w1.heap.size, (Ent.vals (Ent.mk l 7 0 0 0 r ⟨c.page, 0, noCell, noCell⟩ ⟨#[]⟩))), (w.heap.size, (Ent.vals (Ent.mk l 7 t pt pp r c s)))] w) (by kernel_rfl) (St.drew HS5.out) (fun hHeld => ?_)
  have r22_1 := Lib.hid (RowAt.drew R5.out)
  refine wpAnyH_take (i := 0) (v := (.agg (Ent.arr (Ent.mk l 7 0 0 0 r ⟨c.page, 0, noCell, noCell⟩ ⟨#[]⟩)))) rfl (by kernel_rfl) (by kernel_rfl) (by kernel_rfl) (fun _ _ _ h => h) (yieldsIf_load_mid (by rfl) 28 _ rfl w1.heap.size 0 rfl (Ent.vals (Ent.mk l 7 0 0 0 r ⟨c.page, 0, noCell, noCell⟩ ⟨#[]⟩)) _ (fun W hSw => RowAt.range (St.row hSw (b := w1.heap.size) (vs := (Ent.vals (Ent.mk l 7 0 0 0 r ⟨c.page, 0, noCell, noCell⟩ ⟨#[]⟩))) (by simp)) 0 (fun j v hv => by rw [Nat.zero_add]; exact hv)) Try.underlying28 rfl info_ent) (by assumption) ?_
  try simp only [Act.put, List.getElem_toArray, List.getElem_cons_zero, List.setIfInBounds_toArray, List.set_cons_zero, List.set_cons_succ]
  refine wpAnyH_take (i := 1) (v := ?_) rfl (by kernel_rfl) (by kernel_rfl) (by kernel_rfl) (fun _ _ _ h => h) (Or.inl ⟨by rfl, ?_⟩) (by assumption) ?_
  rotate_left
  · (intro W _; go_simp; try with_reducible rfl)
  try simp only [Act.put, List.getElem_toArray, List.getElem_cons_zero, List.getElem_cons_succ, List.setIfInBounds_toArray, List.set_cons_zero, List.set_cons_succ]
  refine wpAnyH_take (i := 2) (v := ?_) rfl (by kernel_rfl) (by kernel_rfl) (by kernel_rfl) (fun _ _ _ h => h) (Or.inl ⟨by rfl, ?_⟩) (by assumption) ?_
  rotate_left
  · (intro W _; go_simp; try with_reducible rfl)
  try simp only [Act.put, List.getElem_toArray, List.getElem_cons_zero, List.getElem_cons_succ, List.setIfInBounds_toArray, List.set_cons_zero, List.set_cons_succ]
  refine wpAnyH_take (i := 3) (v := ?_) rfl (by kernel_rfl) (by kernel_rfl) (by kernel_rfl) (fun _ _ _ h => h) (Or.inl ⟨by rfl, ?_⟩) (by assumption) ?_
  rotate_left
  · (intro W hSw; have c0 := (St.row hSw (b := w.heap.size) (vs := (Ent.vals (Ent.mk l 7 t pt pp r c s))) (by simp)).cells 6 _ rfl; clear hSw; go_simp; try with_reducible rfl)
  try simp only [Act.put, List.getElem_toArray, List.getElem_cons_zero, List.getElem_cons_succ, List.setIfInBounds_toArray, List.set_cons_zero, List.set_cons_succ]
  refine wpAnyH_take (i := 4) (v := ?_) rfl (by kernel_rfl) (by kernel_rfl) (by kernel_rfl) (fun _ _ _ h => h) (Or.inl ⟨by rfl, ?_⟩) (by assumption) ?_
  rotate_left
  · (intro W _; go_simp; try with_reducible rfl)
  try simp only [Act.put, List.getElem_toArray, List.getElem_cons_zero, List.getElem_cons_succ, List.setIfInBounds_toArray, List.set_cons_zero, List.set_cons_succ]
  refine wpAnyH_take (i := 5) (v := ?_) rfl (by kernel_rfl) (by kernel_rfl) (by kernel_rfl) (fun _ _ _ h => h) (Or.inl ⟨by rfl, ?_⟩) (by assumption) ?_
  rotate_left
  · (intro W _; go_simp; try with_reducible rfl)
  try simp only [Act.put, List.getElem_toArray, List.getElem_cons_zero, List.getElem_cons_succ, List.setIfInBounds_toArray, List.set_cons_zero, List.set_cons_succ]
  refine wpAnyH_take (i := 6) (v := undef) rfl (by kernel_rfl) (by kernel_rfl) (by kernel_rfl) (fun _ _ _ h => h) (Or.inr ⟨by rfl, rfl⟩) (by assumption) ?_
  try simp only [Act.put, List.getElem_toArray, List.getElem_cons_zero, List.getElem_cons_succ, List.setIfInBounds_toArray, List.set_cons_zero, List.set_cons_succ]
  refine wpAnyH_take (i := 7) (v := undef) rfl (by kernel_rfl) (by kernel_rfl) (by kernel_rfl) (fun _ _ _ h => h) (Or.inr ⟨by rfl, rfl⟩) (by assumption) ?_
  try simp only [Act.put, List.getElem_toArray, List.getElem_cons_zero, List.getElem_cons_succ, List.setIfInBounds_toArray, List.set_cons_zero, List.set_cons_succ]
  refine wpAnyH_take (i := 8) (v := undef) rfl (by kernel_rfl) (by kernel_rfl) (by kernel_rfl) (fun _ _ _ h => h) (Or.inr ⟨by rfl, rfl⟩) (by assumption) ?_
  try simp only [Act.put, List.getElem_toArray, List.getElem_cons_zero, List.getElem_cons_succ, List.setIfInBounds_toArray, List.set_cons_zero, List.set_cons_succ]
  refine wpAnyH_take (i := 9) (v := undef) rfl (by kernel_rfl) (by kernel_rfl) (by kernel_rfl) (fun _ _ _ h => h) (Or.inr ⟨by rfl, rfl⟩) (by assumption) ?_
  try simp only [Act.put, List.getElem_toArray, List.getElem_cons_zero, List.getElem_cons_succ, List.setIfInBounds_toArray, List.set_cons_zero, List.set_cons_succ]
  refine wpAnyH_take (i := 10) (v := ?_) rfl (by kernel_rfl) (by kernel_rfl) (by kernel_rfl) (fun _ _ _ h => h) (Or.inl ⟨by rfl, ?_⟩) (by assumption) ?_
  rotate_left
  · (intro W _; go_simp; try with_reducible rfl)
  try simp only [Act.put, List.getElem_toArray, List.getElem_cons_zero, List.getElem_cons_succ, List.setIfInBounds_toArray, List.set_cons_zero, List.set_cons_succ]
  refine wpAnyH_ready (rs := [11]) (by kernel_rfl) (by simp) (AllReadyH.cons rfl (fun K hK => ?_) AllReadyH.nil)
  simp only [List.getElem_toArray, List.getElem_cons_zero, List.getElem_cons_succ]
  rw [if_pos (by rfl)]
  with_reducible refine op_storeEnt (Ent.mk l 7 0 0 0 r ⟨c.page, 0, noCell, noCell⟩ ⟨#[]⟩) r22_1.out (evals_length _) (by rfl) ?_ ?_ (fun W22_2 hP22_4 hS22_5 => ?_)
  · rfl
  · rfl
  have r22_6 : Hid (EnAt w0.heap.size (Ent.mk l 7 0 0 0 r ⟨c.page, 0, noCell, noCell⟩ ⟨#[]⟩) W22_2) := Lib.hid hP22_4
  refine hK.out _ _ (St.stored hHeld (by simp; omega) (by omega) hS22_5) (fun hH22_3 => ?_)
  clear hK K
  simp only [Act.put, List.setIfInBounds_toArray, List.set_cons_zero, List.set_cons_succ]
  refine wpAnyH_take (i := 12) (v := ?_) rfl (by kernel_rfl) (by kernel_rfl) (by kernel_rfl) (fun _ _ _ h => h) (Or.inl ⟨by rfl, ?_⟩) (by assumption) ?_
  rotate_left
  · (intro W _; go_simp; try with_reducible rfl)
  try simp only [Act.put, List.getElem_toArray, List.getElem_cons_zero, List.getElem_cons_succ, List.setIfInBounds_toArray, List.set_cons_zero, List.set_cons_succ]
  refine wpAnyH_done (by kernel_rfl) ?_ _
  go_wp2
  exact bodyPost_ret (res_entE rfl rfl r22_6.out) rfl ⟨rfl, And.right hH22_3⟩

set_option maxRecDepth 4000 in
set_option maxHeartbeats 4000000 in
theorem shape7b (l t pt pp r : Int) (c : Chg) (s : ByteArray) (h1 : 0 ≤ c.page) (w : World) : Calls Try.prog 33 #[.agg (Ent.arr (Ent.mk l 7 t pt pp r c s))] w fun e' w' => e' = .returned (.tuple #[.agg (Ent.arr (Ent.mk l 7 0 0 0 r ⟨c.page, 0, noCell, noCell⟩ ⟨#[]⟩)), .bool (decide (c.page < 64))]) ∧ Below w.heap.size w w' := by
  have d1 : decide (0 ≤ c.page) = true := by simpa using h1
  have hbd := build_ent2 l 7
  have HU : Hid True := Lib.hid trivial
  go_enter Try.func33, Try.ntmps33
  go_upto_region 21 with (first
    | (clear HU; refine wp_boxEntW (Ent.mk l 7 t pt pp r c s) rfl rfl rfl ?_; intro w0 hE hb0 z0; have E0 := Lib.hid hE; have HB0 := Lib.hid hb0; have G0 : Hid True := Lib.hid trivial; clear hE hb0)
    | (clear G0; refine wp_newEntW rfl rfl ?_; intro w1 hR hb1 z1; have R1 := Lib.hid hR; have E1 := Lib.hid (RowAt.keep E0.out hb1); have HB1 := Lib.hid (HB0.out.trans (hb1.mono HB0.out.size)); have G1 : Hid True := Lib.hid trivial; obtain ⟨a0, a1, a2, a3, a4, a5, a6, a7, a8, a9, a10, a11, a12⟩ := EnAt.all E1.out; simp only at a0 a1 a2 a3 a4 a5 a6 a7 a8 a9 a10 a11 a12; clear hR hb1 E0 HB0)
    | (clear G1; refine wp_newEntW rfl rfl ?_; intro w2 hO hb2 z2; have O2 := Lib.hid hO; have R2 := Lib.hid (RowAt.keep R1.out hb2); have E2 := Lib.hid (RowAt.keep E1.out hb2); have HB2 := Lib.hid (HB1.out.trans (hb2.mono HB1.out.size)); clear hO hb2 R1 E1 HB1 a0 a1 a2 a3 a4 a5 a6 a7 a8 a9 a10 a11 a12)
    | (clear hbd; refine wp_storeEntW (Ent.mk l 7 0 0 0 0 chg0 ⟨#[]⟩) O2.out (evals_length _) rfl rfl rfl rfl ?_; intro w3 hO hS; have O3 := Lib.hid hO; have R3 := Lib.hid (StoredAt.row hS R2.out (by omega)); have E3 := Lib.hid (StoredAt.row hS E2.out (by omega)); have HB3 := Lib.hid (StoredAt.below hS HB2.out (by omega)); clear hO hS O2 R2 E2 HB2; obtain ⟨a0, a1, a2, a3, a4, a5, a6, a7, a8, a9, a10, a11, a12⟩ := EnAt.all E3.out; simp only at a0 a1 a2 a3 a4 a5 a6 a7 a8 a9 a10 a11 a12))
  have HS3 := Lib.hid (St.add (st_nil (w := w) HB3.out) E3.out)
  clear a0 a1 a2 a3 a4 a5 a6 a7 a8 a9 a10 a11 a12 E3 HB3
  refine wp_region_held_drew (S := St [(w.heap.size, (Ent.vals (Ent.mk l 7 t pt pp r c s)))] w) (by kernel_rfl) (St.drew HS3.out) (fun hHeld => ?_)
  have r21_1 := Lib.hid (RowAt.drew O3.out)
  have r21_2 := Lib.hid (RowAt.drew R3.out)
  refine wpAnyH_take (i := 0) (v := ?_) rfl (by kernel_rfl) (by kernel_rfl) (by kernel_rfl) (fun _ _ _ h => h) (Or.inl ⟨by rfl, ?_⟩) (by assumption) ?_
  rotate_left
  · (intro W _; go_simp; try with_reducible rfl)
  try simp only [Act.put, List.getElem_toArray, List.getElem_cons_zero, List.setIfInBounds_toArray, List.set_cons_zero, List.set_cons_succ]
  refine wpAnyH_take (i := 1) (v := ?_) rfl (by kernel_rfl) (by kernel_rfl) (by kernel_rfl) (fun _ _ _ h => h) (Or.inl ⟨by rfl, ?_⟩) (by assumption) ?_
  rotate_left
  · (intro W hSw; have c0 := (St.row hSw (b := w.heap.size) (vs := (Ent.vals (Ent.mk l 7 t pt pp r c s))) (by simp)).cells 5 _ rfl; clear hSw; go_simp; try with_reducible rfl)
  try simp only [Act.put, List.getElem_toArray, List.getElem_cons_zero, List.getElem_cons_succ, List.setIfInBounds_toArray, List.set_cons_zero, List.set_cons_succ]
  refine wpAnyH_take (i := 2) (v := ?_) rfl (by kernel_rfl) (by kernel_rfl) (by kernel_rfl) (fun _ _ _ h => h) (Or.inl ⟨by rfl, ?_⟩) (by assumption) ?_
  rotate_left
  · (intro W _; go_simp; try with_reducible rfl)
  try simp only [Act.put, List.getElem_toArray, List.getElem_cons_zero, List.getElem_cons_succ, List.setIfInBounds_toArray, List.set_cons_zero, List.set_cons_succ]
  refine wpAnyH_take (i := 3) (v := ?_) rfl (by kernel_rfl) (by kernel_rfl) (by kernel_rfl) (fun _ _ _ h => h) (Or.inl ⟨by rfl, ?_⟩) (by assumption) ?_
  rotate_left
  · (intro W _; go_simp; try with_reducible rfl)
  try simp only [Act.put, List.getElem_toArray, List.getElem_cons_zero, List.getElem_cons_succ, List.setIfInBounds_toArray, List.set_cons_zero, List.set_cons_succ]
  refine wpAnyH_take (i := 4) (v := ?_) rfl (by kernel_rfl) (by kernel_rfl) (by kernel_rfl) (fun _ _ _ h => h) (Or.inl ⟨by rfl, ?_⟩) (by assumption) ?_
  rotate_left
  · (intro W hSw; have c0 := (St.row hSw (b := w.heap.size) (vs := (Ent.vals (Ent.mk l 7 t pt pp r c s))) (by simp)).cells 6 _ rfl; clear hSw; go_simp; try with_reducible rfl)
  try simp only [Act.put, List.getElem_toArray, List.getElem_cons_zero, List.getElem_cons_succ, List.setIfInBounds_toArray, List.set_cons_zero, List.set_cons_succ]
  refine wpAnyH_take (i := 5) (v := ?_) rfl (by kernel_rfl) (by kernel_rfl) (by kernel_rfl) (fun _ _ _ h => h) (Or.inl ⟨by rfl, ?_⟩) (by assumption) ?_
  rotate_left
  · (intro W _; go_simp; try with_reducible rfl)
  try simp only [Act.put, List.getElem_toArray, List.getElem_cons_zero, List.getElem_cons_succ, List.setIfInBounds_toArray, List.set_cons_zero, List.set_cons_succ]
  refine wpAnyH_ready (rs := [6]) (by kernel_rfl) (by simp) (AllReadyH.cons rfl (fun K hK => ?_) AllReadyH.nil)
  simp only [List.getElem_toArray, List.getElem_cons_zero, List.getElem_cons_succ]
  rw [if_pos (by rfl)]
  with_reducible refine op_storeField 3 (.int .i64 r) rfl rfl info_int1 r21_1.out (show 5 < 13 by decide) (by rfl) ?_ ?_ (fun W21_3 hP21_5 hS21_6 => ?_)
  · rfl
  · rfl
  have r21_7 : Hid (EnAt w1.heap.size (Ent.mk l 7 0 0 0 r chg0 ⟨#[]⟩) W21_3) := Lib.hid hP21_5
  have r21_8 := Lib.hid (StoredAt.row hS21_6 r21_2.out (by omega))
  refine hK.out _ _ (St.stored hHeld (by simp; omega) (by omega) hS21_6) (fun hH21_4 => ?_)
  clear hK K
  simp only [Act.put, List.setIfInBounds_toArray, List.set_cons_zero, List.set_cons_succ]
  refine wpAnyH_take (i := 7) (v := ?_) rfl (by kernel_rfl) (by kernel_rfl) (by kernel_rfl) (fun _ _ _ h => h) (Or.inl ⟨by rfl, ?_⟩) (by assumption) ?_
  rotate_left
  · (intro W _; go_simp; try with_reducible rfl)
  try simp only [Act.put, List.getElem_toArray, List.getElem_cons_zero, List.getElem_cons_succ, List.setIfInBounds_toArray, List.set_cons_zero, List.set_cons_succ]
  refine wpAnyH_take (i := 8) (v := ?_) rfl (by kernel_rfl) (by kernel_rfl) (by kernel_rfl) (fun _ _ _ h => h) (Or.inl ⟨by rfl, ?_⟩) (by assumption) ?_
  rotate_left
  · (intro W _; go_simp; try with_reducible rfl)
  try simp only [Act.put, List.getElem_toArray, List.getElem_cons_zero, List.getElem_cons_succ, List.setIfInBounds_toArray, List.set_cons_zero, List.set_cons_succ]
  refine wpAnyH_ready (rs := [9]) (by kernel_rfl) (by simp) (AllReadyH.cons rfl (fun K hK => ?_) AllReadyH.nil)
  simp only [List.getElem_toArray, List.getElem_cons_zero, List.getElem_cons_succ]
  rw [if_pos (by rfl)]
  with_reducible refine op_storeField 3 (.int .i64 c.page) rfl rfl info_int1 r21_7.out (show 6 < 13 by decide) (by rfl) ?_ ?_ (fun W21_9 hP21_11 hS21_12 => ?_)
  · rfl
  · rfl
  have r21_13 : Hid (EnAt w1.heap.size (Ent.mk l 7 0 0 0 r ⟨c.page, 0, noCell, noCell⟩ ⟨#[]⟩) W21_9) := Lib.hid hP21_11
  have r21_14 := Lib.hid (StoredAt.row hS21_12 r21_8.out (by omega))
  refine hK.out _ _ (St.stored hH21_4 (by simp; omega) (by omega) hS21_12) (fun hH21_10 => ?_)
  clear hK K
  simp only [Act.put, List.setIfInBounds_toArray, List.set_cons_zero, List.set_cons_succ]
  refine wpAnyH_done (by kernel_rfl) ?_ _
  have E5 := Lib.hid (St.row hH21_10 (b := w.heap.size) (vs := Ent.vals (Ent.mk l 7 t pt pp r c s)) (by simp))
  have HB5 := Lib.hid (And.right hH21_10)
  have O5 := Lib.hid r21_13.out
  have R5 := Lib.hid r21_14.out
  obtain ⟨a0, a1, a2, a3, a4, a5, a6, a7, a8, a9, a10, a11, a12⟩ := EnAt.all E5.out
  simp only at a0 a1 a2 a3 a4 a5 a6 a7 a8 a9 a10 a11 a12
  go_upto_region 22 with (fail)
  have HS5 := Lib.hid (St.add (St.add (st_nil (w := w) HB5.out) E5.out) O5.out)
  clear a0 a1 a2 a3 a4 a5 a6 a7 a8 a9 a10 a11 a12
  refine wp_region_held_drew (S := St [(w1.heap.size, (Ent.vals (Ent.mk l 7 0 0 0 r ⟨c.page, 0, noCell, noCell⟩ ⟨#[]⟩))), (w.heap.size, (Ent.vals (Ent.mk l 7 t pt pp r c s)))] w) (by kernel_rfl) (St.drew HS5.out) (fun hHeld => ?_)
  have r22_1 := Lib.hid (RowAt.drew R5.out)
  refine wpAnyH_take (i := 0) (v := (.agg (Ent.arr (Ent.mk l 7 0 0 0 r ⟨c.page, 0, noCell, noCell⟩ ⟨#[]⟩)))) rfl (by kernel_rfl) (by kernel_rfl) (by kernel_rfl) (fun _ _ _ h => h) (yieldsIf_load_mid (by rfl) 28 _ rfl w1.heap.size 0 rfl (Ent.vals (Ent.mk l 7 0 0 0 r ⟨c.page, 0, noCell, noCell⟩ ⟨#[]⟩)) _ (fun W hSw => RowAt.range (St.row hSw (b := w1.heap.size) (vs := (Ent.vals (Ent.mk l 7 0 0 0 r ⟨c.page, 0, noCell, noCell⟩ ⟨#[]⟩))) (by simp)) 0 (fun j v hv => by rw [Nat.zero_add]; exact hv)) Try.underlying28 rfl info_ent) (by assumption) ?_
  try simp only [Act.put, List.getElem_toArray, List.getElem_cons_zero, List.setIfInBounds_toArray, List.set_cons_zero, List.set_cons_succ]
  refine wpAnyH_take (i := 1) (v := ?_) rfl (by kernel_rfl) (by kernel_rfl) (by kernel_rfl) (fun _ _ _ h => h) (Or.inl ⟨by rfl, ?_⟩) (by assumption) ?_
  rotate_left
  · (intro W _; go_simp; try with_reducible rfl)
  try simp only [Act.put, List.getElem_toArray, List.getElem_cons_zero, List.getElem_cons_succ, List.setIfInBounds_toArray, List.set_cons_zero, List.set_cons_succ]
  refine wpAnyH_take (i := 2) (v := ?_) rfl (by kernel_rfl) (by kernel_rfl) (by kernel_rfl) (fun _ _ _ h => h) (Or.inl ⟨by rfl, ?_⟩) (by assumption) ?_
  rotate_left
  · (intro W _; go_simp; try with_reducible rfl)
  try simp only [Act.put, List.getElem_toArray, List.getElem_cons_zero, List.getElem_cons_succ, List.setIfInBounds_toArray, List.set_cons_zero, List.set_cons_succ]
  refine wpAnyH_take (i := 3) (v := ?_) rfl (by kernel_rfl) (by kernel_rfl) (by kernel_rfl) (fun _ _ _ h => h) (Or.inl ⟨by rfl, ?_⟩) (by assumption) ?_
  rotate_left
  · (intro W hSw; have c0 := (St.row hSw (b := w.heap.size) (vs := (Ent.vals (Ent.mk l 7 t pt pp r c s))) (by simp)).cells 6 _ rfl; clear hSw; go_simp; try with_reducible rfl)
  try simp only [Act.put, List.getElem_toArray, List.getElem_cons_zero, List.getElem_cons_succ, List.setIfInBounds_toArray, List.set_cons_zero, List.set_cons_succ]
  refine wpAnyH_take (i := 4) (v := ?_) rfl (by kernel_rfl) (by kernel_rfl) (by kernel_rfl) (fun _ _ _ h => h) (Or.inl ⟨by rfl, ?_⟩) (by assumption) ?_
  rotate_left
  · (intro W _; go_simp; try with_reducible rfl)
  try simp only [Act.put, List.getElem_toArray, List.getElem_cons_zero, List.getElem_cons_succ, List.setIfInBounds_toArray, List.set_cons_zero, List.set_cons_succ]
  refine wpAnyH_take (i := 5) (v := ?_) rfl (by kernel_rfl) (by kernel_rfl) (by kernel_rfl) (fun _ _ _ h => h) (Or.inl ⟨by rfl, ?_⟩) (by assumption) ?_
  rotate_left
  · (intro W _; go_simp; try with_reducible rfl)
  try simp only [Act.put, List.getElem_toArray, List.getElem_cons_zero, List.getElem_cons_succ, List.setIfInBounds_toArray, List.set_cons_zero, List.set_cons_succ]
  refine wpAnyH_take (i := 6) (v := ?_) rfl (by kernel_rfl) (by kernel_rfl) (by kernel_rfl) (fun _ _ _ h => h) (Or.inl ⟨by rfl, ?_⟩) (by assumption) ?_
  rotate_left
  · (intro W _; go_simp; try with_reducible rfl)
  try simp only [Act.put, List.getElem_toArray, List.getElem_cons_zero, List.getElem_cons_succ, List.setIfInBounds_toArray, List.set_cons_zero, List.set_cons_succ]
  refine wpAnyH_take (i := 7) (v := ?_) rfl (by kernel_rfl) (by kernel_rfl) (by kernel_rfl) (fun _ _ _ h => h) (Or.inl ⟨by rfl, ?_⟩) (by assumption) ?_
  rotate_left
  · (intro W _; go_simp; try with_reducible rfl)
  try simp only [Act.put, List.getElem_toArray, List.getElem_cons_zero, List.getElem_cons_succ, List.setIfInBounds_toArray, List.set_cons_zero, List.set_cons_succ]
  refine wpAnyH_take (i := 8) (v := ?_) rfl (by kernel_rfl) (by kernel_rfl) (by kernel_rfl) (fun _ _ _ h => h) (Or.inl ⟨by rfl, ?_⟩) (by assumption) ?_
  rotate_left
  · (intro W hSw; have c0 := (St.row hSw (b := w.heap.size) (vs := (Ent.vals (Ent.mk l 7 t pt pp r c s))) (by simp)).cells 6 _ rfl; clear hSw; go_simp; try with_reducible rfl)
  try simp only [Act.put, List.getElem_toArray, List.getElem_cons_zero, List.getElem_cons_succ, List.setIfInBounds_toArray, List.set_cons_zero, List.set_cons_succ]
  refine wpAnyH_take (i := 9) (v := ?_) rfl (by kernel_rfl) (by kernel_rfl) (by kernel_rfl) (fun _ _ _ h => h) (Or.inl ⟨by rfl, ?_⟩) (by assumption) ?_
  rotate_left
  · (intro W _; go_simp; try with_reducible rfl)
  try simp only [Act.put, List.getElem_toArray, List.getElem_cons_zero, List.getElem_cons_succ, List.setIfInBounds_toArray, List.set_cons_zero, List.set_cons_succ]
  refine wpAnyH_take (i := 10) (v := ?_) rfl (by kernel_rfl) (by kernel_rfl) (by kernel_rfl) (fun _ _ _ h => h) (Or.inl ⟨by rfl, ?_⟩) (by assumption) ?_
  rotate_left
  · (intro W _; go_simp; try with_reducible rfl)
  try simp only [Act.put, List.getElem_toArray, List.getElem_cons_zero, List.getElem_cons_succ, List.setIfInBounds_toArray, List.set_cons_zero, List.set_cons_succ]
  refine wpAnyH_ready (rs := [11]) (by kernel_rfl) (by simp) (AllReadyH.cons rfl (fun K hK => ?_) AllReadyH.nil)
  simp only [List.getElem_toArray, List.getElem_cons_zero, List.getElem_cons_succ]
  rw [if_pos (by rfl)]
  with_reducible refine op_storeEnt (Ent.mk l 7 0 0 0 r ⟨c.page, 0, noCell, noCell⟩ ⟨#[]⟩) r22_1.out (evals_length _) (by rfl) ?_ ?_ (fun W22_2 hP22_4 hS22_5 => ?_)
  · rfl
  · rfl
  have r22_6 : Hid (EnAt w0.heap.size (Ent.mk l 7 0 0 0 r ⟨c.page, 0, noCell, noCell⟩ ⟨#[]⟩) W22_2) := Lib.hid hP22_4
  refine hK.out _ _ (St.stored hHeld (by simp; omega) (by omega) hS22_5) (fun hH22_3 => ?_)
  clear hK K
  simp only [Act.put, List.setIfInBounds_toArray, List.set_cons_zero, List.set_cons_succ]
  refine wpAnyH_take (i := 12) (v := ?_) rfl (by kernel_rfl) (by kernel_rfl) (by kernel_rfl) (fun _ _ _ h => h) (Or.inl ⟨by rfl, ?_⟩) (by assumption) ?_
  rotate_left
  · (intro W _; go_simp; try with_reducible rfl)
  try simp only [Act.put, List.getElem_toArray, List.getElem_cons_zero, List.getElem_cons_succ, List.setIfInBounds_toArray, List.set_cons_zero, List.set_cons_succ]
  refine wpAnyH_done (by kernel_rfl) ?_ _
  go_wp2
  exact bodyPost_ret (res_entE rfl rfl r22_6.out) rfl ⟨rfl, And.right hH22_3⟩

set_option maxRecDepth 4000 in
set_option maxHeartbeats 4000000 in
theorem shape0 (l k t pt pp r : Int) (c : Chg) (s : ByteArray) (h1 : (k == 1) = false) (h2 : (k == 2) = false) (h3 : (k == 3) = false) (h4 : (k == 4) = false) (h5 : (k == 5) = false) (h6 : (k == 6) = false) (h7 : (k == 7) = false) (h8 : (k == 8) = false) (w : World) : Calls Try.prog 33 #[.agg (Ent.arr (Ent.mk l k t pt pp r c s))] w fun e' w' => e' = .returned (.tuple #[.agg (Ent.arr (Ent.mk l k 0 0 0 0 chg0 ⟨#[]⟩)), .bool false]) ∧ Below w.heap.size w w' := by
  have hbd := build_ent2 l k
  have HU : Hid True := Lib.hid trivial
  go_enter Try.func33, Try.ntmps33
  go_wp2_with (first
    | (clear HU; refine wp_boxEntW (Ent.mk l k t pt pp r c s) rfl rfl rfl ?_; intro w0 hE hb0 z0; have E0 := Lib.hid hE; have HB0 := Lib.hid hb0; have G0 : Hid True := Lib.hid trivial; clear hE hb0)
    | (clear G0; refine wp_newEntW rfl rfl ?_; intro w1 hR hb1 z1; have R1 := Lib.hid hR; have E1 := Lib.hid (RowAt.keep E0.out hb1); have HB1 := Lib.hid (HB0.out.trans (hb1.mono HB0.out.size)); have G1 : Hid True := Lib.hid trivial; obtain ⟨a0, a1, a2, a3, a4, a5, a6, a7, a8, a9, a10, a11, a12⟩ := EnAt.all E1.out; simp only at a0 a1 a2 a3 a4 a5 a6 a7 a8 a9 a10 a11 a12; clear hR hb1 E0 HB0)
    | (clear G1; refine wp_newEntW rfl rfl ?_; intro w2 hO hb2 z2; have O2 := Lib.hid hO; have R2 := Lib.hid (RowAt.keep R1.out hb2); have E2 := Lib.hid (RowAt.keep E1.out hb2); have HB2 := Lib.hid (HB1.out.trans (hb2.mono HB1.out.size)); clear hO hb2 R1 E1 HB1 a0 a1 a2 a3 a4 a5 a6 a7 a8 a9 a10 a11 a12)
    | (clear hbd; refine wp_storeEntW (Ent.mk l k 0 0 0 0 chg0 ⟨#[]⟩) O2.out (evals_length _) rfl rfl rfl rfl ?_; intro w3 hO hS; have O3 := Lib.hid hO; have R3 := Lib.hid (StoredAt.row hS R2.out (by omega)); have E3 := Lib.hid (StoredAt.row hS E2.out (by omega)); have HB3 := Lib.hid (StoredAt.below hS HB2.out (by omega)); clear hO hS O2 R2 E2 HB2; obtain ⟨a0, a1, a2, a3, a4, a5, a6, a7, a8, a9, a10, a11, a12⟩ := EnAt.all E3.out; simp only at a0 a1 a2 a3 a4 a5 a6 a7 a8 a9 a10 a11 a12)
    | (refine wp_loadEnt (Ent.mk l k 0 0 0 0 chg0 ⟨#[]⟩) O3.out rfl rfl rfl ?_)
    | (refine wp_storeEntW (Ent.mk l k 0 0 0 0 chg0 ⟨#[]⟩) R3.out (evals_length _) rfl rfl rfl rfl ?_; intro w7 hR hS; have R7 := Lib.hid hR; have HB7 := Lib.hid (StoredAt.below hS HB3.out (by omega)); clear hR hS))
  exact bodyPost_ret (res_entE rfl rfl R7.out) rfl ⟨rfl, HB7.out⟩

end Go.Proofs.Ytiojpfljnbdonaa.of
