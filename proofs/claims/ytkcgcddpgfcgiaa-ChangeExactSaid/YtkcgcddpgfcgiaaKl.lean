/- ChangeExact: the walk. -/
import Derived.Test.YtkcgcddpgfcgiaaKk
import Derived.Deep.Cut
namespace Go.Proofs.Ytkcgcddpgfcgiaa.kl
open Go.ChangeShapes Go.WideShapes Go.ChangeAt Go.RowKit Go.Proofs.Ytkcgcddpgfcgiaa.cx Go.Proofs.Ytkcgcddpgfcgiaa.ra Go.Proofs.Ytkcgcddpgfcgiaa.rc Go.Proofs.Ytkcgcddpgfcgiaa.da Go.Proofs.Ytkcgcddpgfcgiaa.di Go.Proofs.Ytkcgcddpgfcgiaa.ea Go.Proofs.Ytkcgcddpgfcgiaa.eb Go.Proofs.Ytkcgcddpgfcgiaa.ec Go.Proofs.Ytkcgcddpgfcgiaa.ed Go.Proofs.Ytkcgcddpgfcgiaa.fb Go.Proofs.Ytkcgcddpgfcgiaa.ka Go.Proofs.Ytkcgcddpgfcgiaa.kb Go.Proofs.Ytkcgcddpgfcgiaa.kc Go.Proofs.Ytkcgcddpgfcgiaa.kd Go.Proofs.Ytkcgcddpgfcgiaa.ke Go.Proofs.Ytkcgcddpgfcgiaa.kf Go.Proofs.Ytkcgcddpgfcgiaa.kg Go.Proofs.Ytkcgcddpgfcgiaa.ki Go.Proofs.Ytkcgcddpgfcgiaa.kj Go.Proofs.Ytkcgcddpgfcgiaa.kk

set_option maxRecDepth 4000 in
set_option maxHeartbeats 8000000 in
theorem exact_walk (so : Option Addr) (len cap : Nat) (p : Pg) (s0 s1 : Chg) (w : World) (hs0 : FitsH s0) (hs1 : FitsH s1) (hin : BytesIn so len w) (hl : len ≤ 9223372036854775807) (hc : len ≤ cap) :
    Calls Try.prog 3 #[.slice so len cap, .agg p.arr, .agg s0.arr, .agg s1.arr] w fun e w' => e = .returned (.bool true) ∧ Below w.heap.size w w' := by
  have HIN := Lib.hid hin
  have HU : Hid True := Lib.hid trivial
  have F0 := Lib.hid hs0
  have F1 := Lib.hid hs1
  clear hin hs0 hs1
  go_enter Try.func3, Try.ntmps3
  go_wp2_with (first
    | (clear HU; refine wp_boxPageW p rfl rfl rfl ?_; intro w0 hP hb0 _; have S0 := Lib.hid ((st_nil (Below.refl w.heap.size w)).first hb0 hP); clear hP hb0)
    | (have _t := S0.out; refine wp_boxChgW s0 rfl rfl rfl ?_; intro w1 hP hb0 _; have S1 := Lib.hid (S0.out.first hb0 hP); clear hP hb0 _t S0)
    | (have _t := S1.out; refine wp_boxChgW s1 rfl rfl rfl ?_; intro w2 hP hb0 _; have S2 := Lib.hid (S1.out.first hb0 hP); clear hP hb0 _t S1))
  go_at_call 7
  refine (awake_any _).mono ?_
  rintro e w3 ⟨rfl, hb3⟩
  have S3 := Lib.hid (S2.out.keep hb3)
  clear hb3 S2
  go_wp2_with fail
  go_at_call 8
  refine (new_is so len cap 160 _ (by decide) _ (bytesIn_below HIN.out S3.out.2) hl hc (by decide)).mono ?_
  rintro e w4 ⟨rfl, hC4, hb4, _⟩
  have C4 := Lib.hid hC4
  have HLE : Hid (w.heap.size ≤ w3.heap.size) := Lib.hid S3.out.2.size
  have HNE := Lib.hid S3.out.ne
  have S4 := Lib.hid (S3.out.keep hb4)
  clear hC4 hb4 S3 HIN
  generalize w3.heap.size = c at *
  generalize w0.heap.size = x6 at *
  generalize w1.heap.size = x7 at *
  generalize hx5 : w.heap.size = x5 at *
  have HX5 := Lib.hid hx5
  have HLE2 : Hid (w.heap.size ≤ c) := Lib.hid (by rw [HX5.out]; exact HLE.out)
  clear HLE hx5
  go_wp2_with fail
  go_at_call 10
  refine (next_any c 3 _ C4.out (by decide)).mono ?_
  rintro e w5 ⟨r, rfl, hr0, hr1, _, hC5, hg5⟩
  have C5 := Lib.hid hC5
  have S5 := Lib.hid (S4.out.grown hg5 HLE2.out HNE.out)
  clear hC5 hg5 hr1 C4 S4
  go_wp2_with fail
  go_at_call 9
  refine (page_any c r _ C5.out).mono ?_
  rintro e w6 ⟨q, rfl, hq1, hq2, hq3, hq4, hC6, hg6⟩
  have HQB := Lib.hid hq4
  have C6 := Lib.hid hC6
  have lt6 := cod_lt hC6
  have S6 := Lib.hid (S5.out.grown hg6 HLE2.out HNE.out)
  have HQC := Lib.hid hq4
  clear hC6 hg6 hq4 hq1 hq2 hq3 C5 S5 hr0
  go_wp2_with (first
    | (have _t := S6.out; refine wp_newPageW rfl rfl ?_; intro w7 hP hb _; have N7 := Lib.hid hP; have M7 := Lib.hid hb; have C7 := Lib.hid (cod_keep C6.out hb); clear hP hb _t C6)
    | (refine wp_storePageW q N7.out (vals_length _) rfl rfl rfl rfl ?_; intro w8 hP hS; have S8 := Lib.hid (S6.out.push M7.out hP hS); have C8 := Lib.hid (hS.cod C7.out lt6); have HNE8 : Hid (∀ x ∈ [(w6.heap.size, q.vals), (x7, s1.vals), (x6, s0.vals), (x5, p.vals)], c ≠ x.1) := Lib.hid (List.forall_mem_cons.2 ⟨Nat.ne_of_lt lt6, HNE.out⟩); clear hP hS S6 N7 M7 C7)
    | (go_at_call 11; (with_reducible refine (change_any c _ C8.out).mono ?_); rintro e w9 ⟨a, rfl, hda, hC, hg⟩; have HDA := Lib.hid hda; have S9 := Lib.hid (S8.out.grown hg HLE2.out HNE8.out); have C9 := Lib.hid hC; clear hda hC hg S8 C8)
    | (go_at_call 11; (with_reducible refine (change_any c _ C9.out).mono ?_); rintro e w10 ⟨b, rfl, hdb, hC, hg⟩; have HDB := Lib.hid hdb; have S10 := Lib.hid (S9.out.grown hg HLE2.out HNE8.out); have C10 := Lib.hid hC; have lt10 := cod_lt hC; clear hdb hC hg S9 C9)
    | (have NEa := Lib.hid S10.out.ne; have LEa := Lib.hid S10.out.2.size; have _t := S10.out; refine wp_newChgW rfl rfl ?_; intro w11 hP hb _; have N11 := Lib.hid hP; have la := hP.lt; have C11 := Lib.hid (cod_keep C10.out hb); have S11 := Lib.hid (S10.out.keep hb); clear hP hb _t C10 S10)
    | (have NEb := Lib.hid S11.out.ne; have LEb := Lib.hid S11.out.2.size; have lt11 := cod_lt C11.out; have _t := S11.out; refine wp_newChgW rfl rfl ?_; intro w12 hP hb _; have N12 := Lib.hid hP; have M11 := Lib.hid (RowAt.keep N11.out hb); have C12 := Lib.hid (cod_keep C11.out hb); have S12 := Lib.hid (S11.out.keep hb); clear hP hb _t C11 S11 N11)
    | (refine wp_storeChgW a M11.out (cvals_length _) rfl rfl rfl rfl ?_; intro w13 hP hS; have A13 := Lib.hid hP; have M12 := Lib.hid (hS.row N12.out (by omega)); have S13 := Lib.hid (S12.out.stored NEa.out LEa.out hS); have C13 := Lib.hid (hS.cod C12.out lt10); clear hP hS M11 N12 C12 S12)
    | (refine wp_storeChgW b M12.out (cvals_length _) rfl rfl rfl rfl ?_; intro w14 hP hS; have D14 := Lib.hid hP; have A14 := Lib.hid (hS.row A13.out (by omega)); have S14 := Lib.hid (S13.out.stored NEb.out LEb.out hS); have C14 := Lib.hid (hS.cod C13.out lt11); clear hP hS M12 A13 C13 S13))
  obtain ⟨k, hk0, hk1⟩ : ∃ k : Nat, a.slot = k ∧ k < 3 := ⟨a.slot.toNat, by have := HDA.out.2.2.1; omega, by have := HDA.out.2.2.2.1; omega⟩
  obtain ⟨a0, a1, a2, a3, _, _⟩ := ChAt.all A14.out
  have i0 := PgAt.idAt (S14.out.row (b := w6.heap.size) (vs := q.vals) (by simp))
  have i1 := PgAt.setAt (S14.out.row (b := w6.heap.size) (vs := q.vals) (by simp)) (show k < 16 by omega)
  have i2 := PgAt.dataAt (S14.out.row (b := w6.heap.size) (vs := q.vals) (by simp)) (show k < 16 by omega)
  have f0 := RowAt.free A14.out 0
  have f2 := RowAt.free A14.out 2
  have f3 := RowAt.free A14.out 3
  rw [hk0] at a1
  have q0 : (0 : Int) ≤ (k : Int) := by omega
  have q1 : (k : Int) < 16 := by omega
  have HK0 := Lib.hid hk0
  have hxy : w10.heap.size ≠ w11.heap.size := by omega
  clear hk0
  generalize w6.heap.size = xq at *
  generalize w10.heap.size = xx at *
  generalize w11.heap.size = xy at *
  apply wp_one
  · go_region
    iterate 60 (try exact ⟨rfl, rfl⟩)
  have hA : ChAt xx ⟨q.id, a.slot, q.cell k, a.after⟩ _ := (RowAt.set (RowAt.set (RowAt.set A14.out 0 (show 0 < 6 by decide) (.int .i64 q.id)) 2 (show 2 < 6 by decide) (.bool (q.cell k).set)) 3 (show 3 < 6 by decide) (.string (q.cell k).data)).drew
  have hD := (RowAt.setOther (RowAt.setOther (RowAt.setOther D14.out (a := ⟨xx, 0, none⟩) (by exact hxy) (.int .i64 q.id)) (a := ⟨xx, 2, none⟩) (by exact hxy) (.bool (q.cell k).set)) (a := ⟨xx, 3, none⟩) (by exact hxy) (.string (q.cell k).data)).drew
  have hS := (((S14.out.set NEa.out LEa.out 0 (.int .i64 q.id)).set NEa.out LEa.out 2 (.bool (q.cell k).set)).set NEa.out LEa.out 3 (.string (q.cell k).data)).drew
  have hC := (cod_set (cod_set (cod_set C14.out (a := ⟨xx, 0, none⟩) (by exact lt10) (.int .i64 q.id)) (a := ⟨xx, 2, none⟩) (by exact lt10) (.bool (q.cell k).set)) (a := ⟨xx, 3, none⟩) (by exact lt10) (.string (q.cell k).data)).drew
  have hfa : FitsH ⟨q.id, a.slot, q.cell k, a.after⟩ := ⟨cell_le (cellB_at HQB.out (by omega)), (drawn_fits HDA.out).2⟩
  clear a0 a1 a2 a3 i0 i1 i2 f0 f2 f3 A14 D14 S14 C14 q0 q1 hk1 HK0 HQB
  generalize (((w14.setCell ⟨xx, 0, none⟩ (.int .i64 q.id)).setCell ⟨xx, 2, none⟩ (.bool (q.cell k).set)).setCell ⟨xx, 3, none⟩ (.string (q.cell k).data)).drew = w15 at *
  generalize (Chg.mk q.id a.slot (q.cell k) a.after) = x1 at *
  have A15 := Lib.hid hA
  have D15 := Lib.hid hD
  have S15 := Lib.hid hS
  have C15 := Lib.hid hC
  have FX := Lib.hid hfa
  have FY := Lib.hid (drawn_fits HDB.out)
  clear hA hD hS hC hfa HDA HDB
  go_wp2_with fail
  go_at_call 10
  refine (next_any c 2 _ C15.out (by decide)).mono ?_
  rintro e w16 ⟨r2, rfl, _, _, _, hC, hg⟩
  have A16 := Lib.hid (RowAt.grown A15.out hg (row_ne lt10))
  have D16 := Lib.hid (RowAt.grown D15.out hg (row_ne lt11))
  have S16 := Lib.hid (S15.out.grown hg HLE2.out HNE8.out)
  have C16 := Lib.hid hC
  clear hC hg A15 D15 S15 C15
  go_upto_if 48 with fail
  go_cut [] from 25 (fun wx => ∃ y1 : Chg, FitsH y1 ∧ St [(xy, y1.vals), (xx, x1.vals), (xq, q.vals), (x7, s1.vals), (x6, s0.vals), (x5, p.vals)] w wx ∧ Cod c wx)
  case first =>
    by_cases hr2 : r2 = 0
    · have hb2 : (r2 == 0) = true := by simpa using hr2
      clear hr2
      obtain ⟨a0, a1, a2, a3, a4, a5⟩ := ChAt.all A16.out
      obtain ⟨b0, b1, b2, b3, _, _⟩ := ChAt.all D16.out
      have f0 := RowAt.free D16.out 0
      have f1 := RowAt.free D16.out 1
      have f2 := RowAt.free D16.out 2
      have f3 := RowAt.free D16.out 3
      go_wp2_with fail
      apply wp_one
      · go_region
        iterate 60 (try exact ⟨rfl, rfl⟩)
      have hyx : xy ≠ xx := fun e => hxy e.symm
      have hD : ChAt xy ⟨x1.page, x1.slot, x1.after, b.after⟩ _ := (RowAt.set (RowAt.set (RowAt.set (RowAt.set D16.out 0 (show 0 < 6 by decide) (.int .i64 x1.page)) 1 (show 1 < 6 by decide) (.int .i64 x1.slot)) 2 (show 2 < 6 by decide) (.bool x1.after.set)) 3 (show 3 < 6 by decide) (.string x1.after.data)).drew
      have hA := (RowAt.setOther (RowAt.setOther (RowAt.setOther (RowAt.setOther A16.out (a := ⟨xy, 0, none⟩) (by exact hyx) (.int .i64 x1.page)) (a := ⟨xy, 1, none⟩) (by exact hyx) (.int .i64 x1.slot)) (a := ⟨xy, 2, none⟩) (by exact hyx) (.bool x1.after.set)) (a := ⟨xy, 3, none⟩) (by exact hyx) (.string x1.after.data)).drew
      have hS := ((((S16.out.set NEb.out LEb.out 0 (.int .i64 x1.page)).set NEb.out LEb.out 1 (.int .i64 x1.slot)).set NEb.out LEb.out 2 (.bool x1.after.set)).set NEb.out LEb.out 3 (.string x1.after.data)).drew
      have hC := (cod_set (cod_set (cod_set (cod_set C16.out (a := ⟨xy, 0, none⟩) (by exact lt11) (.int .i64 x1.page)) (a := ⟨xy, 1, none⟩) (by exact lt11) (.int .i64 x1.slot)) (a := ⟨xy, 2, none⟩) (by exact lt11) (.bool x1.after.set)) (a := ⟨xy, 3, none⟩) (by exact lt11) (.string x1.after.data)).drew
      go_wp2_with fail
      go_meet
      exact ⟨⟨x1.page, x1.slot, x1.after, b.after⟩, ⟨FX.out.2, FY.out.2⟩, (hS.add hA).add hD, hC⟩
    · have hb2 : (r2 == 0) = false := by simpa using hr2
      clear hr2
      go_wp2_with fail
      go_meet
      exact ⟨b, FY.out, (S16.out.add A16.out).add D16.out, C16.out⟩
  case rest =>
  obtain ⟨y1, hfy, hS, hC⟩ := hcut
  have S17 := Lib.hid hS
  have CA := Lib.hid hC.drew
  have FY1 := Lib.hid hfy
  have HN6 : Hid (∀ x ∈ [(xy, y1.vals), (xx, x1.vals), (xq, q.vals), (x7, s1.vals), (x6, s0.vals), (x5, p.vals)], c ≠ x.1) := Lib.hid (List.forall_mem_cons.2 ⟨Nat.ne_of_lt lt11, List.forall_mem_cons.2 ⟨Nat.ne_of_lt lt10, HNE8.out⟩⟩)
  clear hfy hS hC A16 D16 S16 C16 FY lt6 la
  go_wp2_with fail
  have HFQ : Hid (Fits q) := Lib.hid (fun i hi => cell_le (cellB_at HQC.out hi))
  refine wp_region_held_drew (S := St [(xy, y1.vals), (xx, x1.vals), (xq, q.vals), (x7, s1.vals), (x6, s0.vals), (x5, p.vals)] w) (by kernel_rfl) S17.out.drew (fun hHeld => ?_)
  refine wpAnyH_take (i := 0) (v := (.agg (Chg.arr s0))) rfl (by kernel_rfl) (by kernel_rfl) (by kernel_rfl) (fun _ _ _ h => h) (yieldsIf_load_mid (by rfl) 29 _ rfl x6 0 rfl s0.vals _ (fun W hSw => RowAt.range (hSw.row (b := x6) (vs := s0.vals) (by simp)) 0 (fun j v hv => by rw [Nat.zero_add]; exact hv)) Try.underlying29 rfl (by rw [cvals_length]; exact info_change)) (by assumption) ?_
  try simp only [Act.put, List.getElem_toArray, List.getElem_cons_zero, List.setIfInBounds_toArray, List.set_cons_zero, List.set_cons_succ]
  refine wpAnyH_take (i := 1) (v := (.agg (Chg.arr s1))) rfl (by kernel_rfl) (by kernel_rfl) (by kernel_rfl) (fun _ _ _ h => h) (yieldsIf_load_mid (by rfl) 29 _ rfl x7 0 rfl s1.vals _ (fun W hSw => RowAt.range (hSw.row (b := x7) (vs := s1.vals) (by simp)) 0 (fun j v hv => by rw [Nat.zero_add]; exact hv)) Try.underlying29 rfl (by rw [cvals_length]; exact info_change)) (by assumption) ?_
  try simp only [Act.put, List.getElem_toArray, List.getElem_cons_zero, List.getElem_cons_succ, List.setIfInBounds_toArray, List.set_cons_zero, List.set_cons_succ]
  refine wpAnyH_take (i := 2) (v := (.agg (pairA s0 s1))) rfl (by kernel_rfl) (by kernel_rfl) (by kernel_rfl) (fun _ _ _ h => h) (yieldsIf_pair s0 s1 (by rfl) rfl rfl rfl) (by assumption) ?_
  try simp only [Act.put, List.getElem_toArray, List.getElem_cons_zero, List.getElem_cons_succ, List.setIfInBounds_toArray, List.set_cons_zero, List.set_cons_succ]
  refine wpAnyH_take (i := 3) (v := (.agg (Chg.arr x1))) rfl (by kernel_rfl) (by kernel_rfl) (by kernel_rfl) (fun _ _ _ h => h) (yieldsIf_load_mid (by rfl) 29 _ rfl xx 0 rfl x1.vals _ (fun W hSw => RowAt.range (hSw.row (b := xx) (vs := x1.vals) (by simp)) 0 (fun j v hv => by rw [Nat.zero_add]; exact hv)) Try.underlying29 rfl (by rw [cvals_length]; exact info_change)) (by assumption) ?_
  try simp only [Act.put, List.getElem_toArray, List.getElem_cons_zero, List.getElem_cons_succ, List.setIfInBounds_toArray, List.set_cons_zero, List.set_cons_succ]
  refine wpAnyH_take (i := 4) (v := (.agg (Chg.arr y1))) rfl (by kernel_rfl) (by kernel_rfl) (by kernel_rfl) (fun _ _ _ h => h) (yieldsIf_load_mid (by rfl) 29 _ rfl xy 0 rfl y1.vals _ (fun W hSw => RowAt.range (hSw.row (b := xy) (vs := y1.vals) (by simp)) 0 (fun j v hv => by rw [Nat.zero_add]; exact hv)) Try.underlying29 rfl (by rw [cvals_length]; exact info_change)) (by assumption) ?_
  try simp only [Act.put, List.getElem_toArray, List.getElem_cons_zero, List.getElem_cons_succ, List.setIfInBounds_toArray, List.set_cons_zero, List.set_cons_succ]
  refine wpAnyH_take (i := 5) (v := (.agg (pairA x1 y1))) rfl (by kernel_rfl) (by kernel_rfl) (by kernel_rfl) (fun _ _ _ h => h) (yieldsIf_pair x1 y1 (by rfl) rfl rfl rfl) (by assumption) ?_
  try simp only [Act.put, List.getElem_toArray, List.getElem_cons_zero, List.getElem_cons_succ, List.setIfInBounds_toArray, List.set_cons_zero, List.set_cons_succ]
  refine wpAnyH_take (i := 6) (v := ?_) rfl (by kernel_rfl) (by kernel_rfl) (by kernel_rfl) (fun _ _ _ h => h) (Or.inl ⟨by rfl, ?_⟩) (by assumption) ?_
  rotate_left
  · (intro W _; go_simp; try with_reducible rfl)
  try simp only [Act.put, List.getElem_toArray, List.getElem_cons_zero, List.getElem_cons_succ, List.setIfInBounds_toArray, List.set_cons_zero, List.set_cons_succ]
  refine wpAnyH_take (i := 7) (v := (.agg (Chg.arr x1))) rfl (by kernel_rfl) (by kernel_rfl) (by kernel_rfl) (fun _ _ _ h => h) (yieldsIf_load_mid (by rfl) 29 _ rfl xx 0 rfl x1.vals _ (fun W hSw => RowAt.range (hSw.row (b := xx) (vs := x1.vals) (by simp)) 0 (fun j v hv => by rw [Nat.zero_add]; exact hv)) Try.underlying29 rfl (by rw [cvals_length]; exact info_change)) (by assumption) ?_
  try simp only [Act.put, List.getElem_toArray, List.getElem_cons_zero, List.getElem_cons_succ, List.setIfInBounds_toArray, List.set_cons_zero, List.set_cons_succ]
  refine wpAnyH_take (i := 9) (v := (.agg (Chg.arr y1))) rfl (by kernel_rfl) (by kernel_rfl) (by kernel_rfl) (fun _ _ _ h => h) (yieldsIf_load_mid (by rfl) 29 _ rfl xy 0 rfl y1.vals _ (fun W hSw => RowAt.range (hSw.row (b := xy) (vs := y1.vals) (by simp)) 0 (fun j v hv => by rw [Nat.zero_add]; exact hv)) Try.underlying29 rfl (by rw [cvals_length]; exact info_change)) (by assumption) ?_
  try simp only [Act.put, List.getElem_toArray, List.getElem_cons_zero, List.getElem_cons_succ, List.setIfInBounds_toArray, List.set_cons_zero, List.set_cons_succ]
  refine wpAnyH_take (i := 11) (v := (.agg (Chg.arr x1))) rfl (by kernel_rfl) (by kernel_rfl) (by kernel_rfl) (fun _ _ _ h => h) (yieldsIf_load_mid (by rfl) 29 _ rfl xx 0 rfl x1.vals _ (fun W hSw => RowAt.range (hSw.row (b := xx) (vs := x1.vals) (by simp)) 0 (fun j v hv => by rw [Nat.zero_add]; exact hv)) Try.underlying29 rfl (by rw [cvals_length]; exact info_change)) (by assumption) ?_
  try simp only [Act.put, List.getElem_toArray, List.getElem_cons_zero, List.getElem_cons_succ, List.setIfInBounds_toArray, List.set_cons_zero, List.set_cons_succ]
  refine wpAnyH_take (i := 12) (v := ?_) rfl (by kernel_rfl) (by kernel_rfl) (by kernel_rfl) (fun _ _ _ h => h) (Or.inl ⟨by rfl, ?_⟩) (by assumption) ?_
  rotate_left
  · (intro W _; go_simp; try with_reducible rfl)
  try simp only [Act.put, List.getElem_toArray, List.getElem_cons_zero, List.getElem_cons_succ, List.setIfInBounds_toArray, List.set_cons_zero, List.set_cons_succ]
  refine wpAnyH_take (i := 13) (v := (.agg (Chg.arr y1))) rfl (by kernel_rfl) (by kernel_rfl) (by kernel_rfl) (fun _ _ _ h => h) (yieldsIf_load_mid (by rfl) 29 _ rfl xy 0 rfl y1.vals _ (fun W hSw => RowAt.range (hSw.row (b := xy) (vs := y1.vals) (by simp)) 0 (fun j v hv => by rw [Nat.zero_add]; exact hv)) Try.underlying29 rfl (by rw [cvals_length]; exact info_change)) (by assumption) ?_
  try simp only [Act.put, List.getElem_toArray, List.getElem_cons_zero, List.getElem_cons_succ, List.setIfInBounds_toArray, List.set_cons_zero, List.set_cons_succ]
  refine wpAnyH_take (i := 18) (v := ?_) rfl (by kernel_rfl) (by kernel_rfl) (by kernel_rfl) (fun _ _ _ h => h) (Or.inl ⟨by rfl, ?_⟩) (by assumption) ?_
  rotate_left
  · (intro W _; go_simp; try with_reducible rfl)
  try simp only [Act.put, List.getElem_toArray, List.getElem_cons_zero, List.getElem_cons_succ, List.setIfInBounds_toArray, List.set_cons_zero, List.set_cons_succ]
  refine wpAnyH_ready (rs := [8]) (by kernel_rfl) (by simp) (AllReadyH.cons rfl (fun K hK => ?_) AllReadyH.nil)
  · go_simp
    go_wp2_with (go_at_call 12; (with_reducible refine (oddChange_any c x1 _ CA.out FX.out).mono ?_); rintro e W9_1 ⟨o1, rfl, hf1, hCo1, hgo1⟩)
    have HF1 := Lib.hid hf1
    have CB0 := Lib.hid hCo1
    refine hK.out _ _ (hHeld.grown hgo1 HLE2.out HN6.out) (fun hH9_2 => ?_)
    clear hK K
    try simp only [Act.put, List.getElem_toArray, List.getElem_cons_zero, List.getElem_cons_succ, List.setIfInBounds_toArray, List.set_cons_zero, List.set_cons_succ]
    refine wpAnyH_take (i := 10) (v := (.agg (pairA o1 y1))) rfl (by kernel_rfl) (by kernel_rfl) (by kernel_rfl) (fun _ _ _ h => h) (yieldsIf_pair o1 y1 (by rfl) rfl rfl rfl) (by assumption) ?_
    try simp only [Act.put, List.getElem_toArray, List.getElem_cons_zero, List.getElem_cons_succ, List.setIfInBounds_toArray, List.set_cons_zero, List.set_cons_succ]
    refine wpAnyH_ready (rs := [14]) (by kernel_rfl) (by simp) (AllReadyH.cons rfl (fun K hK => ?_) AllReadyH.nil)
    · go_simp
      go_wp2_with (go_at_call 12; (with_reducible refine (oddChange_any c y1 _ CB0.out FY1.out).mono ?_); rintro e W9_3 ⟨o2, rfl, hf2, hCo2, hgo2⟩)
      have HF2 := Lib.hid hf2
      have CC0 := Lib.hid hCo2
      refine hK.out _ _ (hH9_2.grown hgo2 HLE2.out HN6.out) (fun hH9_4 => ?_)
      clear hK K
      try simp only [Act.put, List.getElem_toArray, List.getElem_cons_zero, List.getElem_cons_succ, List.setIfInBounds_toArray, List.set_cons_zero, List.set_cons_succ]
      refine wpAnyH_take (i := 15) (v := (.agg (pairA x1 o2))) rfl (by kernel_rfl) (by kernel_rfl) (by kernel_rfl) (fun _ _ _ h => h) (yieldsIf_pair x1 o2 (by rfl) rfl rfl rfl) (by assumption) ?_
      try simp only [Act.put, List.getElem_toArray, List.getElem_cons_zero, List.getElem_cons_succ, List.setIfInBounds_toArray, List.set_cons_zero, List.set_cons_succ]
      refine wpAnyH_ready (rs := [16]) (by kernel_rfl) (by simp) (AllReadyH.cons rfl (fun K hK => ?_) AllReadyH.nil)
      · simp only [List.getElem_toArray, List.getElem_cons_zero, List.getElem_cons_succ]
        rw [if_pos (by rfl)]
        with_reducible refine op_quad s0 s1 x1 y1 o1 y1 x1 o2 (by rfl) ?_ ?_ ?_ ?_ (fun w9x hR9 hb9 => ?_)
        · rfl
        · rfl
        · rfl
        · rfl
        have R9 := Lib.hid hR9
        refine hK.out _ _ (hH9_4.keep hb9) (fun hH9_6 => ?_)
        clear hK K
        simp only [Act.put, List.setIfInBounds_toArray, List.set_cons_zero, List.set_cons_succ]
        refine wpAnyH_take (i := 17) (v := ?_) rfl (by kernel_rfl) (by kernel_rfl) (by kernel_rfl) (fun _ _ _ h => h) (Or.inl ⟨by rfl, ?_⟩) (by assumption) ?_
        rotate_left
        · (intro W _; go_simp; try with_reducible rfl)
        try simp only [Act.put, List.getElem_toArray, List.getElem_cons_zero, List.getElem_cons_succ, List.setIfInBounds_toArray, List.set_cons_zero, List.set_cons_succ]
        refine wpAnyH_done (by kernel_rfl) ?_ _
        have SA := Lib.hid ((hH9_6.add R9.out).sub (l' := [(W9_3.heap.size, quad s0 s1 x1 y1 o1 y1 x1 o2), (xq, q.vals), (x5, p.vals)]) (by simp))
        have CD := Lib.hid (cod_keep CC0.out hb9)
        have Q4 := Lib.hid (quad_at s0 s1 x1 y1 o1 y1 x1 o2 F0.out F1.out FX.out FY1.out HF1.out FY1.out FX.out HF2.out)
        have hn9 := Nat.ne_of_lt (cod_lt CC0.out)
        clear hR9 hb9 R9
        generalize quad s0 s1 x1 y1 o1 y1 x1 o2 = l4 at *
        generalize W9_3.heap.size = bs at *
        have HNA : Hid (∀ x ∈ [(bs, l4), (xq, q.vals), (x5, p.vals)], c ≠ x.1) := Lib.hid (by have h := HN6.out; simp at h ⊢; exact ⟨hn9, h.2.2.1, h.2.2.2.2.2⟩)
        clear hn9
        go_wp2_with fail
        go_loopw [76] (fun i wr => ∃ j : Nat, j ≤ 4 ∧ i = .int .i64 j ∧ St [(bs, l4), (xq, q.vals), (x5, p.vals)] w wr ∧ Cod c wr) (fun i _ => 4 - (intOf i).toNat)
        case atStart => exact ⟨0, by omega, rfl, SA.out, CD.out⟩
        case round =>
          obtain ⟨j, hj, rfl, h1, h2⟩ := hrel
          have S30 := Lib.hid h1
          have C30 := Lib.hid h2
          have l30 := cod_lt h2
          clear SA CD h1 h2
          by_cases hj4 : j < 4
          · obtain ⟨z0, z1, hz0, hz1, hat⟩ := Q4.out j hj4
            have HAT := Lib.hid hat
            have FZ0 := Lib.hid hz0
            have FZ1 := Lib.hid hz1
            have q0 : (0 : Int) ≤ (j : Int) := by omega
            have q1 : (j : Int) < 4 := by omega
            obtain ⟨jc, hjc⟩ : ∃ t, joinP z0 z1 = t := ⟨_, rfl⟩
            obtain ⟨jn, hjn⟩ : ∃ n, joinE z0 z1 = n := ⟨_, rfl⟩
            obtain ⟨vb, hvb⟩ : ∃ v, validH z0 = v := ⟨_, rfl⟩
            obtain ⟨cb, hcb⟩ : ∃ v, cellB z0.after = v := ⟨_, rfl⟩
            have HJP : Hid (∀ W, Calls Try.prog 13 #[.agg z0.arr, .agg z1.arr] W fun e w' => e = .returned (.tuple #[.agg jc.arr, .int .i64 jn]) ∧ Below W.heap.size W w') := Lib.hid fun W => join_b z0 z1 jc jn hjc hjn W hz0 hz1
            have HJR : Hid (∀ W, Calls Try.prog 14 #[.agg z0.arr, .agg z1.arr] W fun e w' => e = .returned (.tuple #[.agg jc.arr, .int .i64 jn]) ∧ Below W.heap.size W w') := Lib.hid fun W => refJoin_b z0 z1 jc jn hjc hjn W hz0 hz1
            have HVP : Hid (∀ W, Calls Try.prog 15 #[.agg z0.arr] W fun e w' => e = .returned (.bool vb) ∧ Below W.heap.size W w') := Lib.hid fun W => valid_b z0 vb hvb W hz0
            have HVR : Hid (∀ W, Calls Try.prog 16 #[.agg z0.arr] W fun e w' => e = .returned (.bool vb) ∧ Below W.heap.size W w') := Lib.hid fun W => refValid_b z0 vb hvb W hz0
            have HCP : Hid (∀ W, Calls Try.prog 19 #[.agg #[.bool z0.after.set, .string z0.after.data]] W fun e w' => e = .returned (.bool cb) ∧ Below W.heap.size W w') := Lib.hid fun W => validCell_b z0.after cb hcb W hz0.2
            have HCR : Hid (∀ W, Calls Try.prog 20 #[.agg #[.bool z0.after.set, .string z0.after.data]] W fun e w' => e = .returned (.bool cb) ∧ Below W.heap.size W w') := Lib.hid fun W => refCell_b z0.after cb hcb W hz0.2
            have jn1 := chg_neq_self jc
            have jn2 := chg_neq_self (inv z1)
            clear hat hz0 hz1 hjc hjn hvb hcb
            go_wp2_with (first
              | (refine wp_loadPairAt z0 z1 (j * 12) (S30.out.row (b := bs) (vs := l4) (by simp)) HAT.out rfl rfl rfl ?_)
              | (have _t := S30.out; refine wp_newPairW rfl rfl ?_; intro w31 hP hb _; have N31 := Lib.hid hP; have M31 := Lib.hid hb; have C31 := Lib.hid (cod_keep C30.out hb); clear hP hb _t C30)
              | (refine wp_storePairW z0 z1 N31.out (pair_length _ _) rfl rfl rfl rfl ?_; intro w32 hP hS; have S32 := Lib.hid (S30.out.push M31.out hP hS); have C32 := Lib.hid (hS.cod C31.out l30); clear hP hS S30 N31 M31 C31)
              | (refine wp_loadChgAt z0 0 (S32.out.row (vs := pairL z0 z1) (List.mem_cons_self ..)) (fun j v hv => pair0 hv) rfl rfl rfl ?_)
              | (refine wp_loadChgAt z1 6 (S32.out.row (vs := pairL z0 z1) (List.mem_cons_self ..)) (fun j v hv => pair1 hv) rfl rfl rfl ?_)
              | (go_at_call 13; (with_reducible refine (HJP.out _).mono ?_); rintro e w33 ⟨rfl, hb⟩; have S33 := Lib.hid (S32.out.keep hb); have C33 := Lib.hid (cod_keep C32.out hb); have l33 := cod_lt C33.out; clear hb S32 C32)
              | (have _t := S33.out; refine wp_newChgW rfl rfl ?_; intro w34 hP hb _; have N34 := Lib.hid hP; have M34 := Lib.hid hb; have C34 := Lib.hid (cod_keep C33.out hb); clear hP hb _t C33)
              | (refine wp_storeChgW jc N34.out (cvals_length _) rfl rfl rfl rfl ?_; intro w35 hP hS; have S35 := Lib.hid (S33.out.push M34.out hP hS); have C35 := Lib.hid (hS.cod C34.out l33); clear hP hS S33 N34 M34 C34)
              | (refine wp_loadChgAt z0 0 (S35.out.row (vs := pairL z0 z1) (List.mem_cons_of_mem _ (List.mem_cons_self ..))) (fun j v hv => pair0 hv) rfl rfl rfl ?_)
              | (refine wp_loadChgAt z1 6 (S35.out.row (vs := pairL z0 z1) (List.mem_cons_of_mem _ (List.mem_cons_self ..))) (fun j v hv => pair1 hv) rfl rfl rfl ?_)
              | (go_at_call 14; (with_reducible refine (HJR.out _).mono ?_); rintro e w36 ⟨rfl, hb⟩; have S36 := Lib.hid (S35.out.keep hb); have C36 := Lib.hid (cod_keep C35.out hb); have l36 := cod_lt C36.out; clear hb S35 C35)
              | (have _t := S36.out; refine wp_newChgW rfl rfl ?_; intro w37 hP hb _; have N37 := Lib.hid hP; have M37 := Lib.hid hb; have C37 := Lib.hid (cod_keep C36.out hb); clear hP hb _t C36)
              | (refine wp_storeChgW jc N37.out (cvals_length _) rfl rfl rfl rfl ?_; intro w38 hP hS; have S38 := Lib.hid (S36.out.push M37.out hP hS); have C38 := Lib.hid (hS.cod C37.out l36); clear hP hS S36 N37 M37 C37))
            have HNB : Hid (∀ x ∈ [(wr.heap.size, pairL z0 z1), (bs, l4), (xq, q.vals), (x5, p.vals)], c ≠ x.1) := Lib.hid (List.forall_mem_cons.2 ⟨Nat.ne_of_lt l30, HNA.out⟩)
            have CV0 := Lib.hid C38.out.drew
            clear C38
            generalize wr.heap.size = xb at *
            generalize w33.heap.size = y15 at *
            generalize w36.heap.size = y17 at *
            refine wp_region_held_drew (S := St [(y17, jc.vals), (y15, jc.vals), (xb, pairL z0 z1), (bs, l4), (xq, q.vals), (x5, p.vals)] w) (by kernel_rfl) S38.out.drew (fun hHeld => ?_)
            refine wpAnyH_take (i := 0) (v := (.agg (Chg.arr jc))) rfl (by kernel_rfl) (by kernel_rfl) (by kernel_rfl) (fun _ _ _ h => h) (yieldsIf_load_mid (by rfl) 29 _ rfl y15 0 rfl jc.vals _ (fun W hSw => RowAt.range (hSw.row (b := y15) (vs := jc.vals) (by simp)) 0 (fun j v hv => by rw [Nat.zero_add]; exact hv)) Try.underlying29 rfl (by rw [cvals_length]; exact info_change)) (by assumption) ?_
            try simp only [Act.put, List.getElem_toArray, List.getElem_cons_zero, List.setIfInBounds_toArray, List.set_cons_zero, List.set_cons_succ]
            refine wpAnyH_take (i := 1) (v := (.agg (Chg.arr jc))) rfl (by kernel_rfl) (by kernel_rfl) (by kernel_rfl) (fun _ _ _ h => h) (yieldsIf_load_mid (by rfl) 29 _ rfl y17 0 rfl jc.vals _ (fun W hSw => RowAt.range (hSw.row (b := y17) (vs := jc.vals) (by simp)) 0 (fun j v hv => by rw [Nat.zero_add]; exact hv)) Try.underlying29 rfl (by rw [cvals_length]; exact info_change)) (by assumption) ?_
            try simp only [Act.put, List.getElem_toArray, List.getElem_cons_zero, List.getElem_cons_succ, List.setIfInBounds_toArray, List.set_cons_zero, List.set_cons_succ]
            refine wpAnyH_take (i := 2) (v := ?_) rfl (by kernel_rfl) (by kernel_rfl) (by kernel_rfl) (fun _ _ _ h => h) (Or.inl ⟨by rfl, ?_⟩) (by assumption) ?_
            rotate_left
            · (intro W _; go_simp; try with_reducible rfl)
            try simp only [Act.put, List.getElem_toArray, List.getElem_cons_zero, List.getElem_cons_succ, List.setIfInBounds_toArray, List.set_cons_zero, List.set_cons_succ]
            refine wpAnyH_take (i := 3) (v := ?_) rfl (by kernel_rfl) (by kernel_rfl) (by kernel_rfl) (fun _ _ _ h => h) (Or.inl ⟨by rfl, ?_⟩) (by assumption) ?_
            rotate_left
            · (intro W _; go_simp; try with_reducible rfl)
            try simp only [Act.put, List.getElem_toArray, List.getElem_cons_zero, List.getElem_cons_succ, List.setIfInBounds_toArray, List.set_cons_zero, List.set_cons_succ]
            refine wpAnyH_take (i := 4) (v := ?_) rfl (by kernel_rfl) (by kernel_rfl) (by kernel_rfl) (fun _ _ _ h => h) (Or.inl ⟨by rfl, ?_⟩) (by assumption) ?_
            rotate_left
            · (intro W _; go_simp; try with_reducible rfl)
            try simp only [Act.put, List.getElem_toArray, List.getElem_cons_zero, List.getElem_cons_succ, List.setIfInBounds_toArray, List.set_cons_zero, List.set_cons_succ]
            refine wpAnyH_take (i := 5) (v := ?_) rfl (by kernel_rfl) (by kernel_rfl) (by kernel_rfl) (fun _ _ _ h => h) (Or.inl ⟨by rfl, ?_⟩) (by assumption) ?_
            rotate_left
            · (intro W _; go_simp; try with_reducible rfl)
            try simp only [Act.put, List.getElem_toArray, List.getElem_cons_zero, List.getElem_cons_succ, List.setIfInBounds_toArray, List.set_cons_zero, List.set_cons_succ]
            refine wpAnyH_take (i := 6) (v := ?_) rfl (by kernel_rfl) (by kernel_rfl) (by kernel_rfl) (fun _ _ _ h => h) (Or.inl ⟨by rfl, ?_⟩) (by assumption) ?_
            rotate_left
            · (intro W _; go_simp; try with_reducible rfl)
            try simp only [Act.put, List.getElem_toArray, List.getElem_cons_zero, List.getElem_cons_succ, List.setIfInBounds_toArray, List.set_cons_zero, List.set_cons_succ]
            refine wpAnyH_take (i := 7) (v := ?_) rfl (by kernel_rfl) (by kernel_rfl) (by kernel_rfl) (fun _ _ _ h => h) (Or.inl ⟨by rfl, ?_⟩) (by assumption) ?_
            rotate_left
            · (intro W _; go_simp; try with_reducible rfl)
            try simp only [Act.put, List.getElem_toArray, List.getElem_cons_zero, List.getElem_cons_succ, List.setIfInBounds_toArray, List.set_cons_zero, List.set_cons_succ]
            refine wpAnyH_take (i := 8) (v := ?_) rfl (by kernel_rfl) (by kernel_rfl) (by kernel_rfl) (fun _ _ _ h => h) (Or.inl ⟨by rfl, ?_⟩) (by assumption) ?_
            rotate_left
            · (intro W _; go_simp; try with_reducible rfl)
            try simp only [Act.put, List.getElem_toArray, List.getElem_cons_zero, List.getElem_cons_succ, List.setIfInBounds_toArray, List.set_cons_zero, List.set_cons_succ]
            refine wpAnyH_take (i := 9) (v := ?_) rfl (by kernel_rfl) (by kernel_rfl) (by kernel_rfl) (fun _ _ _ h => h) (Or.inl ⟨by rfl, ?_⟩) (by assumption) ?_
            rotate_left
            · (intro W _; go_simp; try with_reducible rfl)
            try simp only [Act.put, List.getElem_toArray, List.getElem_cons_zero, List.getElem_cons_succ, List.setIfInBounds_toArray, List.set_cons_zero, List.set_cons_succ]
            refine wpAnyH_take (i := 10) (v := (.agg (Chg.arr z0))) rfl (by kernel_rfl) (by kernel_rfl) (by kernel_rfl) (fun _ _ _ h => h) (yieldsIf_load_mid (by rfl) 29 _ rfl xb 0 rfl z0.vals _ (fun W hSw => RowAt.range (hSw.row (b := xb) (vs := pairL z0 z1) (by simp)) 0 (fun j v hv => pair0 hv)) Try.underlying29 rfl info_change) (by assumption) ?_
            try simp only [Act.put, List.getElem_toArray, List.getElem_cons_zero, List.getElem_cons_succ, List.setIfInBounds_toArray, List.set_cons_zero, List.set_cons_succ]
            refine wpAnyH_take (i := 12) (v := ?_) rfl (by kernel_rfl) (by kernel_rfl) (by kernel_rfl) (fun _ _ _ h => h) (Or.inl ⟨by rfl, ?_⟩) (by assumption) ?_
            rotate_left
            · (intro W _; go_simp; try with_reducible rfl)
            try simp only [Act.put, List.getElem_toArray, List.getElem_cons_zero, List.getElem_cons_succ, List.setIfInBounds_toArray, List.set_cons_zero, List.set_cons_succ]
            refine wpAnyH_take (i := 13) (v := (.agg (Chg.arr z0))) rfl (by kernel_rfl) (by kernel_rfl) (by kernel_rfl) (fun _ _ _ h => h) (yieldsIf_load_mid (by rfl) 29 _ rfl xb 0 rfl z0.vals _ (fun W hSw => RowAt.range (hSw.row (b := xb) (vs := pairL z0 z1) (by simp)) 0 (fun j v hv => pair0 hv)) Try.underlying29 rfl info_change) (by assumption) ?_
            try simp only [Act.put, List.getElem_toArray, List.getElem_cons_zero, List.getElem_cons_succ, List.setIfInBounds_toArray, List.set_cons_zero, List.set_cons_succ]
            refine wpAnyH_ready (rs := [11]) (by kernel_rfl) (by simp) (AllReadyH.cons rfl (fun K hK => ?_) AllReadyH.nil)
            · go_simp
              go_wp2_with (go_at_call 15; (with_reducible refine (HVP.out _).mono ?_); rintro e W14_1 ⟨rfl, hbv1⟩)
              have CV1 := Lib.hid (cod_keep CV0.out hbv1)
              refine hK.out _ _ (hHeld.keep hbv1) (fun hH14_2 => ?_)
              clear hK K
              try simp only [Act.put, List.getElem_toArray, List.getElem_cons_zero, List.getElem_cons_succ, List.setIfInBounds_toArray, List.set_cons_zero, List.set_cons_succ]
              refine wpAnyH_ready (rs := [14]) (by kernel_rfl) (by simp) (AllReadyH.cons rfl (fun K hK => ?_) AllReadyH.nil)
              · go_simp
                go_wp2_with (go_at_call 16; (with_reducible refine (HVR.out _).mono ?_); rintro e W14_3 ⟨rfl, hbv2⟩)
                have CV2 := Lib.hid (cod_keep CV1.out hbv2)
                refine hK.out _ _ (hH14_2.keep hbv2) (fun hH14_4 => ?_)
                clear hK K
                try simp only [Act.put, List.getElem_toArray, List.getElem_cons_zero, List.getElem_cons_succ, List.setIfInBounds_toArray, List.set_cons_zero, List.set_cons_succ]
                refine wpAnyH_take (i := 15) (v := ?_) rfl (by kernel_rfl) (by kernel_rfl) (by kernel_rfl) (fun _ _ _ h => h) (Or.inl ⟨by rfl, ?_⟩) (by assumption) ?_
                rotate_left
                · (intro W _; go_simp; try with_reducible rfl)
                try simp only [Act.put, List.getElem_toArray, List.getElem_cons_zero, List.getElem_cons_succ, List.setIfInBounds_toArray, List.set_cons_zero, List.set_cons_succ]
                refine wpAnyH_take (i := 16) (v := ?_) rfl (by kernel_rfl) (by kernel_rfl) (by kernel_rfl) (fun _ _ _ h => h) (Or.inl ⟨by rfl, ?_⟩) (by assumption) ?_
                rotate_left
                · (intro W _; go_simp; try with_reducible rfl)
                try simp only [Act.put, List.getElem_toArray, List.getElem_cons_zero, List.getElem_cons_succ, List.setIfInBounds_toArray, List.set_cons_zero, List.set_cons_succ]
                refine wpAnyH_take (i := 17) (v := ?_) rfl (by kernel_rfl) (by kernel_rfl) (by kernel_rfl) (fun _ _ _ h => h) (Or.inl ⟨by rfl, ?_⟩) (by assumption) ?_
                rotate_left
                · (intro W _; go_simp; try with_reducible rfl)
                try simp only [Act.put, List.getElem_toArray, List.getElem_cons_zero, List.getElem_cons_succ, List.setIfInBounds_toArray, List.set_cons_zero, List.set_cons_succ]
                refine wpAnyH_take (i := 18) (v := ?_) rfl (by kernel_rfl) (by kernel_rfl) (by kernel_rfl) (fun _ _ _ h => h) (Or.inl ⟨by rfl, ?_⟩) (by assumption) ?_
                rotate_left
                · (intro W _; go_simp; try with_reducible rfl)
                try simp only [Act.put, List.getElem_toArray, List.getElem_cons_zero, List.getElem_cons_succ, List.setIfInBounds_toArray, List.set_cons_zero, List.set_cons_succ]
                refine wpAnyH_take (i := 19) (v := (.agg (Chg.arr z1))) rfl (by kernel_rfl) (by kernel_rfl) (by kernel_rfl) (fun _ _ _ h => h) (yieldsIf_load_mid (by rfl) 29 _ rfl xb 6 rfl z1.vals _ (fun W hSw => RowAt.range (hSw.row (b := xb) (vs := pairL z0 z1) (by simp)) 6 (fun j v hv => pair1 hv)) Try.underlying29 rfl info_change) (by assumption) ?_
                try simp only [Act.put, List.getElem_toArray, List.getElem_cons_zero, List.getElem_cons_succ, List.setIfInBounds_toArray, List.set_cons_zero, List.set_cons_succ]
                refine wpAnyH_take (i := 21) (v := ?_) rfl (by kernel_rfl) (by kernel_rfl) (by kernel_rfl) (fun _ _ _ h => h) (Or.inl ⟨by rfl, ?_⟩) (by assumption) ?_
                rotate_left
                · (intro W _; go_simp; try with_reducible rfl)
                try simp only [Act.put, List.getElem_toArray, List.getElem_cons_zero, List.getElem_cons_succ, List.setIfInBounds_toArray, List.set_cons_zero, List.set_cons_succ]
                refine wpAnyH_take (i := 22) (v := (.agg (Chg.arr z1))) rfl (by kernel_rfl) (by kernel_rfl) (by kernel_rfl) (fun _ _ _ h => h) (yieldsIf_load_mid (by rfl) 29 _ rfl xb 6 rfl z1.vals _ (fun W hSw => RowAt.range (hSw.row (b := xb) (vs := pairL z0 z1) (by simp)) 6 (fun j v hv => pair1 hv)) Try.underlying29 rfl info_change) (by assumption) ?_
                try simp only [Act.put, List.getElem_toArray, List.getElem_cons_zero, List.getElem_cons_succ, List.setIfInBounds_toArray, List.set_cons_zero, List.set_cons_succ]
                refine wpAnyH_ready (rs := [20]) (by kernel_rfl) (by simp) (AllReadyH.cons rfl (fun K hK => ?_) AllReadyH.nil)
                · go_simp
                  go_wp2_with (go_at_call 17; (with_reducible refine (inverse_any z1 _).mono ?_); rintro e W14_5 ⟨rfl, hbv3⟩)
                  have CV3 := Lib.hid (cod_keep CV2.out hbv3)
                  refine hK.out _ _ (hH14_4.keep hbv3) (fun hH14_6 => ?_)
                  clear hK K
                  try simp only [Act.put, List.getElem_toArray, List.getElem_cons_zero, List.getElem_cons_succ, List.setIfInBounds_toArray, List.set_cons_zero, List.set_cons_succ]
                  refine wpAnyH_ready (rs := [23]) (by kernel_rfl) (by simp) (AllReadyH.cons rfl (fun K hK => ?_) AllReadyH.nil)
                  · go_simp
                    go_wp2_with (go_at_call 18; (with_reducible refine (refInverse_any z1 _).mono ?_); rintro e W14_7 ⟨rfl, hbv4⟩)
                    have CV4 := Lib.hid (cod_keep CV3.out hbv4)
                    refine hK.out _ _ (hH14_6.keep hbv4) (fun hH14_8 => ?_)
                    clear hK K
                    try simp only [Act.put, List.getElem_toArray, List.getElem_cons_zero, List.getElem_cons_succ, List.setIfInBounds_toArray, List.set_cons_zero, List.set_cons_succ]
                    refine wpAnyH_take (i := 24) (v := ?_) rfl (by kernel_rfl) (by kernel_rfl) (by kernel_rfl) (fun _ _ _ h => h) (Or.inl ⟨by rfl, ?_⟩) (by assumption) ?_
                    rotate_left
                    · (intro W _; go_simp; try with_reducible rfl)
                    try simp only [Act.put, List.getElem_toArray, List.getElem_cons_zero, List.getElem_cons_succ, List.setIfInBounds_toArray, List.set_cons_zero, List.set_cons_succ]
                    refine wpAnyH_take (i := 25) (v := ?_) rfl (by kernel_rfl) (by kernel_rfl) (by kernel_rfl) (fun _ _ _ h => h) (Or.inl ⟨by rfl, ?_⟩) (by assumption) ?_
                    rotate_left
                    · (intro W _; go_simp; try with_reducible rfl)
                    try simp only [Act.put, List.getElem_toArray, List.getElem_cons_zero, List.getElem_cons_succ, List.setIfInBounds_toArray, List.set_cons_zero, List.set_cons_succ]
                    refine wpAnyH_take (i := 26) (v := ?_) rfl (by kernel_rfl) (by kernel_rfl) (by kernel_rfl) (fun _ _ _ h => h) (Or.inl ⟨by rfl, ?_⟩) (by assumption) ?_
                    rotate_left
                    · (intro W _; go_simp; try with_reducible rfl)
                    try simp only [Act.put, List.getElem_toArray, List.getElem_cons_zero, List.getElem_cons_succ, List.setIfInBounds_toArray, List.set_cons_zero, List.set_cons_succ]
                    refine wpAnyH_take (i := 27) (v := ?_) rfl (by kernel_rfl) (by kernel_rfl) (by kernel_rfl) (fun _ _ _ h => h) (Or.inl ⟨by rfl, ?_⟩) (by assumption) ?_
                    rotate_left
                    · (intro W _; go_simp; try with_reducible rfl)
                    try simp only [Act.put, List.getElem_toArray, List.getElem_cons_zero, List.getElem_cons_succ, List.setIfInBounds_toArray, List.set_cons_zero, List.set_cons_succ]
                    refine wpAnyH_take (i := 28) (v := ?_) rfl (by kernel_rfl) (by kernel_rfl) (by kernel_rfl) (fun _ _ _ h => h) (Or.inl ⟨by rfl, ?_⟩) (by assumption) ?_
                    rotate_left
                    · (intro W _; go_simp; try with_reducible rfl)
                    try simp only [Act.put, List.getElem_toArray, List.getElem_cons_zero, List.getElem_cons_succ, List.setIfInBounds_toArray, List.set_cons_zero, List.set_cons_succ]
                    refine wpAnyH_take (i := 29) (v := (.agg #[.bool z0.after.set, .string z0.after.data])) rfl (by kernel_rfl) (by kernel_rfl) (by kernel_rfl) (fun _ _ _ h => h) (yieldsIf_load_mid (by rfl) 24 _ rfl xb 4 rfl z0.after.vals _ (fun W hSw => RowAt.range (hSw.row (b := xb) (vs := pairL z0 z1) (by simp)) 4 (fun j v hv => pairC hv)) Try.underlying24 rfl info_cell) (by assumption) ?_
                    try simp only [Act.put, List.getElem_toArray, List.getElem_cons_zero, List.getElem_cons_succ, List.setIfInBounds_toArray, List.set_cons_zero, List.set_cons_succ]
                    refine wpAnyH_take (i := 31) (v := ?_) rfl (by kernel_rfl) (by kernel_rfl) (by kernel_rfl) (fun _ _ _ h => h) (Or.inl ⟨by rfl, ?_⟩) (by assumption) ?_
                    rotate_left
                    · (intro W _; go_simp; try with_reducible rfl)
                    try simp only [Act.put, List.getElem_toArray, List.getElem_cons_zero, List.getElem_cons_succ, List.setIfInBounds_toArray, List.set_cons_zero, List.set_cons_succ]
                    refine wpAnyH_take (i := 32) (v := ?_) rfl (by kernel_rfl) (by kernel_rfl) (by kernel_rfl) (fun _ _ _ h => h) (Or.inl ⟨by rfl, ?_⟩) (by assumption) ?_
                    rotate_left
                    · (intro W _; go_simp; try with_reducible rfl)
                    try simp only [Act.put, List.getElem_toArray, List.getElem_cons_zero, List.getElem_cons_succ, List.setIfInBounds_toArray, List.set_cons_zero, List.set_cons_succ]
                    refine wpAnyH_take (i := 33) (v := (.agg #[.bool z0.after.set, .string z0.after.data])) rfl (by kernel_rfl) (by kernel_rfl) (by kernel_rfl) (fun _ _ _ h => h) (yieldsIf_load_mid (by rfl) 24 _ rfl xb 4 rfl z0.after.vals _ (fun W hSw => RowAt.range (hSw.row (b := xb) (vs := pairL z0 z1) (by simp)) 4 (fun j v hv => pairC hv)) Try.underlying24 rfl info_cell) (by assumption) ?_
                    try simp only [Act.put, List.getElem_toArray, List.getElem_cons_zero, List.getElem_cons_succ, List.setIfInBounds_toArray, List.set_cons_zero, List.set_cons_succ]
                    refine wpAnyH_ready (rs := [30]) (by kernel_rfl) (by simp) (AllReadyH.cons rfl (fun K hK => ?_) AllReadyH.nil)
                    · go_simp
                      go_wp2_with (go_at_call 19; (with_reducible refine (HCP.out _).mono ?_); rintro e W14_9 ⟨rfl, hbv5⟩)
                      have CV5 := Lib.hid (cod_keep CV4.out hbv5)
                      refine hK.out _ _ (hH14_8.keep hbv5) (fun hH14_10 => ?_)
                      clear hK K
                      try simp only [Act.put, List.getElem_toArray, List.getElem_cons_zero, List.getElem_cons_succ, List.setIfInBounds_toArray, List.set_cons_zero, List.set_cons_succ]
                      refine wpAnyH_ready (rs := [34]) (by kernel_rfl) (by simp) (AllReadyH.cons rfl (fun K hK => ?_) AllReadyH.nil)
                      · go_simp
                        go_wp2_with (go_at_call 20; (with_reducible refine (HCR.out _).mono ?_); rintro e W14_11 ⟨rfl, hbv6⟩)
                        have CV6 := Lib.hid (cod_keep CV5.out hbv6)
                        refine hK.out _ _ (hH14_10.keep hbv6) (fun hH14_12 => ?_)
                        clear hK K
                        try simp only [Act.put, List.getElem_toArray, List.getElem_cons_zero, List.getElem_cons_succ, List.setIfInBounds_toArray, List.set_cons_zero, List.set_cons_succ]
                        refine wpAnyH_take (i := 35) (v := ?_) rfl (by kernel_rfl) (by kernel_rfl) (by kernel_rfl) (fun _ _ _ h => h) (Or.inl ⟨by rfl, ?_⟩) (by assumption) ?_
                        rotate_left
                        · (intro W _; go_simp; try with_reducible rfl)
                        try simp only [Act.put, List.getElem_toArray, List.getElem_cons_zero, List.getElem_cons_succ, List.setIfInBounds_toArray, List.set_cons_zero, List.set_cons_succ]
                        refine wpAnyH_take (i := 36) (v := ?_) rfl (by kernel_rfl) (by kernel_rfl) (by kernel_rfl) (fun _ _ _ h => h) (Or.inl ⟨by rfl, ?_⟩) (by assumption) ?_
                        rotate_left
                        · (intro W _; go_simp; try with_reducible rfl)
                        try simp only [Act.put, List.getElem_toArray, List.getElem_cons_zero, List.getElem_cons_succ, List.setIfInBounds_toArray, List.set_cons_zero, List.set_cons_succ]
                        refine wpAnyH_done (by kernel_rfl) ?_ _
                        have SB := Lib.hid (hH14_12.sub (l' := [(xb, pairL z0 z1), (bs, l4), (xq, q.vals), (x5, p.vals)]) (fun x hx => List.mem_cons_of_mem _ (List.mem_cons_of_mem _ hx)))
                        have CB := Lib.hid CV6.out.drew
                        go_wp2_with fail
                        refine wp_region_held_drew (S := St [(xb, pairL z0 z1), (bs, l4), (xq, q.vals), (x5, p.vals)] w) (by kernel_rfl) SB.out.drew (fun hHeld => ?_)
                        refine wpAnyH_take (i := 0) (v := (.agg (Pg.arr p))) rfl (by kernel_rfl) (by kernel_rfl) (by kernel_rfl) (fun _ _ _ h => h) (yieldsIf_load_mid (by rfl) 27 _ rfl x5 0 rfl p.vals _ (fun W hSw => RowAt.range (hSw.row (b := x5) (vs := p.vals) (by simp)) 0 (fun j v hv => by rw [Nat.zero_add]; exact hv)) Try.underlying27 rfl (by rw [vals_length]; exact info_page)) (by assumption) ?_
                        try simp only [Act.put, List.getElem_toArray, List.getElem_cons_zero, List.setIfInBounds_toArray, List.set_cons_zero, List.set_cons_succ]
                        refine wpAnyH_take (i := 1) (v := (.agg (Pg.arr q))) rfl (by kernel_rfl) (by kernel_rfl) (by kernel_rfl) (fun _ _ _ h => h) (yieldsIf_load_mid (by rfl) 27 _ rfl xq 0 rfl q.vals _ (fun W hSw => RowAt.range (hSw.row (b := xq) (vs := q.vals) (by simp)) 0 (fun j v hv => by rw [Nat.zero_add]; exact hv)) Try.underlying27 rfl (by rw [vals_length]; exact info_page)) (by assumption) ?_
                        try simp only [Act.put, List.getElem_toArray, List.getElem_cons_zero, List.getElem_cons_succ, List.setIfInBounds_toArray, List.set_cons_zero, List.set_cons_succ]
                        refine wpAnyH_take (i := 2) (v := ?_) rfl (by kernel_rfl) (by kernel_rfl) (by kernel_rfl) (fun _ _ _ h => h) (Or.inl ⟨by rfl, ?_⟩) (by assumption) ?_
                        rotate_left
                        · (intro W _; go_simp; try with_reducible rfl)
                        try simp only [Act.put, List.getElem_toArray, List.getElem_cons_zero, List.getElem_cons_succ, List.setIfInBounds_toArray, List.set_cons_zero, List.set_cons_succ]
                        refine wpAnyH_take (i := 3) (v := (.agg (Pg.arr q))) rfl (by kernel_rfl) (by kernel_rfl) (by kernel_rfl) (fun _ _ _ h => h) (yieldsIf_load_mid (by rfl) 27 _ rfl xq 0 rfl q.vals _ (fun W hSw => RowAt.range (hSw.row (b := xq) (vs := q.vals) (by simp)) 0 (fun j v hv => by rw [Nat.zero_add]; exact hv)) Try.underlying27 rfl (by rw [vals_length]; exact info_page)) (by assumption) ?_
                        try simp only [Act.put, List.getElem_toArray, List.getElem_cons_zero, List.getElem_cons_succ, List.setIfInBounds_toArray, List.set_cons_zero, List.set_cons_succ]
                        refine wpAnyH_take (i := 7) (v := ?_) rfl (by kernel_rfl) (by kernel_rfl) (by kernel_rfl) (fun _ _ _ h => h) (Or.inl ⟨by rfl, ?_⟩) (by assumption) ?_
                        rotate_left
                        · (intro W _; go_simp; try with_reducible rfl)
                        try simp only [Act.put, List.getElem_toArray, List.getElem_cons_zero, List.getElem_cons_succ, List.setIfInBounds_toArray, List.set_cons_zero, List.set_cons_succ]
                        refine wpAnyH_ready (rs := [4]) (by kernel_rfl) (by simp) (AllReadyH.cons rfl (fun K hK => ?_) AllReadyH.nil)
                        · go_simp
                          go_wp2_with (go_at_call 21; (with_reducible refine (odd_any c q _ CB.out HFQ.out).mono ?_); rintro e W16_1 ⟨o3, rfl, _, hCo3, hgo3⟩)
                          have CB2 := Lib.hid hCo3
                          refine hK.out _ _ (hHeld.grown hgo3 HLE2.out HNB.out) (fun hH16_2 => ?_)
                          clear hK K
                          try simp only [Act.put, List.getElem_toArray, List.getElem_cons_zero, List.getElem_cons_succ, List.setIfInBounds_toArray, List.set_cons_zero, List.set_cons_succ]
                          refine wpAnyH_ready (rs := [5]) (by kernel_rfl) (by simp) (AllReadyH.cons rfl (fun K hK => ?_) AllReadyH.nil)
                          · simp only [List.getElem_toArray, List.getElem_cons_zero, List.getElem_cons_succ]
                            rw [if_pos (by rfl)]
                            with_reducible refine op_three p q o3 (by rfl) ?_ ?_ ?_ (fun w16x hR16 hb16 => ?_)
                            · rfl
                            · rfl
                            · rfl
                            have R16 := Lib.hid hR16
                            refine hK.out _ _ (hH16_2.keep hb16) (fun hH16_4 => ?_)
                            clear hK K
                            simp only [Act.put, List.setIfInBounds_toArray, List.set_cons_zero, List.set_cons_succ]
                            refine wpAnyH_take (i := 6) (v := ?_) rfl (by kernel_rfl) (by kernel_rfl) (by kernel_rfl) (fun _ _ _ h => h) (Or.inl ⟨by rfl, ?_⟩) (by assumption) ?_
                            rotate_left
                            · (intro W _; go_simp; try with_reducible rfl)
                            try simp only [Act.put, List.getElem_toArray, List.getElem_cons_zero, List.getElem_cons_succ, List.setIfInBounds_toArray, List.set_cons_zero, List.set_cons_succ]
                            refine wpAnyH_done (by kernel_rfl) ?_ _
                            have SC := Lib.hid (hH16_4.add R16.out)
                            have CC := Lib.hid (cod_keep CB2.out hb16)
                            have T3 := Lib.hid (three_at p q o3)
                            have hn3 := Nat.ne_of_lt (cod_lt CB2.out)
                            clear hR16 hb16 R16
                            generalize three p q o3 = l3 at *
                            generalize W16_1.heap.size = x3 at *
                            have HNI : Hid (∀ x ∈ [(x3, l3), (xb, pairL z0 z1), (bs, l4), (xq, q.vals), (x5, p.vals)], c ≠ x.1) := Lib.hid (List.forall_mem_cons.2 ⟨hn3, HNB.out⟩)
                            clear hn3
                            go_wp2_with fail
                            go_loopw [140] (fun i wr => ∃ j2 : Nat, j2 ≤ 3 ∧ i = .int .i64 j2 ∧ St [(x3, l3), (xb, pairL z0 z1), (bs, l4), (xq, q.vals), (x5, p.vals)] w wr ∧ Cod c wr) (fun i _ => 3 - (intOf i).toNat)
                            case atStart => exact ⟨0, by omega, rfl, SC.out, CC.out⟩
                            case round =>
                              obtain ⟨j2, hj2, rfl, h1, h2⟩ := hrel
                              have S50 := Lib.hid h1
                              have C50 := Lib.hid h2
                              have l50 := cod_lt h2
                              clear SC CC h1 h2
                              by_cases hj3 : j2 < 3
                              · obtain ⟨u, hu⟩ := T3.out j2 hj3
                                have HU2 := Lib.hid hu
                                have q2 : (0 : Int) ≤ (j2 : Int) := by omega
                                have q3 : (j2 : Int) < 3 := by omega
                                obtain ⟨v, hv⟩ : ∃ v, applyP u z0 = v := ⟨_, rfl⟩
                                obtain ⟨n5, hn5⟩ : ∃ n, applyE u z0 = n := ⟨_, rfl⟩
                                have HAP : Hid (∀ W, Calls Try.prog 22 #[.agg u.arr, .agg z0.arr] W fun e w' => e = .returned (.tuple #[.agg v.arr, .int .i64 n5]) ∧ Below W.heap.size W w') := Lib.hid fun W => apply_b u z0 v n5 hv hn5 W FZ0.out
                                have HAR : Hid (∀ W, Calls Try.prog 23 #[.agg u.arr, .agg z0.arr] W fun e w' => e = .returned (.tuple #[.agg v.arr, .int .i64 n5]) ∧ Below W.heap.size W w') := Lib.hid fun W => refApply_b u z0 v n5 hv hn5 W FZ0.out
                                have pn := page_neq_self v
                                clear hu hv hn5
                                go_wp2_with (first
                                  | (refine wp_loadPageAt u (j2 * 34) (S50.out.row (b := x3) (vs := l3) (by simp)) HU2.out rfl rfl rfl ?_)
                                  | (have _t := S50.out; refine wp_newPageW rfl rfl ?_; intro w51 hP hb _; have N51 := Lib.hid hP; have M51 := Lib.hid hb; have C51 := Lib.hid (cod_keep C50.out hb); clear hP hb _t C50)
                                  | (refine wp_storePageW u N51.out (vals_length _) rfl rfl rfl rfl ?_; intro w52 hP hS; have S52 := Lib.hid (S50.out.push M51.out hP hS); have C52 := Lib.hid (hS.cod C51.out l50); clear hP hS S50 N51 M51 C51)
                                  | (refine wp_loadPage u (S52.out.row (vs := u.vals) (List.mem_cons_self ..)) rfl rfl rfl ?_)
                                  | (refine wp_loadChgAt z0 0 (S52.out.row (b := xb) (vs := pairL z0 z1) (by simp)) (fun j v hv => pair0 hv) rfl rfl rfl ?_)
                                  | (go_at_call 22; (with_reducible refine (HAP.out _).mono ?_); rintro e w53 ⟨rfl, hb⟩; have S53 := Lib.hid (S52.out.keep hb); have C53 := Lib.hid (cod_keep C52.out hb); have l53 := cod_lt C53.out; clear hb S52 C52)
                                  | (have _t := S53.out; refine wp_newPageW rfl rfl ?_; intro w54 hP hb _; have N54 := Lib.hid hP; have M54 := Lib.hid hb; have C54 := Lib.hid (cod_keep C53.out hb); clear hP hb _t C53)
                                  | (refine wp_storePageW v N54.out (vals_length _) rfl rfl rfl rfl ?_; intro w55 hP hS; have S55 := Lib.hid (S53.out.push M54.out hP hS); have C55 := Lib.hid (hS.cod C54.out l53); clear hP hS S53 N54 M54 C54)
                                  | (refine wp_loadPage u (S55.out.row (vs := u.vals) (List.mem_cons_of_mem _ (List.mem_cons_self ..))) rfl rfl rfl ?_)
                                  | (refine wp_loadChgAt z0 0 (S55.out.row (b := xb) (vs := pairL z0 z1) (by simp)) (fun j v hv => pair0 hv) rfl rfl rfl ?_)
                                  | (go_at_call 23; (with_reducible refine (HAR.out _).mono ?_); rintro e w56 ⟨rfl, hb⟩; have S56 := Lib.hid (S55.out.keep hb); have C56 := Lib.hid (cod_keep C55.out hb); have l56 := cod_lt C56.out; clear hb S55 C55)
                                  | (have _t := S56.out; refine wp_newPageW rfl rfl ?_; intro w57 hP hb _; have N57 := Lib.hid hP; have M57 := Lib.hid hb; have C57 := Lib.hid (cod_keep C56.out hb); clear hP hb _t C56)
                                  | (refine wp_storePageW v N57.out (vals_length _) rfl rfl rfl rfl ?_; intro w58 hP hS; have S58 := Lib.hid (S56.out.push M57.out hP hS); have C58 := Lib.hid (hS.cod C57.out l56); clear hP hS S56 N57 M57 C57)
                                  | (refine wp_loadPage v (S58.out.row (vs := v.vals) (List.mem_cons_of_mem _ (List.mem_cons_self ..))) rfl rfl rfl ?_)
                                  | (refine wp_loadPage v (S58.out.row (vs := v.vals) (List.mem_cons_self ..)) rfl rfl rfl ?_))
                                go_roundw
                                case rel => exact ⟨j2 + 1, by omega, by go_num, S58.out.sub (fun x hx => List.mem_cons_of_mem _ (List.mem_cons_of_mem _ (List.mem_cons_of_mem _ hx))), C58.out⟩
                                case measure => simp [intOf]; omega
                              · obtain rfl : j2 = 3 := by omega
                                go_wp2_with fail
                                go_roundw
                                case rel => exact ⟨j + 1, by omega, by go_num, S50.out.sub (fun x hx => List.mem_cons_of_mem _ (List.mem_cons_of_mem _ hx)), C50.out⟩
                                case measure => simp [intOf]; omega
          · obtain rfl : j = 4 := by omega
            go_wp2_with fail
            go_ret
            exact ⟨rfl, S30.out.2⟩
end Go.Proofs.Ytkcgcddpgfcgiaa.kl
