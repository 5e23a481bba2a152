/- Decode of the reference. -/
import Derived.Test.YtiojpfljnbdonaaOl
namespace Go.Proofs.Ytiojpfljnbdonaa.om
open Go.ChangeShapes Go.WideShapes Go.ChangeAt Go.RowKit Go.Proofs.Ytiojpfljnbdonaa.cp Go.Proofs.Ytiojpfljnbdonaa.cg Go.Proofs.Ytiojpfljnbdonaa.ch Go.Proofs.Ytiojpfljnbdonaa.cx Go.Proofs.Ytiojpfljnbdonaa.ra Go.Proofs.Ytiojpfljnbdonaa.rb Go.Proofs.Ytiojpfljnbdonaa.rc Go.Proofs.Ytiojpfljnbdonaa.da Go.Proofs.Ytiojpfljnbdonaa.ea Go.Proofs.Ytiojpfljnbdonaa.eb Go.Proofs.Ytiojpfljnbdonaa.ed Go.Proofs.Ytiojpfljnbdonaa.fb Go.Proofs.Ytiojpfljnbdonaa.ka Go.Proofs.Ytiojpfljnbdonaa.kb Go.Proofs.Ytiojpfljnbdonaa.kg Go.Proofs.Ytiojpfljnbdonaa.kj Go.Proofs.Ytiojpfljnbdonaa.oa Go.Proofs.Ytiojpfljnbdonaa.os Go.Proofs.Ytiojpfljnbdonaa.ob Go.Proofs.Ytiojpfljnbdonaa.oc Go.Proofs.Ytiojpfljnbdonaa.od Go.Proofs.Ytiojpfljnbdonaa.oe Go.Proofs.Ytiojpfljnbdonaa.of Go.Proofs.Ytiojpfljnbdonaa.og Go.Proofs.Ytiojpfljnbdonaa.oj Go.Proofs.Ytiojpfljnbdonaa.ok Go.Proofs.Ytiojpfljnbdonaa.ol
set_option linter.unusedSimpArgs false

set_option maxRecDepth 4000 in
set_option maxHeartbeats 8000000 in
theorem cdecode_walk (s : ByteArray) (v0 v1 v2 v3 v4 v5 v6 v7 n' : Int) (c8 c9 : CellM) (t : ByteArray) (r1 r2 r3 r4 r5 r6 r7 r8 r9 r10 r11 : RS) (p : Nat) (er : Int) (d : Ent) (n : Int) (_hs : s.size ≤ 900000) (hp : p ≤ s.size) (h0 : ∀ b, ReadC 36 #[.pointer (some ⟨b, 0, none⟩), .int .i64 8] b s r00 (.int .i64 v0) r1) (h1 : ∀ b, ReadC 36 #[.pointer (some ⟨b, 0, none⟩), .int .i64 1] b s r1 (.int .i64 v1) r2) (h2 : ∀ b, ReadC 36 #[.pointer (some ⟨b, 0, none⟩), .int .i64 4] b s r2 (.int .i64 v2) r3) (h3 : ∀ b, ReadC 36 #[.pointer (some ⟨b, 0, none⟩), .int .i64 8] b s r3 (.int .i64 v3) r4) (h4 : ∀ b, ReadC 36 #[.pointer (some ⟨b, 0, none⟩), .int .i64 8] b s r4 (.int .i64 v4) r5) (h5 : ∀ b, ReadC 36 #[.pointer (some ⟨b, 0, none⟩), .int .i64 8] b s r5 (.int .i64 v5) r6) (h6 : ∀ b, ReadC 36 #[.pointer (some ⟨b, 0, none⟩), .int .i64 4] b s r6 (.int .i64 v6) r7) (h7 : ∀ b, ReadC 36 #[.pointer (some ⟨b, 0, none⟩), .int .i64 1] b s r7 (.int .i64 v7) r8) (h8 : ∀ b, ReadC 37 #[.pointer (some ⟨b, 0, none⟩)] b s r8 (.agg #[.bool c8.set, .string c8.data]) r9) (h9 : ∀ b, ReadC 37 #[.pointer (some ⟨b, 0, none⟩)] b s r9 (.agg #[.bool c9.set, .string c9.data]) r10) (h10 : ∀ b, ReadC 36 #[.pointer (some ⟨b, 0, none⟩), .int .i64 4] b s r10 (.int .i64 n') r11) (h11 : ∀ b, ReadC 38 #[.pointer (some ⟨b, 0, none⟩), .int .i64 n'] b s r11 (.string t) ⟨p, er⟩)
    (hV : Says 15 #[.agg (Ent.arr (Ent.mk v0 v1 v2 v3 v4 v5 ⟨v6, v7, c8, c9⟩ t))] (validE (Ent.mk v0 v1 v2 v3 v4 v5 ⟨v6, v7, c8, c9⟩ t))) (hd : (if er = 0 then (if p < s.size then (ent0, (4 : Int)) else if validE (Ent.mk v0 v1 v2 v3 v4 v5 ⟨v6, v7, c8, c9⟩ t) = true then ((Ent.mk v0 v1 v2 v3 v4 v5 ⟨v6, v7, c8, c9⟩ t), 0) else (ent0, 12)) else (ent0, er)) = (d, n)) (w : World) :
    Calls Try.prog 21 #[.string s] w fun e' w' => e' = .returned (.tuple #[.agg d.arr, .int .i64 n]) ∧ Below w.heap.size w w' := by
  have H0 := Lib.hid h0
  have H1 := Lib.hid h1
  have H2 := Lib.hid h2
  have H3 := Lib.hid h3
  have H4 := Lib.hid h4
  have H5 := Lib.hid h5
  have H6 := Lib.hid h6
  have H7 := Lib.hid h7
  have H8 := Lib.hid h8
  have H9 := Lib.hid h9
  have H10 := Lib.hid h10
  have H11 := Lib.hid h11
  clear h0 h1 h2 h3 h4 h5 h6 h7 h8 h9 h10 h11
  have HU : Hid True := Lib.hid trivial
  generalize hXX : (Ent.mk v0 v1 v2 v3 v4 v5 ⟨v6, v7, c8, c9⟩ t) = X at hV hd
  have HX := Lib.hid hXX
  clear hXX
  go_enter Try.func21, Try.ntmps21
  go_upto_region 14 with (first
    | (clear HU; refine wp_newEntW rfl rfl ?_; intro w0 hR hb0 z0; have S0 := Lib.hid hR; have HA0 := Lib.hid hb0; clear hR hb0)
    | (refine wp_boxW (rdVals s r00) _ rfl rfl rfl ?_; intro w1 hD hb1 z1; have S1 := Lib.hid (RowAt.keep S0.out hb1); have D1 := Lib.hid hD; have HA1 := Lib.hid (HA0.out.trans (hb1.mono HA0.out.size)); clear hD hb1 S0 HA0)
    | (refine wp_newEntW rfl rfl ?_; intro w2 hE hb2 z2; have E0 : Hid (EnAt w1.heap.size (Ent.mk 0 0 0 0 0 0 ⟨0, 0, noCell, noCell⟩ ⟨#[]⟩) w2) := Lib.hid hE; have D0 := Lib.hid (RowAt.keep D1.out hb2); have R0 := Lib.hid (RowAt.keep S1.out hb2); have B0 := Lib.hid (HA1.out.trans (hb2.mono HA1.out.size)); clear hE hb2 D1 S1 HA1)
    | (go_at_call 36; have hq := D0.out; clear hq; (with_reducible refine (H0.out _ _ D0.out).mono ?_); rintro e1 wm0 ⟨rfl, hD, hg⟩; have DM0 := Lib.hid hD; have EM0 := Lib.hid (RowAt.grown E0.out hg (row_ne z1)); have RM0 := Lib.hid (RowAt.grown R0.out hg (fun e => by injection e; omega)); have BM0 := Lib.hid (below_row B0.out hg (by omega)); clear hD hg D0 E0 R0 B0)
    | (refine wp_storeFieldW 3 (.int .i64 v0) rfl rfl info_int1 EM0.out (show 0 < 13 by decide) rfl rfl rfl rfl ?_; intro wn1 hE hS; have E1 : Hid (EnAt w1.heap.size (Ent.mk v0 0 0 0 0 0 ⟨0, 0, noCell, noCell⟩ ⟨#[]⟩) wn1) := Lib.hid hE; have D1 := Lib.hid (StoredAt.row hS DM0.out (by omega)); have R1 := Lib.hid (StoredAt.row hS RM0.out (by omega)); have B1 := Lib.hid (StoredAt.below hS BM0.out (by omega)); clear hE hS EM0 DM0 RM0 BM0)
    | (go_at_call 36; have hq := D1.out; clear hq; (with_reducible refine (H1.out _ _ D1.out).mono ?_); rintro e1 wm1 ⟨rfl, hD, hg⟩; have DM1 := Lib.hid hD; have EM1 := Lib.hid (RowAt.grown E1.out hg (row_ne z1)); have RM1 := Lib.hid (RowAt.grown R1.out hg (fun e => by injection e; omega)); have BM1 := Lib.hid (below_row B1.out hg (by omega)); clear hD hg D1 E1 R1 B1)
    | (refine wp_storeFieldW 3 (.int .i64 v1) rfl rfl info_int1 EM1.out (show 1 < 13 by decide) rfl rfl rfl rfl ?_; intro wn2 hE hS; have E2 : Hid (EnAt w1.heap.size (Ent.mk v0 v1 0 0 0 0 ⟨0, 0, noCell, noCell⟩ ⟨#[]⟩) wn2) := Lib.hid hE; have D2 := Lib.hid (StoredAt.row hS DM1.out (by omega)); have R2 := Lib.hid (StoredAt.row hS RM1.out (by omega)); have B2 := Lib.hid (StoredAt.below hS BM1.out (by omega)); clear hE hS EM1 DM1 RM1 BM1)
    | (go_at_call 36; have hq := D2.out; clear hq; (with_reducible refine (H2.out _ _ D2.out).mono ?_); rintro e1 wm2 ⟨rfl, hD, hg⟩; have DM2 := Lib.hid hD; have EM2 := Lib.hid (RowAt.grown E2.out hg (row_ne z1)); have RM2 := Lib.hid (RowAt.grown R2.out hg (fun e => by injection e; omega)); have BM2 := Lib.hid (below_row B2.out hg (by omega)); clear hD hg D2 E2 R2 B2)
    | (refine wp_storeFieldW 3 (.int .i64 v2) rfl rfl info_int1 EM2.out (show 2 < 13 by decide) rfl rfl rfl rfl ?_; intro wn3 hE hS; have E3 : Hid (EnAt w1.heap.size (Ent.mk v0 v1 v2 0 0 0 ⟨0, 0, noCell, noCell⟩ ⟨#[]⟩) wn3) := Lib.hid hE; have D3 := Lib.hid (StoredAt.row hS DM2.out (by omega)); have R3 := Lib.hid (StoredAt.row hS RM2.out (by omega)); have B3 := Lib.hid (StoredAt.below hS BM2.out (by omega)); clear hE hS EM2 DM2 RM2 BM2)
    | (go_at_call 36; have hq := D3.out; clear hq; (with_reducible refine (H3.out _ _ D3.out).mono ?_); rintro e1 wm3 ⟨rfl, hD, hg⟩; have DM3 := Lib.hid hD; have EM3 := Lib.hid (RowAt.grown E3.out hg (row_ne z1)); have RM3 := Lib.hid (RowAt.grown R3.out hg (fun e => by injection e; omega)); have BM3 := Lib.hid (below_row B3.out hg (by omega)); clear hD hg D3 E3 R3 B3)
    | (refine wp_storeFieldW 3 (.int .i64 v3) rfl rfl info_int1 EM3.out (show 3 < 13 by decide) rfl rfl rfl rfl ?_; intro wn4 hE hS; have E4 : Hid (EnAt w1.heap.size (Ent.mk v0 v1 v2 v3 0 0 ⟨0, 0, noCell, noCell⟩ ⟨#[]⟩) wn4) := Lib.hid hE; have D4 := Lib.hid (StoredAt.row hS DM3.out (by omega)); have R4 := Lib.hid (StoredAt.row hS RM3.out (by omega)); have B4 := Lib.hid (StoredAt.below hS BM3.out (by omega)); clear hE hS EM3 DM3 RM3 BM3)
    | (go_at_call 36; have hq := D4.out; clear hq; (with_reducible refine (H4.out _ _ D4.out).mono ?_); rintro e1 wm4 ⟨rfl, hD, hg⟩; have DM4 := Lib.hid hD; have EM4 := Lib.hid (RowAt.grown E4.out hg (row_ne z1)); have RM4 := Lib.hid (RowAt.grown R4.out hg (fun e => by injection e; omega)); have BM4 := Lib.hid (below_row B4.out hg (by omega)); clear hD hg D4 E4 R4 B4)
    | (refine wp_storeFieldW 3 (.int .i64 v4) rfl rfl info_int1 EM4.out (show 4 < 13 by decide) rfl rfl rfl rfl ?_; intro wn5 hE hS; have E5 : Hid (EnAt w1.heap.size (Ent.mk v0 v1 v2 v3 v4 0 ⟨0, 0, noCell, noCell⟩ ⟨#[]⟩) wn5) := Lib.hid hE; have D5 := Lib.hid (StoredAt.row hS DM4.out (by omega)); have R5 := Lib.hid (StoredAt.row hS RM4.out (by omega)); have B5 := Lib.hid (StoredAt.below hS BM4.out (by omega)); clear hE hS EM4 DM4 RM4 BM4)
    | (go_at_call 36; have hq := D5.out; clear hq; (with_reducible refine (H5.out _ _ D5.out).mono ?_); rintro e1 wm5 ⟨rfl, hD, hg⟩; have DM5 := Lib.hid hD; have EM5 := Lib.hid (RowAt.grown E5.out hg (row_ne z1)); have RM5 := Lib.hid (RowAt.grown R5.out hg (fun e => by injection e; omega)); have BM5 := Lib.hid (below_row B5.out hg (by omega)); clear hD hg D5 E5 R5 B5)
    | (refine wp_storeFieldW 3 (.int .i64 v5) rfl rfl info_int1 EM5.out (show 5 < 13 by decide) rfl rfl rfl rfl ?_; intro wn6 hE hS; have E6 : Hid (EnAt w1.heap.size (Ent.mk v0 v1 v2 v3 v4 v5 ⟨0, 0, noCell, noCell⟩ ⟨#[]⟩) wn6) := Lib.hid hE; have D6 := Lib.hid (StoredAt.row hS DM5.out (by omega)); have R6 := Lib.hid (StoredAt.row hS RM5.out (by omega)); have B6 := Lib.hid (StoredAt.below hS BM5.out (by omega)); clear hE hS EM5 DM5 RM5 BM5)
    | (go_at_call 36; have hq := D6.out; clear hq; (with_reducible refine (H6.out _ _ D6.out).mono ?_); rintro e1 wm6 ⟨rfl, hD, hg⟩; have DM6 := Lib.hid hD; have EM6 := Lib.hid (RowAt.grown E6.out hg (row_ne z1)); have RM6 := Lib.hid (RowAt.grown R6.out hg (fun e => by injection e; omega)); have BM6 := Lib.hid (below_row B6.out hg (by omega)); clear hD hg D6 E6 R6 B6)
    | (refine wp_storeFieldW 3 (.int .i64 v6) rfl rfl info_int1 EM6.out (show 6 < 13 by decide) rfl rfl rfl rfl ?_; intro wn7 hE hS; have E7 : Hid (EnAt w1.heap.size (Ent.mk v0 v1 v2 v3 v4 v5 ⟨v6, 0, noCell, noCell⟩ ⟨#[]⟩) wn7) := Lib.hid hE; have D7 := Lib.hid (StoredAt.row hS DM6.out (by omega)); have R7 := Lib.hid (StoredAt.row hS RM6.out (by omega)); have B7 := Lib.hid (StoredAt.below hS BM6.out (by omega)); clear hE hS EM6 DM6 RM6 BM6)
    | (go_at_call 36; have hq := D7.out; clear hq; (with_reducible refine (H7.out _ _ D7.out).mono ?_); rintro e1 wm7 ⟨rfl, hD, hg⟩; have DM7 := Lib.hid hD; have EM7 := Lib.hid (RowAt.grown E7.out hg (row_ne z1)); have RM7 := Lib.hid (RowAt.grown R7.out hg (fun e => by injection e; omega)); have BM7 := Lib.hid (below_row B7.out hg (by omega)); clear hD hg D7 E7 R7 B7)
    | (refine wp_storeFieldW 3 (.int .i64 v7) rfl rfl info_int1 EM7.out (show 7 < 13 by decide) rfl rfl rfl rfl ?_; intro wn8 hE hS; have E8 : Hid (EnAt w1.heap.size (Ent.mk v0 v1 v2 v3 v4 v5 ⟨v6, v7, noCell, noCell⟩ ⟨#[]⟩) wn8) := Lib.hid hE; have D8 := Lib.hid (StoredAt.row hS DM7.out (by omega)); have R8 := Lib.hid (StoredAt.row hS RM7.out (by omega)); have B8 := Lib.hid (StoredAt.below hS BM7.out (by omega)); clear hE hS EM7 DM7 RM7 BM7)
    | (go_at_call 37; have hq := D8.out; clear hq; (with_reducible refine (H8.out _ _ D8.out).mono ?_); rintro e1 wm8 ⟨rfl, hD, hg⟩; have DM8 := Lib.hid hD; have EM8 := Lib.hid (RowAt.grown E8.out hg (row_ne z1)); have RM8 := Lib.hid (RowAt.grown R8.out hg (fun e => by injection e; omega)); have BM8 := Lib.hid (below_row B8.out hg (by omega)); clear hD hg D8 E8 R8 B8)
    | (refine wp_storeCellW c8 EM8.out (show 8 + 2 ≤ 13 by decide) rfl rfl rfl rfl ?_; intro wn9 hE hS; have E9 : Hid (EnAt w1.heap.size (Ent.mk v0 v1 v2 v3 v4 v5 ⟨v6, v7, c8, noCell⟩ ⟨#[]⟩) wn9) := Lib.hid hE; have D9 := Lib.hid (StoredAt.row hS DM8.out (by omega)); have R9 := Lib.hid (StoredAt.row hS RM8.out (by omega)); have B9 := Lib.hid (StoredAt.below hS BM8.out (by omega)); clear hE hS EM8 DM8 RM8 BM8)
    | (go_at_call 37; have hq := D9.out; clear hq; (with_reducible refine (H9.out _ _ D9.out).mono ?_); rintro e1 wm9 ⟨rfl, hD, hg⟩; have DM9 := Lib.hid hD; have EM9 := Lib.hid (RowAt.grown E9.out hg (row_ne z1)); have RM9 := Lib.hid (RowAt.grown R9.out hg (fun e => by injection e; omega)); have BM9 := Lib.hid (below_row B9.out hg (by omega)); clear hD hg D9 E9 R9 B9)
    | (refine wp_storeCellW c9 EM9.out (show 10 + 2 ≤ 13 by decide) rfl rfl rfl rfl ?_; intro wn10 hE hS; have E10 : Hid (EnAt w1.heap.size (Ent.mk v0 v1 v2 v3 v4 v5 ⟨v6, v7, c8, c9⟩ ⟨#[]⟩) wn10) := Lib.hid hE; have D10 := Lib.hid (StoredAt.row hS DM9.out (by omega)); have R10 := Lib.hid (StoredAt.row hS RM9.out (by omega)); have B10 := Lib.hid (StoredAt.below hS BM9.out (by omega)); clear hE hS EM9 DM9 RM9 BM9)
    | (go_at_call 36; have hq := D10.out; clear hq; (with_reducible refine (H10.out _ _ D10.out).mono ?_); rintro e1 wm10 ⟨rfl, hD, hg⟩; have DM10 := Lib.hid hD; have EM10 := Lib.hid (RowAt.grown E10.out hg (row_ne z1)); have RM10 := Lib.hid (RowAt.grown R10.out hg (fun e => by injection e; omega)); have BM10 := Lib.hid (below_row B10.out hg (by omega)); clear hD hg D10 E10 R10 B10)
    | (go_at_call 38; have hq := DM10.out; clear hq; (with_reducible refine (H11.out _ _ DM10.out).mono ?_); rintro e1 wm11 ⟨rfl, hD, hg⟩; have DM11 := Lib.hid hD; have EM11 := Lib.hid (RowAt.grown EM10.out hg (row_ne z1)); have RM11 := Lib.hid (RowAt.grown RM10.out hg (fun e => by injection e; omega)); have BM11 := Lib.hid (below_row BM10.out hg (by omega)); clear hD hg DM10 EM10 RM10 BM10)
    | (refine wp_storeFieldW 9 (.string t) rfl rfl info_string1 EM11.out (show 12 < 13 by decide) rfl rfl rfl rfl ?_; intro wn12 hE hS; have E12 : Hid (EnAt w1.heap.size (Ent.mk v0 v1 v2 v3 v4 v5 ⟨v6, v7, c8, c9⟩ t) wn12) := Lib.hid hE; have D12 := Lib.hid (StoredAt.row hS DM11.out (by omega)); have R12 := Lib.hid (StoredAt.row hS RM11.out (by omega)); have B12 := Lib.hid (StoredAt.below hS BM11.out (by omega)); clear hE hS EM11 DM11 RM11 BM11; obtain ⟨a0, a1, a2⟩ := rd_all D12.out; simp only at a1 a2))
  have HXX := HX.out
  rw [HXX] at E12
  clear HXX HX
  by_cases h0 : er = 0
  rotate_left
  · rw [if_neg h0] at hd
    obtain ⟨rfl, rfl⟩ := Prod.mk.inj hd
    have q0 : (er != 0) = true := by simpa using h0
    clear hd h0 hV
    go_upto_region 15 with (fail)
    have HS := Lib.hid (St.add (st_nil (w := w) B12.out) D12.out)
    clear a0 a1 a2
    refine wp_region_held_drew (S := St [(w0.heap.size, (rdVals s ⟨p, er⟩))] w) (by kernel_rfl) (St.drew HS.out) (fun hHeld => ?_)
    have r15_1 := Lib.hid (RowAt.drew R12.out)
    refine wpAnyH_take (i := 0) (v := ?_) rfl (by kernel_rfl) (by kernel_rfl) (by kernel_rfl) (fun _ _ _ h => h) (Or.inl ⟨by rfl, ?_⟩) (by assumption) ?_
    rotate_left
    · (intro W _; go_simp; try with_reducible rfl)
    try simp only [Act.put, List.getElem_toArray, List.getElem_cons_zero, List.setIfInBounds_toArray, List.set_cons_zero, List.set_cons_succ]
    refine wpAnyH_take (i := 1) (v := ?_) rfl (by kernel_rfl) (by kernel_rfl) (by kernel_rfl) (fun _ _ _ h => h) (Or.inl ⟨by rfl, ?_⟩) (by assumption) ?_
    rotate_left
    · (intro W _; go_simp; try with_reducible rfl)
    try simp only [Act.put, List.getElem_toArray, List.getElem_cons_zero, List.getElem_cons_succ, List.setIfInBounds_toArray, List.set_cons_zero, List.set_cons_succ]
    refine wpAnyH_take (i := 2) (v := ?_) rfl (by kernel_rfl) (by kernel_rfl) (by kernel_rfl) (fun _ _ _ h => h) (Or.inl ⟨by rfl, ?_⟩) (by assumption) ?_
    rotate_left
    · (intro W _; go_simp; try with_reducible rfl)
    try simp only [Act.put, List.getElem_toArray, List.getElem_cons_zero, List.getElem_cons_succ, List.setIfInBounds_toArray, List.set_cons_zero, List.set_cons_succ]
    refine wpAnyH_take (i := 3) (v := ?_) rfl (by kernel_rfl) (by kernel_rfl) (by kernel_rfl) (fun _ _ _ h => h) (Or.inl ⟨by rfl, ?_⟩) (by assumption) ?_
    rotate_left
    · (intro W _; go_simp; try with_reducible rfl)
    try simp only [Act.put, List.getElem_toArray, List.getElem_cons_zero, List.getElem_cons_succ, List.setIfInBounds_toArray, List.set_cons_zero, List.set_cons_succ]
    refine wpAnyH_take (i := 4) (v := ?_) rfl (by kernel_rfl) (by kernel_rfl) (by kernel_rfl) (fun _ _ _ h => h) (Or.inl ⟨by rfl, ?_⟩) (by assumption) ?_
    rotate_left
    · (intro W hSw; have c0 := (St.row hSw (b := w0.heap.size) (vs := (rdVals s ⟨p, er⟩)) (by simp)).cells 2 _ rfl; clear hSw; go_simp; try with_reducible rfl)
    try simp only [Act.put, List.getElem_toArray, List.getElem_cons_zero, List.getElem_cons_succ, List.setIfInBounds_toArray, List.set_cons_zero, List.set_cons_succ]
    refine wpAnyH_ready (rs := [5]) (by kernel_rfl) (by simp) (AllReadyH.cons rfl (fun K hK => ?_) AllReadyH.nil)
    simp only [List.getElem_toArray, List.getElem_cons_zero, List.getElem_cons_succ]
    rw [if_pos (by rfl)]
    with_reducible refine op_storeEnt ent0 r15_1.out (evals_length _) (by rfl) ?_ ?_ (fun W15_2 hP15_4 hS15_5 => ?_)
    · rfl
    · rfl
    have r15_6 : Hid (EnAt w.heap.size ent0 W15_2) := Lib.hid hP15_4
    refine hK.out _ _ (St.stored hHeld (by simp; omega) (by omega) hS15_5) (fun hH15_3 => ?_)
    clear hK K
    simp only [Act.put, List.setIfInBounds_toArray, List.set_cons_zero, List.set_cons_succ]
    refine wpAnyH_take (i := 6) (v := ?_) rfl (by kernel_rfl) (by kernel_rfl) (by kernel_rfl) (fun _ _ _ h => h) (Or.inl ⟨by rfl, ?_⟩) (by assumption) ?_
    rotate_left
    · (intro W _; go_simp; try with_reducible rfl)
    try simp only [Act.put, List.getElem_toArray, List.getElem_cons_zero, List.getElem_cons_succ, List.setIfInBounds_toArray, List.set_cons_zero, List.set_cons_succ]
    refine wpAnyH_done (by kernel_rfl) ?_ _
    go_wp2
    exact bodyPost_ret (res_entE rfl rfl r15_6.out) rfl ⟨rfl, And.right hH15_3⟩
  subst h0
  rw [if_pos rfl] at hd
  by_cases h1 : p < s.size
  · rw [if_pos h1] at hd
    obtain ⟨rfl, rfl⟩ := Prod.mk.inj hd
    have d1 : ((p : Int) != (s.size : Int)) = true := by simp; omega
    clear hd hV
    go_wp2_with (first
      | (refine wp_storeEntW ent0 R12.out (evals_length _) rfl rfl rfl rfl ?_; intro w13 hR hS; have R13 := Lib.hid hR; have B13 := Lib.hid (StoredAt.below hS B12.out (by omega)); clear hR hS R12 B12))
    exact bodyPost_ret (res_entE rfl rfl R13.out) rfl ⟨rfl, B13.out⟩
  rw [if_neg h1] at hd
  obtain rfl : p = s.size := by omega
  cases hv : validE X
  · rw [hv] at hd hV
    simp only [if_true, if_false, Bool.false_eq_true] at hd
    obtain ⟨rfl, rfl⟩ := Prod.mk.inj hd
    have CV := Lib.hid hV
    clear hd hV hv h1
    go_wp2_with (first
      | (refine wp_loadEnt _ E12.out rfl rfl rfl ?_)
      | (go_at_call 15; (with_reducible refine (CV.out _).mono ?_); rintro e1 w13 ⟨rfl, hb⟩; have R13 := Lib.hid (RowAt.keep R12.out hb); have E13 := Lib.hid (RowAt.keep E12.out hb); have B13 := Lib.hid (B12.out.trans (hb.mono B12.out.size)); clear hb R12 E12 B12 a0 a1 a2)
      | (refine wp_loadEnt _ E13.out rfl rfl rfl ?_)
      | (refine wp_storeEntW ent0 R13.out (evals_length _) rfl rfl rfl rfl ?_; intro w14 hR hS; have R14 := Lib.hid hR; have B14 := Lib.hid (StoredAt.below hS B13.out (by omega)); clear hR hS R13 B13))
    exact bodyPost_ret (res_entE rfl rfl R14.out) rfl ⟨rfl, B14.out⟩
  · rw [hv] at hd hV
    simp only [if_true, if_false, Bool.false_eq_true] at hd
    obtain ⟨rfl, rfl⟩ := Prod.mk.inj hd
    have CV := Lib.hid hV
    clear hd hV hv h1
    go_wp2_with (first
      | (refine wp_loadEnt _ E12.out rfl rfl rfl ?_)
      | (go_at_call 15; (with_reducible refine (CV.out _).mono ?_); rintro e1 w13 ⟨rfl, hb⟩; have R13 := Lib.hid (RowAt.keep R12.out hb); have E13 := Lib.hid (RowAt.keep E12.out hb); have B13 := Lib.hid (B12.out.trans (hb.mono B12.out.size)); clear hb R12 E12 B12 a0 a1 a2)
      | (refine wp_loadEnt _ E13.out rfl rfl rfl ?_)
      | (refine wp_storeEntW _ R13.out (evals_length _) rfl rfl rfl rfl ?_; intro w14 hR hS; have R14 := Lib.hid hR; have B14 := Lib.hid (StoredAt.below hS B13.out (by omega)); clear hR hS R13 B13))
    exact bodyPost_ret (res_entE rfl rfl R14.out) rfl ⟨rfl, B14.out⟩
theorem refDecode_any (s : ByteArray) (hs : s.size ≤ 900000) (w : World) : Calls Try.prog 21 #[.string s] w fun e' w' => e' = .returned (.tuple #[.agg (decR s).1.arr, .int .i64 (decR s).2]) ∧ Below w.heap.size w w' := by
  have hp := entR_pos s r00 (Nat.zero_le _)
  have hV : Says 15 #[.agg (entR s r00).1.arr] (validE (entR s r00).1) := fun w => refValid_any _ w (entR_fits s r00 hs)
  have h4 : decR s = ((decR s).1, (decR s).2) := rfl
  unfold decR at h4 ⊢
  have hE : entR s r00 = (⟨(numR s 8 r00).1, (numR s 1 (numR s 8 r00).2).1, (numR s 4 (numR s 1 (numR s 8 r00).2).2).1, (numR s 8 (numR s 4 (numR s 1 (numR s 8 r00).2).2).2).1, (numR s 8 (numR s 8 (numR s 4 (numR s 1 (numR s 8 r00).2).2).2).2).1, (numR s 8 (numR s 8 (numR s 8 (numR s 4 (numR s 1 (numR s 8 r00).2).2).2).2).2).1, ⟨(numR s 4 (numR s 8 (numR s 8 (numR s 8 (numR s 4 (numR s 1 (numR s 8 r00).2).2).2).2).2).2).1, (numR s 1 (numR s 4 (numR s 8 (numR s 8 (numR s 8 (numR s 4 (numR s 1 (numR s 8 r00).2).2).2).2).2).2).2).1, (celR s (numR s 1 (numR s 4 (numR s 8 (numR s 8 (numR s 8 (numR s 4 (numR s 1 (numR s 8 r00).2).2).2).2).2).2).2).2).1, (celR s (celR s (numR s 1 (numR s 4 (numR s 8 (numR s 8 (numR s 8 (numR s 4 (numR s 1 (numR s 8 r00).2).2).2).2).2).2).2).2).2).1⟩, (txtR s (numR s 4 (celR s (celR s (numR s 1 (numR s 4 (numR s 8 (numR s 8 (numR s 8 (numR s 4 (numR s 1 (numR s 8 r00).2).2).2).2).2).2).2).2).2).2).1.toNat (numR s 4 (celR s (celR s (numR s 1 (numR s 4 (numR s 8 (numR s 8 (numR s 8 (numR s 4 (numR s 1 (numR s 8 r00).2).2).2).2).2).2).2).2).2).2).2).1⟩, (txtR s (numR s 4 (celR s (celR s (numR s 1 (numR s 4 (numR s 8 (numR s 8 (numR s 8 (numR s 4 (numR s 1 (numR s 8 r00).2).2).2).2).2).2).2).2).2).2).1.toNat (numR s 4 (celR s (celR s (numR s 1 (numR s 4 (numR s 8 (numR s 8 (numR s 8 (numR s 4 (numR s 1 (numR s 8 r00).2).2).2).2).2).2).2).2).2).2).2).2) := rfl
  generalize entR s r00 = Y at hp hV h4 hE ⊢
  have p0 : r00.pos ≤ s.size := Nat.zero_le _
  have h0' := fun b => cnum8 b s r00 hs p0
  have p1 := numR_pos s 8 _ p0
  generalize numR s 8 r00 = A0 at h0' p1 hE
  have h1' := fun b => cnum1 b s A0.2 hs p1
  have p2 := numR_pos s 1 _ p1
  generalize numR s 1 A0.2 = A1 at h1' p2 hE
  have h2' := fun b => cnum4 b s A1.2 hs p2
  have p3 := numR_pos s 4 _ p2
  generalize numR s 4 A1.2 = A2 at h2' p3 hE
  have h3' := fun b => cnum8 b s A2.2 hs p3
  have p4 := numR_pos s 8 _ p3
  generalize numR s 8 A2.2 = A3 at h3' p4 hE
  have h4' := fun b => cnum8 b s A3.2 hs p4
  have p5 := numR_pos s 8 _ p4
  generalize numR s 8 A3.2 = A4 at h4' p5 hE
  have h5' := fun b => cnum8 b s A4.2 hs p5
  have p6 := numR_pos s 8 _ p5
  generalize numR s 8 A4.2 = A5 at h5' p6 hE
  have h6' := fun b => cnum4 b s A5.2 hs p6
  have p7 := numR_pos s 4 _ p6
  generalize numR s 4 A5.2 = A6 at h6' p7 hE
  have h7' := fun b => cnum1 b s A6.2 hs p7
  have p8 := numR_pos s 1 _ p7
  generalize numR s 1 A6.2 = A7 at h7' p8 hE
  have h8' := fun b => ccel_any b s A7.2 hs p8
  have p9 := celR_pos s _ p8
  generalize celR s A7.2 = A8 at h8' p9 hE
  have h9' := fun b => ccel_any b s A8.2 hs p9
  have p10 := celR_pos s _ p9
  generalize celR s A8.2 = A9 at h9' p10 hE
  have h10' := fun b => cnum4 b s A9.2 hs p10
  have p11 := numR_pos s 4 _ p10
  obtain ⟨n', hn, hn2⟩ := numR_nat s 4 (by decide) A9.2
  rw [hn] at h10' hE
  rw [Int.toNat_natCast] at hE
  clear hn
  generalize (numR s 4 A9.2).2 = r11 at h10' p11 hE
  have h11' := fun b => ctxt b n' s _ hs p11 (by omega)
  generalize txtR s n' r11 = A11 at h11' hE
  obtain ⟨t, p, er⟩ := A11
  subst hE
  exact cdecode_walk s _ _ _ _ _ _ _ _ _ _ _ t _ _ _ _ _ _ _ _ _ _ r11 p er _ _ hs hp h0' h1' h2' h3' h4' h5' h6' h7' h8' h9' h10' h11' hV h4 w
end Go.Proofs.Ytiojpfljnbdonaa.om
