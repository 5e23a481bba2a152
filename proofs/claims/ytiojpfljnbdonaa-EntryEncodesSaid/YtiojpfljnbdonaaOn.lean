/- The draws of entries. -/
import Derived.Test.YtiojpfljnbdonaaOd
namespace Go.Proofs.Ytiojpfljnbdonaa.on
open Go.ChangeShapes Go.WideShapes Go.ChangeAt Go.RowKit Go.Proofs.Ytiojpfljnbdonaa.cx Go.Proofs.Ytiojpfljnbdonaa.ra Go.Proofs.Ytiojpfljnbdonaa.rb Go.Proofs.Ytiojpfljnbdonaa.rc Go.Proofs.Ytiojpfljnbdonaa.da Go.Proofs.Ytiojpfljnbdonaa.ea Go.Proofs.Ytiojpfljnbdonaa.eb Go.Proofs.Ytiojpfljnbdonaa.ed Go.Proofs.Ytiojpfljnbdonaa.fb Go.Proofs.Ytiojpfljnbdonaa.ka Go.Proofs.Ytiojpfljnbdonaa.kb Go.Proofs.Ytiojpfljnbdonaa.kg Go.Proofs.Ytiojpfljnbdonaa.kj Go.Proofs.Ytiojpfljnbdonaa.oa Go.Proofs.Ytiojpfljnbdonaa.os Go.Proofs.Ytiojpfljnbdonaa.ob Go.Proofs.Ytiojpfljnbdonaa.oc Go.Proofs.Ytiojpfljnbdonaa.od
set_option linter.unusedSimpArgs false

/-- What Entry draws, by kinds. -/
def DrawnE (e : Ent) : Prop := 10 ≤ e.lsn ∧ e.lsn < 100 ∧
  (((e.kind = 1 ∨ e.kind = 2) ∧ 1 ≤ e.tx ∧ e.tx ≤ 5 ∧ 1 ≤ e.prevTx ∧ e.prevTx ≤ 9 ∧ 0 ≤ e.prevPage ∧ e.prevPage ≤ 9 ∧ Drawn e.change ∧ e.blob = ⟨#[]⟩ ∧ (e.kind = 1 → e.ref = 0) ∧ (e.kind = 2 → 1 ≤ e.ref ∧ e.ref ≤ e.prevTx)) ∨
  ((e.kind = 3 ∨ e.kind = 4 ∨ e.kind = 5) ∧ 1 ≤ e.tx ∧ e.tx ≤ 5 ∧ 1 ≤ e.prevTx ∧ e.prevTx ≤ 9 ∧ e.prevPage = 0 ∧ e.ref = 0 ∧ e.change = chg0 ∧ e.blob = ⟨#[]⟩) ∨
  ((e.kind = 6 ∨ e.kind = 8) ∧ e.tx = 0 ∧ e.prevTx = 0 ∧ e.prevPage = 0 ∧ e.ref = 0 ∧ e.change = chg0 ∧ e.blob.size ≤ 13) ∨
  (e.kind = 7 ∧ e.tx = 0 ∧ e.prevTx = 0 ∧ e.prevPage = 0 ∧ 0 ≤ e.ref ∧ e.ref ≤ 9 ∧ (∃ n : Int, 0 ≤ n ∧ n < 4 ∧ e.change = ⟨n, 0, noCell, noCell⟩) ∧ e.blob = ⟨#[]⟩))
def EntryR (p : Nat) (w : World) (e : Ending) (w' : World) : Prop := ∃ x : Ent, e = .returned (.agg x.arr) ∧ DrawnE x ∧ Cod p w' ∧ Since p w w'
def OddER (p : Nat) (w : World) (e : Ending) (w' : World) : Prop := ∃ x : Ent, e = .returned (.agg x.arr) ∧ FitsE x ∧ Cod p w' ∧ Since p w w'
set_option maxRecDepth 4000 in
set_option maxHeartbeats 4000000 in
theorem entry_any (p : Nat) (w : World) (h : Cod p w) : Calls Try.prog 10 #[.pointer (some ⟨p, 0, none⟩)] w (EntryR p w) := by
  have hlt := cod_lt h
  have H := Lib.hid h
  have HU : Hid True := Lib.hid trivial
  clear h
  go_enter Try.func10, Try.ntmps10
  go_upto_region 3 with (first
    | (clear HU; refine wp_newEntW rfl rfl ?_; intro w0 hR hb0 z0; have R0 := Lib.hid hR; have C0 := Lib.hid (cod_keep H.out hb0); have S0 := Lib.hid (since_below (grownBy_refl w (some p)) hb0); clear hR hb0 H)
    | (go_at_call 19; have hq := C0.out; clear hq; (with_reducible refine (next_any p 90 _ C0.out (by decide)).mono ?_); rintro e1 w1 ⟨q1, rfl, qa1, qb1, _, hC, hg⟩; have qc1 := qb1 (by decide); clear qb1; have C1 := Lib.hid hC; have S1 := Lib.hid (grownBy_trans S0.out hg); have R1 := Lib.hid (RowAt.grown R0.out hg (row_ne hlt)); clear hC hg C0 S0 R0)
    | (go_at_call 19; have hq := C1.out; clear hq; (with_reducible refine (next_any p 8 _ C1.out (by decide)).mono ?_); rintro e2 w2 ⟨q2, rfl, qa2, qb2, _, hC, hg⟩; have qc2 := qb2 (by decide); clear qb2; have C2 := Lib.hid hC; have S2 := Lib.hid (grownBy_trans S1.out hg); have R2 := Lib.hid (RowAt.grown R1.out hg (row_ne hlt)); clear hC hg C1 S1 R1)
    | (refine wp_newEntW rfl rfl ?_; intro w3 hE hb3 z3; have lt2 := R2.out.lt; have hl1 : p < w2.heap.size := (by omega); have E3 := Lib.hid hE; have R3 := Lib.hid (RowAt.keep R2.out hb3); have C3 := Lib.hid (cod_keep C2.out hb3); have S3 := Lib.hid (since_below S2.out hb3); clear hE hb3 R2 C2 S2)
    | (refine wp_storeEntW ⟨10 + q1, 1 + q2, 0, 0, 0, 0, chg0, ⟨#[]⟩⟩ E3.out (evals_length _) rfl rfl rfl rfl ?_; intro w4 hE hS; have E4 := Lib.hid hE; have a1 := RowAt.cells E4.out 1 _ rfl; simp only at a1; have R4 := Lib.hid (StoredAt.row hS R3.out (by omega)); have C4 := Lib.hid (storedAt_cod hS C3.out hl1); have S4 := Lib.hid (storedAt_since hS S3.out (by omega)); clear hE hS C3 S3 E3 R3))
  have hk : q2 = 0 ∨ q2 = 1 ∨ q2 = 2 ∨ q2 = 3 ∨ q2 = 4 ∨ q2 = 5 ∨ q2 = 6 ∨ q2 = 7 := by omega
  clear qa2 qc2
  rcases hk with rfl | rfl | rfl | rfl | rfl | rfl | rfl | rfl
  · skip
    go_wp2_with (first
      | (go_at_call 19; have hq := C4.out; clear hq; (with_reducible refine (next_any p 5 _ C4.out (by decide)).mono ?_); rintro e5 w5 ⟨q5, rfl, qa5, qb5, _, hC, hg⟩; have qc5 := qb5 (by decide); clear qb5; have C5 := Lib.hid hC; have S5 := Lib.hid (grownBy_trans S4.out hg); have R5 := Lib.hid (RowAt.grown R4.out hg (row_ne hlt)); have E5 := Lib.hid (RowAt.grown E4.out hg (row_ne hl1)); clear hC hg C4 S4 R4 E4)
      | (go_at_call 19; have hq := C5.out; clear hq; (with_reducible refine (next_any p 9 _ C5.out (by decide)).mono ?_); rintro e6 w6 ⟨q6, rfl, qa6, qb6, _, hC, hg⟩; have qc6 := qb6 (by decide); clear qb6; have C6 := Lib.hid hC; have S6 := Lib.hid (grownBy_trans S5.out hg); have R6 := Lib.hid (RowAt.grown R5.out hg (row_ne hlt)); have E6 := Lib.hid (RowAt.grown E5.out hg (row_ne hl1)); clear hC hg C5 S5 R5 E5)
      | (go_at_call 19; have hq := C6.out; clear hq; (with_reducible refine (next_any p 10 _ C6.out (by decide)).mono ?_); rintro e7 w7 ⟨q7, rfl, qa7, qb7, _, hC, hg⟩; have qc7 := qb7 (by decide); clear qb7; have C7 := Lib.hid hC; have S7 := Lib.hid (grownBy_trans S6.out hg); have R7 := Lib.hid (RowAt.grown R6.out hg (row_ne hlt)); have E7 := Lib.hid (RowAt.grown E6.out hg (row_ne hl1)); clear hC hg C6 S6 R6 E6)
      | (go_at_call 22; have hq := C7.out; clear hq; (with_reducible refine (change_any p _ C7.out).mono ?_); rintro e8 w8 ⟨c8, rfl, hc8, hC, hg⟩; have C8 := Lib.hid hC; have S8 := Lib.hid (grownBy_trans S7.out hg); have R8 := Lib.hid (RowAt.grown R7.out hg (row_ne hlt)); have E8 := Lib.hid (RowAt.grown E7.out hg (row_ne hl1)); clear hC hg C7 S7 R7 E7)
      | (refine wp_storeFieldW 3 (.int .i64 (1 + q5)) rfl rfl info_int1 E8.out (show 2 < 13 by decide) rfl rfl rfl rfl ?_; intro w9 hE hS; have E9 : Hid (EnAt w2.heap.size (Ent.mk (10 + q1) (1 + 0) (1 + q5) 0 0 0 chg0 ⟨#[]⟩) w9) := Lib.hid hE; have R9 := Lib.hid (StoredAt.row hS R8.out (by omega)); have C9 := Lib.hid (storedAt_cod hS C8.out hl1); have S9 := Lib.hid (storedAt_since hS S8.out (by omega)); clear hE hS C8 S8 E8 R8)
      | (refine wp_storeFieldW 3 (.int .i64 (1 + q6)) rfl rfl info_int1 E9.out (show 3 < 13 by decide) rfl rfl rfl rfl ?_; intro w10 hE hS; have E10 : Hid (EnAt w2.heap.size (Ent.mk (10 + q1) (1 + 0) (1 + q5) (1 + q6) 0 0 chg0 ⟨#[]⟩) w10) := Lib.hid hE; have R10 := Lib.hid (StoredAt.row hS R9.out (by omega)); have C10 := Lib.hid (storedAt_cod hS C9.out hl1); have S10 := Lib.hid (storedAt_since hS S9.out (by omega)); clear hE hS C9 S9 E9 R9)
      | (refine wp_storeFieldW 3 (.int .i64 q7) rfl rfl info_int1 E10.out (show 4 < 13 by decide) rfl rfl rfl rfl ?_; intro w11 hE hS; have E11 : Hid (EnAt w2.heap.size (Ent.mk (10 + q1) (1 + 0) (1 + q5) (1 + q6) q7 0 chg0 ⟨#[]⟩) w11) := Lib.hid hE; have R11 := Lib.hid (StoredAt.row hS R10.out (by omega)); have C11 := Lib.hid (storedAt_cod hS C10.out hl1); have S11 := Lib.hid (storedAt_since hS S10.out (by omega)); clear hE hS C10 S10 E10 R10)
      | (refine wp_storeChg6W c8 (Ent.mk (10 + q1) (1 + 0) (1 + q5) (1 + q6) q7 0 chg0 ⟨#[]⟩) E11.out rfl rfl rfl rfl ?_; intro w12 hE hS; have E12 : Hid (EnAt w2.heap.size (Ent.mk (10 + q1) (1 + 0) (1 + q5) (1 + q6) q7 0 c8 ⟨#[]⟩) w12) := Lib.hid hE; have a1 := RowAt.cells E12.out 1 _ rfl; have a3 := RowAt.cells E12.out 3 _ rfl; simp only at a1 a3; have R12 := Lib.hid (StoredAt.row hS R11.out (by omega)); have C12 := Lib.hid (storedAt_cod hS C11.out hl1); have S12 := Lib.hid (storedAt_since hS S11.out (by omega)); clear hE hS C11 S11 E11 R11)
      | (refine wp_loadEnt (Ent.mk (10 + q1) (1 + 0) (1 + q5) (1 + q6) q7 0 c8 ⟨#[]⟩) E12.out rfl rfl rfl ?_)
      | (refine wp_storeEntW (Ent.mk (10 + q1) (1 + 0) (1 + q5) (1 + q6) q7 0 c8 ⟨#[]⟩) R12.out (evals_length _) rfl rfl rfl rfl ?_; intro w13 hR hS; have RR := Lib.hid hR; have CC := Lib.hid (storedAt_cod hS C12.out hlt); have SS := Lib.hid (storedAt_since hS S12.out (Nat.le_refl _)); clear hR hS C12 S12 R12 E12))
    exact bodyPost_ret (res_ent rfl rfl RR.out) rfl ⟨_, rfl, ⟨by show 10 ≤ 10 + q1; omega, by show 10 + q1 < 100; omega, Or.inl ⟨Or.inl rfl, by show 1 ≤ 1 + q5; omega, by show 1 + q5 ≤ 5; omega, by show 1 ≤ 1 + q6; omega, by show 1 + q6 ≤ 9; omega, qa7, by show q7 ≤ 9; omega, hc8, rfl, fun _ => rfl, fun h => by cases h⟩⟩, CC.out, SS.out⟩
  · skip
    go_wp2_with (first
      | (go_at_call 19; have hq := C4.out; clear hq; (with_reducible refine (next_any p 5 _ C4.out (by decide)).mono ?_); rintro e5 w5 ⟨q5, rfl, qa5, qb5, _, hC, hg⟩; have qc5 := qb5 (by decide); clear qb5; have C5 := Lib.hid hC; have S5 := Lib.hid (grownBy_trans S4.out hg); have R5 := Lib.hid (RowAt.grown R4.out hg (row_ne hlt)); have E5 := Lib.hid (RowAt.grown E4.out hg (row_ne hl1)); clear hC hg C4 S4 R4 E4)
      | (go_at_call 19; have hq := C5.out; clear hq; (with_reducible refine (next_any p 9 _ C5.out (by decide)).mono ?_); rintro e6 w6 ⟨q6, rfl, qa6, qb6, _, hC, hg⟩; have qc6 := qb6 (by decide); clear qb6; have C6 := Lib.hid hC; have S6 := Lib.hid (grownBy_trans S5.out hg); have R6 := Lib.hid (RowAt.grown R5.out hg (row_ne hlt)); have E6 := Lib.hid (RowAt.grown E5.out hg (row_ne hl1)); clear hC hg C5 S5 R5 E5)
      | (go_at_call 19; have hq := C6.out; clear hq; (with_reducible refine (next_any p 10 _ C6.out (by decide)).mono ?_); rintro e7 w7 ⟨q7, rfl, qa7, qb7, _, hC, hg⟩; have qc7 := qb7 (by decide); clear qb7; have C7 := Lib.hid hC; have S7 := Lib.hid (grownBy_trans S6.out hg); have R7 := Lib.hid (RowAt.grown R6.out hg (row_ne hlt)); have E7 := Lib.hid (RowAt.grown E6.out hg (row_ne hl1)); clear hC hg C6 S6 R6 E6)
      | (go_at_call 22; have hq := C7.out; clear hq; (with_reducible refine (change_any p _ C7.out).mono ?_); rintro e8 w8 ⟨c8, rfl, hc8, hC, hg⟩; have C8 := Lib.hid hC; have S8 := Lib.hid (grownBy_trans S7.out hg); have R8 := Lib.hid (RowAt.grown R7.out hg (row_ne hlt)); have E8 := Lib.hid (RowAt.grown E7.out hg (row_ne hl1)); clear hC hg C7 S7 R7 E7)
      | (refine wp_storeFieldW 3 (.int .i64 (1 + q5)) rfl rfl info_int1 E8.out (show 2 < 13 by decide) rfl rfl rfl rfl ?_; intro w9 hE hS; have E9 : Hid (EnAt w2.heap.size (Ent.mk (10 + q1) (1 + 1) (1 + q5) 0 0 0 chg0 ⟨#[]⟩) w9) := Lib.hid hE; have R9 := Lib.hid (StoredAt.row hS R8.out (by omega)); have C9 := Lib.hid (storedAt_cod hS C8.out hl1); have S9 := Lib.hid (storedAt_since hS S8.out (by omega)); clear hE hS C8 S8 E8 R8)
      | (refine wp_storeFieldW 3 (.int .i64 (1 + q6)) rfl rfl info_int1 E9.out (show 3 < 13 by decide) rfl rfl rfl rfl ?_; intro w10 hE hS; have E10 : Hid (EnAt w2.heap.size (Ent.mk (10 + q1) (1 + 1) (1 + q5) (1 + q6) 0 0 chg0 ⟨#[]⟩) w10) := Lib.hid hE; have R10 := Lib.hid (StoredAt.row hS R9.out (by omega)); have C10 := Lib.hid (storedAt_cod hS C9.out hl1); have S10 := Lib.hid (storedAt_since hS S9.out (by omega)); clear hE hS C9 S9 E9 R9)
      | (refine wp_storeFieldW 3 (.int .i64 q7) rfl rfl info_int1 E10.out (show 4 < 13 by decide) rfl rfl rfl rfl ?_; intro w11 hE hS; have E11 : Hid (EnAt w2.heap.size (Ent.mk (10 + q1) (1 + 1) (1 + q5) (1 + q6) q7 0 chg0 ⟨#[]⟩) w11) := Lib.hid hE; have R11 := Lib.hid (StoredAt.row hS R10.out (by omega)); have C11 := Lib.hid (storedAt_cod hS C10.out hl1); have S11 := Lib.hid (storedAt_since hS S10.out (by omega)); clear hE hS C10 S10 E10 R10)
      | (refine wp_storeChg6W c8 (Ent.mk (10 + q1) (1 + 1) (1 + q5) (1 + q6) q7 0 chg0 ⟨#[]⟩) E11.out rfl rfl rfl rfl ?_; intro w12 hE hS; have E12 : Hid (EnAt w2.heap.size (Ent.mk (10 + q1) (1 + 1) (1 + q5) (1 + q6) q7 0 c8 ⟨#[]⟩) w12) := Lib.hid hE; have a1 := RowAt.cells E12.out 1 _ rfl; have a3 := RowAt.cells E12.out 3 _ rfl; simp only at a1 a3; have R12 := Lib.hid (StoredAt.row hS R11.out (by omega)); have C12 := Lib.hid (storedAt_cod hS C11.out hl1); have S12 := Lib.hid (storedAt_since hS S11.out (by omega)); clear hE hS C11 S11 E11 R11)
      | (go_at_call 19; have hq := C12.out; clear hq; (with_reducible refine (next_any p (1 + q6) _ C12.out (by omega)).mono ?_); rintro e13 w13 ⟨q13, rfl, qa13, qb13, _, hC, hg⟩; have qc13 := qb13 (by omega); clear qb13; have C13 := Lib.hid hC; have S13 := Lib.hid (grownBy_trans S12.out hg); have R13 := Lib.hid (RowAt.grown R12.out hg (row_ne hlt)); have E13 := Lib.hid (RowAt.grown E12.out hg (row_ne hl1)); clear hC hg C12 S12 R12 E12)
      | (refine wp_storeFieldW 3 (.int .i64 (1 + q13)) rfl rfl info_int1 E13.out (show 5 < 13 by decide) rfl rfl rfl rfl ?_; intro w14 hE hS; have E14 : Hid (EnAt w2.heap.size (Ent.mk (10 + q1) (1 + 1) (1 + q5) (1 + q6) q7 (1 + q13) c8 ⟨#[]⟩) w14) := Lib.hid hE; have R14 := Lib.hid (StoredAt.row hS R13.out (by omega)); have C14 := Lib.hid (storedAt_cod hS C13.out hl1); have S14 := Lib.hid (storedAt_since hS S13.out (by omega)); clear hE hS C13 S13 E13 R13)
      | (refine wp_loadEnt (Ent.mk (10 + q1) (1 + 1) (1 + q5) (1 + q6) q7 (1 + q13) c8 ⟨#[]⟩) E14.out rfl rfl rfl ?_)
      | (refine wp_storeEntW (Ent.mk (10 + q1) (1 + 1) (1 + q5) (1 + q6) q7 (1 + q13) c8 ⟨#[]⟩) R14.out (evals_length _) rfl rfl rfl rfl ?_; intro w15 hR hS; have RR := Lib.hid hR; have CC := Lib.hid (storedAt_cod hS C14.out hlt); have SS := Lib.hid (storedAt_since hS S14.out (Nat.le_refl _)); clear hR hS C14 S14 R14 E14))
    exact bodyPost_ret (res_ent rfl rfl RR.out) rfl ⟨_, rfl, ⟨by show 10 ≤ 10 + q1; omega, by show 10 + q1 < 100; omega, Or.inl ⟨Or.inr rfl, by show 1 ≤ 1 + q5; omega, by show 1 + q5 ≤ 5; omega, by show 1 ≤ 1 + q6; omega, by show 1 + q6 ≤ 9; omega, qa7, by show q7 ≤ 9; omega, hc8, rfl, (fun h => by cases h), fun _ => ⟨by show 1 ≤ 1 + q13; omega, by show 1 + q13 ≤ 1 + q6; omega⟩⟩⟩, CC.out, SS.out⟩
  · skip
    go_wp2_with (first
      | (go_at_call 19; have hq := C4.out; clear hq; (with_reducible refine (next_any p 5 _ C4.out (by decide)).mono ?_); rintro e5 w5 ⟨q5, rfl, qa5, qb5, _, hC, hg⟩; have qc5 := qb5 (by decide); clear qb5; have C5 := Lib.hid hC; have S5 := Lib.hid (grownBy_trans S4.out hg); have R5 := Lib.hid (RowAt.grown R4.out hg (row_ne hlt)); have E5 := Lib.hid (RowAt.grown E4.out hg (row_ne hl1)); clear hC hg C4 S4 R4 E4)
      | (go_at_call 19; have hq := C5.out; clear hq; (with_reducible refine (next_any p 9 _ C5.out (by decide)).mono ?_); rintro e6 w6 ⟨q6, rfl, qa6, qb6, _, hC, hg⟩; have qc6 := qb6 (by decide); clear qb6; have C6 := Lib.hid hC; have S6 := Lib.hid (grownBy_trans S5.out hg); have R6 := Lib.hid (RowAt.grown R5.out hg (row_ne hlt)); have E6 := Lib.hid (RowAt.grown E5.out hg (row_ne hl1)); clear hC hg C5 S5 R5 E5)
      | (refine wp_storeFieldW 3 (.int .i64 (1 + q5)) rfl rfl info_int1 E6.out (show 2 < 13 by decide) rfl rfl rfl rfl ?_; intro w7 hE hS; have E7 : Hid (EnAt w2.heap.size (Ent.mk (10 + q1) (1 + 2) (1 + q5) 0 0 0 chg0 ⟨#[]⟩) w7) := Lib.hid hE; have R7 := Lib.hid (StoredAt.row hS R6.out (by omega)); have C7 := Lib.hid (storedAt_cod hS C6.out hl1); have S7 := Lib.hid (storedAt_since hS S6.out (by omega)); clear hE hS C6 S6 E6 R6)
      | (refine wp_storeFieldW 3 (.int .i64 (1 + q6)) rfl rfl info_int1 E7.out (show 3 < 13 by decide) rfl rfl rfl rfl ?_; intro w8 hE hS; have E8 : Hid (EnAt w2.heap.size (Ent.mk (10 + q1) (1 + 2) (1 + q5) (1 + q6) 0 0 chg0 ⟨#[]⟩) w8) := Lib.hid hE; have R8 := Lib.hid (StoredAt.row hS R7.out (by omega)); have C8 := Lib.hid (storedAt_cod hS C7.out hl1); have S8 := Lib.hid (storedAt_since hS S7.out (by omega)); clear hE hS C7 S7 E7 R7)
      | (refine wp_loadEnt (Ent.mk (10 + q1) (1 + 2) (1 + q5) (1 + q6) 0 0 chg0 ⟨#[]⟩) E8.out rfl rfl rfl ?_)
      | (refine wp_storeEntW (Ent.mk (10 + q1) (1 + 2) (1 + q5) (1 + q6) 0 0 chg0 ⟨#[]⟩) R8.out (evals_length _) rfl rfl rfl rfl ?_; intro w9 hR hS; have RR := Lib.hid hR; have CC := Lib.hid (storedAt_cod hS C8.out hlt); have SS := Lib.hid (storedAt_since hS S8.out (Nat.le_refl _)); clear hR hS C8 S8 R8 E8))
    exact bodyPost_ret (res_ent rfl rfl RR.out) rfl ⟨_, rfl, ⟨by show 10 ≤ 10 + q1; omega, by show 10 + q1 < 100; omega, Or.inr (Or.inl ⟨Or.inl rfl, by show 1 ≤ 1 + q5; omega, by show 1 + q5 ≤ 5; omega, by show 1 ≤ 1 + q6; omega, by show 1 + q6 ≤ 9; omega, rfl, rfl, rfl, rfl⟩)⟩, CC.out, SS.out⟩
  · skip
    go_wp2_with (first
      | (go_at_call 19; have hq := C4.out; clear hq; (with_reducible refine (next_any p 5 _ C4.out (by decide)).mono ?_); rintro e5 w5 ⟨q5, rfl, qa5, qb5, _, hC, hg⟩; have qc5 := qb5 (by decide); clear qb5; have C5 := Lib.hid hC; have S5 := Lib.hid (grownBy_trans S4.out hg); have R5 := Lib.hid (RowAt.grown R4.out hg (row_ne hlt)); have E5 := Lib.hid (RowAt.grown E4.out hg (row_ne hl1)); clear hC hg C4 S4 R4 E4)
      | (go_at_call 19; have hq := C5.out; clear hq; (with_reducible refine (next_any p 9 _ C5.out (by decide)).mono ?_); rintro e6 w6 ⟨q6, rfl, qa6, qb6, _, hC, hg⟩; have qc6 := qb6 (by decide); clear qb6; have C6 := Lib.hid hC; have S6 := Lib.hid (grownBy_trans S5.out hg); have R6 := Lib.hid (RowAt.grown R5.out hg (row_ne hlt)); have E6 := Lib.hid (RowAt.grown E5.out hg (row_ne hl1)); clear hC hg C5 S5 R5 E5)
      | (refine wp_storeFieldW 3 (.int .i64 (1 + q5)) rfl rfl info_int1 E6.out (show 2 < 13 by decide) rfl rfl rfl rfl ?_; intro w7 hE hS; have E7 : Hid (EnAt w2.heap.size (Ent.mk (10 + q1) (1 + 3) (1 + q5) 0 0 0 chg0 ⟨#[]⟩) w7) := Lib.hid hE; have R7 := Lib.hid (StoredAt.row hS R6.out (by omega)); have C7 := Lib.hid (storedAt_cod hS C6.out hl1); have S7 := Lib.hid (storedAt_since hS S6.out (by omega)); clear hE hS C6 S6 E6 R6)
      | (refine wp_storeFieldW 3 (.int .i64 (1 + q6)) rfl rfl info_int1 E7.out (show 3 < 13 by decide) rfl rfl rfl rfl ?_; intro w8 hE hS; have E8 : Hid (EnAt w2.heap.size (Ent.mk (10 + q1) (1 + 3) (1 + q5) (1 + q6) 0 0 chg0 ⟨#[]⟩) w8) := Lib.hid hE; have R8 := Lib.hid (StoredAt.row hS R7.out (by omega)); have C8 := Lib.hid (storedAt_cod hS C7.out hl1); have S8 := Lib.hid (storedAt_since hS S7.out (by omega)); clear hE hS C7 S7 E7 R7)
      | (refine wp_loadEnt (Ent.mk (10 + q1) (1 + 3) (1 + q5) (1 + q6) 0 0 chg0 ⟨#[]⟩) E8.out rfl rfl rfl ?_)
      | (refine wp_storeEntW (Ent.mk (10 + q1) (1 + 3) (1 + q5) (1 + q6) 0 0 chg0 ⟨#[]⟩) R8.out (evals_length _) rfl rfl rfl rfl ?_; intro w9 hR hS; have RR := Lib.hid hR; have CC := Lib.hid (storedAt_cod hS C8.out hlt); have SS := Lib.hid (storedAt_since hS S8.out (Nat.le_refl _)); clear hR hS C8 S8 R8 E8))
    exact bodyPost_ret (res_ent rfl rfl RR.out) rfl ⟨_, rfl, ⟨by show 10 ≤ 10 + q1; omega, by show 10 + q1 < 100; omega, Or.inr (Or.inl ⟨Or.inr (Or.inl rfl), by show 1 ≤ 1 + q5; omega, by show 1 + q5 ≤ 5; omega, by show 1 ≤ 1 + q6; omega, by show 1 + q6 ≤ 9; omega, rfl, rfl, rfl, rfl⟩)⟩, CC.out, SS.out⟩
  · skip
    go_wp2_with (first
      | (go_at_call 19; have hq := C4.out; clear hq; (with_reducible refine (next_any p 5 _ C4.out (by decide)).mono ?_); rintro e5 w5 ⟨q5, rfl, qa5, qb5, _, hC, hg⟩; have qc5 := qb5 (by decide); clear qb5; have C5 := Lib.hid hC; have S5 := Lib.hid (grownBy_trans S4.out hg); have R5 := Lib.hid (RowAt.grown R4.out hg (row_ne hlt)); have E5 := Lib.hid (RowAt.grown E4.out hg (row_ne hl1)); clear hC hg C4 S4 R4 E4)
      | (go_at_call 19; have hq := C5.out; clear hq; (with_reducible refine (next_any p 9 _ C5.out (by decide)).mono ?_); rintro e6 w6 ⟨q6, rfl, qa6, qb6, _, hC, hg⟩; have qc6 := qb6 (by decide); clear qb6; have C6 := Lib.hid hC; have S6 := Lib.hid (grownBy_trans S5.out hg); have R6 := Lib.hid (RowAt.grown R5.out hg (row_ne hlt)); have E6 := Lib.hid (RowAt.grown E5.out hg (row_ne hl1)); clear hC hg C5 S5 R5 E5)
      | (refine wp_storeFieldW 3 (.int .i64 (1 + q5)) rfl rfl info_int1 E6.out (show 2 < 13 by decide) rfl rfl rfl rfl ?_; intro w7 hE hS; have E7 : Hid (EnAt w2.heap.size (Ent.mk (10 + q1) (1 + 4) (1 + q5) 0 0 0 chg0 ⟨#[]⟩) w7) := Lib.hid hE; have R7 := Lib.hid (StoredAt.row hS R6.out (by omega)); have C7 := Lib.hid (storedAt_cod hS C6.out hl1); have S7 := Lib.hid (storedAt_since hS S6.out (by omega)); clear hE hS C6 S6 E6 R6)
      | (refine wp_storeFieldW 3 (.int .i64 (1 + q6)) rfl rfl info_int1 E7.out (show 3 < 13 by decide) rfl rfl rfl rfl ?_; intro w8 hE hS; have E8 : Hid (EnAt w2.heap.size (Ent.mk (10 + q1) (1 + 4) (1 + q5) (1 + q6) 0 0 chg0 ⟨#[]⟩) w8) := Lib.hid hE; have R8 := Lib.hid (StoredAt.row hS R7.out (by omega)); have C8 := Lib.hid (storedAt_cod hS C7.out hl1); have S8 := Lib.hid (storedAt_since hS S7.out (by omega)); clear hE hS C7 S7 E7 R7)
      | (refine wp_loadEnt (Ent.mk (10 + q1) (1 + 4) (1 + q5) (1 + q6) 0 0 chg0 ⟨#[]⟩) E8.out rfl rfl rfl ?_)
      | (refine wp_storeEntW (Ent.mk (10 + q1) (1 + 4) (1 + q5) (1 + q6) 0 0 chg0 ⟨#[]⟩) R8.out (evals_length _) rfl rfl rfl rfl ?_; intro w9 hR hS; have RR := Lib.hid hR; have CC := Lib.hid (storedAt_cod hS C8.out hlt); have SS := Lib.hid (storedAt_since hS S8.out (Nat.le_refl _)); clear hR hS C8 S8 R8 E8))
    exact bodyPost_ret (res_ent rfl rfl RR.out) rfl ⟨_, rfl, ⟨by show 10 ≤ 10 + q1; omega, by show 10 + q1 < 100; omega, Or.inr (Or.inl ⟨Or.inr (Or.inr rfl), by show 1 ≤ 1 + q5; omega, by show 1 + q5 ≤ 5; omega, by show 1 ≤ 1 + q6; omega, by show 1 + q6 ≤ 9; omega, rfl, rfl, rfl, rfl⟩)⟩, CC.out, SS.out⟩
  · skip
    go_wp2_with (first
      | (go_at_call 23; have hq := C4.out; clear hq; (with_reducible refine (data_any p _ C4.out).mono ?_); rintro e5 w5 ⟨d5, rfl, hd5, hC, hg⟩; have C5 := Lib.hid hC; have S5 := Lib.hid (grownBy_trans S4.out hg); have R5 := Lib.hid (RowAt.grown R4.out hg (row_ne hlt)); have E5 := Lib.hid (RowAt.grown E4.out hg (row_ne hl1)); clear hC hg C4 S4 R4 E4)
      | (refine wp_storeFieldW 9 (.string d5) rfl rfl info_string1 E5.out (show 12 < 13 by decide) rfl rfl rfl rfl ?_; intro w6 hE hS; have E6 : Hid (EnAt w2.heap.size (Ent.mk (10 + q1) (1 + 5) 0 0 0 0 chg0 d5) w6) := Lib.hid hE; have R6 := Lib.hid (StoredAt.row hS R5.out (by omega)); have C6 := Lib.hid (storedAt_cod hS C5.out hl1); have S6 := Lib.hid (storedAt_since hS S5.out (by omega)); clear hE hS C5 S5 E5 R5)
      | (refine wp_loadEnt (Ent.mk (10 + q1) (1 + 5) 0 0 0 0 chg0 d5) E6.out rfl rfl rfl ?_)
      | (refine wp_storeEntW (Ent.mk (10 + q1) (1 + 5) 0 0 0 0 chg0 d5) R6.out (evals_length _) rfl rfl rfl rfl ?_; intro w7 hR hS; have RR := Lib.hid hR; have CC := Lib.hid (storedAt_cod hS C6.out hlt); have SS := Lib.hid (storedAt_since hS S6.out (Nat.le_refl _)); clear hR hS C6 S6 R6 E6))
    exact bodyPost_ret (res_ent rfl rfl RR.out) rfl ⟨_, rfl, ⟨by show 10 ≤ 10 + q1; omega, by show 10 + q1 < 100; omega, Or.inr (Or.inr (Or.inl ⟨Or.inl rfl, rfl, rfl, rfl, rfl, rfl, hd5⟩))⟩, CC.out, SS.out⟩
  · skip
    go_wp2_with (first
      | (go_at_call 19; have hq := C4.out; clear hq; (with_reducible refine (next_any p 4 _ C4.out (by decide)).mono ?_); rintro e5 w5 ⟨q5, rfl, qa5, qb5, _, hC, hg⟩; have qc5 := qb5 (by decide); clear qb5; have C5 := Lib.hid hC; have S5 := Lib.hid (grownBy_trans S4.out hg); have R5 := Lib.hid (RowAt.grown R4.out hg (row_ne hlt)); have E5 := Lib.hid (RowAt.grown E4.out hg (row_ne hl1)); clear hC hg C4 S4 R4 E4)
      | (go_at_call 19; have hq := C5.out; clear hq; (with_reducible refine (next_any p 10 _ C5.out (by decide)).mono ?_); rintro e6 w6 ⟨q6, rfl, qa6, qb6, _, hC, hg⟩; have qc6 := qb6 (by decide); clear qb6; have C6 := Lib.hid hC; have S6 := Lib.hid (grownBy_trans S5.out hg); have R6 := Lib.hid (RowAt.grown R5.out hg (row_ne hlt)); have E6 := Lib.hid (RowAt.grown E5.out hg (row_ne hl1)); clear hC hg C5 S5 R5 E5)
      | (refine wp_storeFieldW 3 (.int .i64 q5) rfl rfl info_int1 E6.out (show 6 < 13 by decide) rfl rfl rfl rfl ?_; intro w7 hE hS; have E7 : Hid (EnAt w2.heap.size (Ent.mk (10 + q1) (1 + 6) 0 0 0 0 ⟨q5, 0, noCell, noCell⟩ ⟨#[]⟩) w7) := Lib.hid hE; have R7 := Lib.hid (StoredAt.row hS R6.out (by omega)); have C7 := Lib.hid (storedAt_cod hS C6.out hl1); have S7 := Lib.hid (storedAt_since hS S6.out (by omega)); clear hE hS C6 S6 E6 R6)
      | (refine wp_storeFieldW 3 (.int .i64 q6) rfl rfl info_int1 E7.out (show 5 < 13 by decide) rfl rfl rfl rfl ?_; intro w8 hE hS; have E8 : Hid (EnAt w2.heap.size (Ent.mk (10 + q1) (1 + 6) 0 0 0 q6 ⟨q5, 0, noCell, noCell⟩ ⟨#[]⟩) w8) := Lib.hid hE; have R8 := Lib.hid (StoredAt.row hS R7.out (by omega)); have C8 := Lib.hid (storedAt_cod hS C7.out hl1); have S8 := Lib.hid (storedAt_since hS S7.out (by omega)); clear hE hS C7 S7 E7 R7)
      | (refine wp_loadEnt (Ent.mk (10 + q1) (1 + 6) 0 0 0 q6 ⟨q5, 0, noCell, noCell⟩ ⟨#[]⟩) E8.out rfl rfl rfl ?_)
      | (refine wp_storeEntW (Ent.mk (10 + q1) (1 + 6) 0 0 0 q6 ⟨q5, 0, noCell, noCell⟩ ⟨#[]⟩) R8.out (evals_length _) rfl rfl rfl rfl ?_; intro w9 hR hS; have RR := Lib.hid hR; have CC := Lib.hid (storedAt_cod hS C8.out hlt); have SS := Lib.hid (storedAt_since hS S8.out (Nat.le_refl _)); clear hR hS C8 S8 R8 E8))
    exact bodyPost_ret (res_ent rfl rfl RR.out) rfl ⟨_, rfl, ⟨by show 10 ≤ 10 + q1; omega, by show 10 + q1 < 100; omega, Or.inr (Or.inr (Or.inr ⟨rfl, rfl, rfl, rfl, qa6, by show q6 ≤ 9; omega, ⟨q5, qa5, qc5, rfl⟩, rfl⟩))⟩, CC.out, SS.out⟩
  · skip
    go_wp2_with (first
      | (go_at_call 23; have hq := C4.out; clear hq; (with_reducible refine (data_any p _ C4.out).mono ?_); rintro e5 w5 ⟨d5, rfl, hd5, hC, hg⟩; have C5 := Lib.hid hC; have S5 := Lib.hid (grownBy_trans S4.out hg); have R5 := Lib.hid (RowAt.grown R4.out hg (row_ne hlt)); have E5 := Lib.hid (RowAt.grown E4.out hg (row_ne hl1)); clear hC hg C4 S4 R4 E4)
      | (refine wp_storeFieldW 9 (.string d5) rfl rfl info_string1 E5.out (show 12 < 13 by decide) rfl rfl rfl rfl ?_; intro w6 hE hS; have E6 : Hid (EnAt w2.heap.size (Ent.mk (10 + q1) (1 + 7) 0 0 0 0 chg0 d5) w6) := Lib.hid hE; have R6 := Lib.hid (StoredAt.row hS R5.out (by omega)); have C6 := Lib.hid (storedAt_cod hS C5.out hl1); have S6 := Lib.hid (storedAt_since hS S5.out (by omega)); clear hE hS C5 S5 E5 R5)
      | (refine wp_loadEnt (Ent.mk (10 + q1) (1 + 7) 0 0 0 0 chg0 d5) E6.out rfl rfl rfl ?_)
      | (refine wp_storeEntW (Ent.mk (10 + q1) (1 + 7) 0 0 0 0 chg0 d5) R6.out (evals_length _) rfl rfl rfl rfl ?_; intro w7 hR hS; have RR := Lib.hid hR; have CC := Lib.hid (storedAt_cod hS C6.out hlt); have SS := Lib.hid (storedAt_since hS S6.out (Nat.le_refl _)); clear hR hS C6 S6 R6 E6))
    exact bodyPost_ret (res_ent rfl rfl RR.out) rfl ⟨_, rfl, ⟨by show 10 ≤ 10 + q1; omega, by show 10 + q1 < 100; omega, Or.inr (Or.inr (Or.inl ⟨Or.inr rfl, rfl, rfl, rfl, rfl, rfl, hd5⟩))⟩, CC.out, SS.out⟩
set_option maxRecDepth 4000 in
set_option maxHeartbeats 4000000 in
theorem odd_any (p : Nat) (x : Ent) (w : World) (h : Cod p w) (hf : FitsE x) : Calls Try.prog 11 #[.pointer (some ⟨p, 0, none⟩), .agg x.arr] w (OddER p w) := by
  have hlt := cod_lt h
  have hf1 : FitsH x.change := hf.1
  have H := Lib.hid h
  have HU : Hid True := Lib.hid trivial
  clear h
  go_enter Try.func11, Try.ntmps11
  go_upto_region 2 with (first
    | (clear HU; refine wp_boxEntW x rfl rfl rfl ?_; intro w0 hE hb0 z0; have E0 := Lib.hid hE; have HC0 := Lib.hid (cod_keep H.out hb0); have HS0 := Lib.hid (since_below (grownBy_refl w (some p)) hb0); clear hE hb0 H)
    | (refine wp_newEntW rfl rfl ?_; intro w1 hR hb1 z1; have hl1 : p < w0.heap.size := (by omega); have R1 := Lib.hid hR; have E1 := Lib.hid (RowAt.keep E0.out hb1); have C1 := Lib.hid (cod_keep HC0.out hb1); have S1 := Lib.hid (since_below HS0.out hb1); clear hR hb1 E0 HC0 HS0)
    | (go_at_call 19; have hq := C1.out; clear hq; (with_reducible refine (next_any p 9 _ C1.out (by decide)).mono ?_); rintro e2 w2 ⟨q2, rfl, qa2, qb2, _, hC, hg⟩; have qc2 := qb2 (by decide); clear qb2; have C2 := Lib.hid hC; have S2 := Lib.hid (grownBy_trans S1.out hg); have E2 := Lib.hid (RowAt.grown E1.out hg (row_ne hlt)); have R2 := Lib.hid (RowAt.grown R1.out hg (row_ne hl1)); clear hC hg C1 S1 E1 R1))
  have hk : q2 = 0 ∨ q2 = 1 ∨ q2 = 2 ∨ q2 = 3 ∨ q2 = 4 ∨ q2 = 5 ∨ q2 = 6 ∨ q2 = 7 ∨ q2 = 8 := by omega
  clear qa2 qc2
  rcases hk with rfl | rfl | rfl | rfl | rfl | rfl | rfl | rfl | rfl
  · skip
    go_wp2_with (first
      | (go_at_call 24; have hq := C2.out; clear hq; (with_reducible refine (int_any p _ C2.out).mono ?_); rintro e3 w3 ⟨n3, rfl, hC, hg⟩; have C3 := Lib.hid hC; have S3 := Lib.hid (grownBy_trans S2.out hg); have E3 := Lib.hid (RowAt.grown E2.out hg (row_ne hlt)); have R3 := Lib.hid (RowAt.grown R2.out hg (row_ne hl1)); clear hC hg C2 S2 E2 R2)
      | (refine wp_storeFieldW 3 (.int .i64 n3) rfl rfl info_int1 E3.out (show 0 < 13 by decide) rfl rfl rfl rfl ?_; intro w4 hE hS; have E4 : Hid (EnAt w.heap.size { x with lsn := n3 } w4) := Lib.hid hE; have R4 := Lib.hid (StoredAt.row hS R3.out (by omega)); have C4 := Lib.hid (storedAt_cod hS C3.out hlt); have S4 := Lib.hid (storedAt_since hS S3.out (by omega)); clear hE hS C3 S3 E3 R3)
      | (refine wp_loadEnt { x with lsn := n3 } E4.out rfl rfl rfl ?_)
      | (refine wp_storeEntW { x with lsn := n3 } R4.out (evals_length _) rfl rfl rfl rfl ?_; intro w5 hR hS; have RR := Lib.hid hR; have CC := Lib.hid (storedAt_cod hS C4.out hl1); have SS := Lib.hid (storedAt_since hS S4.out (by omega)); clear hR hS C4 S4 R4 E4))
    exact bodyPost_ret (res_ent rfl rfl RR.out) rfl ⟨_, rfl, hf, CC.out, SS.out⟩
  · skip
    go_wp2_with (first
      | (go_at_call 19; have hq := C2.out; clear hq; (with_reducible refine (next_any p 11 _ C2.out (by decide)).mono ?_); rintro e3 w3 ⟨q3, rfl, qa3, qb3, _, hC, hg⟩; have qc3 := qb3 (by decide); clear qb3; have C3 := Lib.hid hC; have S3 := Lib.hid (grownBy_trans S2.out hg); have E3 := Lib.hid (RowAt.grown E2.out hg (row_ne hlt)); have R3 := Lib.hid (RowAt.grown R2.out hg (row_ne hl1)); clear hC hg C2 S2 E2 R2)
      | (refine wp_storeFieldW 3 (.int .i64 (q3 - 1)) rfl rfl info_int1 E3.out (show 1 < 13 by decide) rfl rfl rfl rfl ?_; intro w4 hE hS; have E4 : Hid (EnAt w.heap.size { x with kind := q3 - 1 } w4) := Lib.hid hE; have R4 := Lib.hid (StoredAt.row hS R3.out (by omega)); have C4 := Lib.hid (storedAt_cod hS C3.out hlt); have S4 := Lib.hid (storedAt_since hS S3.out (by omega)); clear hE hS C3 S3 E3 R3)
      | (refine wp_loadEnt { x with kind := q3 - 1 } E4.out rfl rfl rfl ?_)
      | (refine wp_storeEntW { x with kind := q3 - 1 } R4.out (evals_length _) rfl rfl rfl rfl ?_; intro w5 hR hS; have RR := Lib.hid hR; have CC := Lib.hid (storedAt_cod hS C4.out hl1); have SS := Lib.hid (storedAt_since hS S4.out (by omega)); clear hR hS C4 S4 R4 E4))
    exact bodyPost_ret (res_ent rfl rfl RR.out) rfl ⟨_, rfl, hf, CC.out, SS.out⟩
  · skip
    go_wp2_with (first
      | (go_at_call 24; have hq := C2.out; clear hq; (with_reducible refine (int_any p _ C2.out).mono ?_); rintro e3 w3 ⟨n3, rfl, hC, hg⟩; have C3 := Lib.hid hC; have S3 := Lib.hid (grownBy_trans S2.out hg); have E3 := Lib.hid (RowAt.grown E2.out hg (row_ne hlt)); have R3 := Lib.hid (RowAt.grown R2.out hg (row_ne hl1)); clear hC hg C2 S2 E2 R2)
      | (refine wp_storeFieldW 3 (.int .i64 n3) rfl rfl info_int1 E3.out (show 2 < 13 by decide) rfl rfl rfl rfl ?_; intro w4 hE hS; have E4 : Hid (EnAt w.heap.size { x with tx := n3 } w4) := Lib.hid hE; have R4 := Lib.hid (StoredAt.row hS R3.out (by omega)); have C4 := Lib.hid (storedAt_cod hS C3.out hlt); have S4 := Lib.hid (storedAt_since hS S3.out (by omega)); clear hE hS C3 S3 E3 R3)
      | (refine wp_loadEnt { x with tx := n3 } E4.out rfl rfl rfl ?_)
      | (refine wp_storeEntW { x with tx := n3 } R4.out (evals_length _) rfl rfl rfl rfl ?_; intro w5 hR hS; have RR := Lib.hid hR; have CC := Lib.hid (storedAt_cod hS C4.out hl1); have SS := Lib.hid (storedAt_since hS S4.out (by omega)); clear hR hS C4 S4 R4 E4))
    exact bodyPost_ret (res_ent rfl rfl RR.out) rfl ⟨_, rfl, hf, CC.out, SS.out⟩
  · skip
    go_wp2_with (first
      | (go_at_call 24; have hq := C2.out; clear hq; (with_reducible refine (int_any p _ C2.out).mono ?_); rintro e3 w3 ⟨n3, rfl, hC, hg⟩; have C3 := Lib.hid hC; have S3 := Lib.hid (grownBy_trans S2.out hg); have E3 := Lib.hid (RowAt.grown E2.out hg (row_ne hlt)); have R3 := Lib.hid (RowAt.grown R2.out hg (row_ne hl1)); clear hC hg C2 S2 E2 R2)
      | (refine wp_storeFieldW 3 (.int .i64 n3) rfl rfl info_int1 E3.out (show 3 < 13 by decide) rfl rfl rfl rfl ?_; intro w4 hE hS; have E4 : Hid (EnAt w.heap.size { x with prevTx := n3 } w4) := Lib.hid hE; have R4 := Lib.hid (StoredAt.row hS R3.out (by omega)); have C4 := Lib.hid (storedAt_cod hS C3.out hlt); have S4 := Lib.hid (storedAt_since hS S3.out (by omega)); clear hE hS C3 S3 E3 R3)
      | (refine wp_loadEnt { x with prevTx := n3 } E4.out rfl rfl rfl ?_)
      | (refine wp_storeEntW { x with prevTx := n3 } R4.out (evals_length _) rfl rfl rfl rfl ?_; intro w5 hR hS; have RR := Lib.hid hR; have CC := Lib.hid (storedAt_cod hS C4.out hl1); have SS := Lib.hid (storedAt_since hS S4.out (by omega)); clear hR hS C4 S4 R4 E4))
    exact bodyPost_ret (res_ent rfl rfl RR.out) rfl ⟨_, rfl, hf, CC.out, SS.out⟩
  · skip
    go_wp2_with (first
      | (go_at_call 24; have hq := C2.out; clear hq; (with_reducible refine (int_any p _ C2.out).mono ?_); rintro e3 w3 ⟨n3, rfl, hC, hg⟩; have C3 := Lib.hid hC; have S3 := Lib.hid (grownBy_trans S2.out hg); have E3 := Lib.hid (RowAt.grown E2.out hg (row_ne hlt)); have R3 := Lib.hid (RowAt.grown R2.out hg (row_ne hl1)); clear hC hg C2 S2 E2 R2)
      | (refine wp_storeFieldW 3 (.int .i64 n3) rfl rfl info_int1 E3.out (show 4 < 13 by decide) rfl rfl rfl rfl ?_; intro w4 hE hS; have E4 : Hid (EnAt w.heap.size { x with prevPage := n3 } w4) := Lib.hid hE; have R4 := Lib.hid (StoredAt.row hS R3.out (by omega)); have C4 := Lib.hid (storedAt_cod hS C3.out hlt); have S4 := Lib.hid (storedAt_since hS S3.out (by omega)); clear hE hS C3 S3 E3 R3)
      | (refine wp_loadEnt { x with prevPage := n3 } E4.out rfl rfl rfl ?_)
      | (refine wp_storeEntW { x with prevPage := n3 } R4.out (evals_length _) rfl rfl rfl rfl ?_; intro w5 hR hS; have RR := Lib.hid hR; have CC := Lib.hid (storedAt_cod hS C4.out hl1); have SS := Lib.hid (storedAt_since hS S4.out (by omega)); clear hR hS C4 S4 R4 E4))
    exact bodyPost_ret (res_ent rfl rfl RR.out) rfl ⟨_, rfl, hf, CC.out, SS.out⟩
  · skip
    go_wp2_with (first
      | (go_at_call 24; have hq := C2.out; clear hq; (with_reducible refine (int_any p _ C2.out).mono ?_); rintro e3 w3 ⟨n3, rfl, hC, hg⟩; have C3 := Lib.hid hC; have S3 := Lib.hid (grownBy_trans S2.out hg); have E3 := Lib.hid (RowAt.grown E2.out hg (row_ne hlt)); have R3 := Lib.hid (RowAt.grown R2.out hg (row_ne hl1)); clear hC hg C2 S2 E2 R2)
      | (refine wp_storeFieldW 3 (.int .i64 n3) rfl rfl info_int1 E3.out (show 5 < 13 by decide) rfl rfl rfl rfl ?_; intro w4 hE hS; have E4 : Hid (EnAt w.heap.size { x with ref := n3 } w4) := Lib.hid hE; have R4 := Lib.hid (StoredAt.row hS R3.out (by omega)); have C4 := Lib.hid (storedAt_cod hS C3.out hlt); have S4 := Lib.hid (storedAt_since hS S3.out (by omega)); clear hE hS C3 S3 E3 R3)
      | (refine wp_loadEnt { x with ref := n3 } E4.out rfl rfl rfl ?_)
      | (refine wp_storeEntW { x with ref := n3 } R4.out (evals_length _) rfl rfl rfl rfl ?_; intro w5 hR hS; have RR := Lib.hid hR; have CC := Lib.hid (storedAt_cod hS C4.out hl1); have SS := Lib.hid (storedAt_since hS S4.out (by omega)); clear hR hS C4 S4 R4 E4))
    exact bodyPost_ret (res_ent rfl rfl RR.out) rfl ⟨_, rfl, hf, CC.out, SS.out⟩
  · skip
    go_wp2_with (first
      | (refine wp_loadChg6 x E2.out rfl rfl rfl ?_)
      | (go_at_call 25; have hq := C2.out; clear hq; (with_reducible refine (oddChange_any p x.change _ C2.out hf1).mono ?_); rintro e3 w3 ⟨c3, rfl, hc3, hC, hg⟩; have C3 := Lib.hid hC; have S3 := Lib.hid (grownBy_trans S2.out hg); have E3 := Lib.hid (RowAt.grown E2.out hg (row_ne hlt)); have R3 := Lib.hid (RowAt.grown R2.out hg (row_ne hl1)); clear hC hg C2 S2 E2 R2)
      | (refine wp_storeChg6W c3 x E3.out rfl rfl rfl rfl ?_; intro w4 hE hS; have E4 : Hid (EnAt w.heap.size { x with change := c3 } w4) := Lib.hid hE; have R4 := Lib.hid (StoredAt.row hS R3.out (by omega)); have C4 := Lib.hid (storedAt_cod hS C3.out hlt); have S4 := Lib.hid (storedAt_since hS S3.out (by omega)); clear hE hS C3 S3 E3 R3)
      | (refine wp_loadEnt { x with change := c3 } E4.out rfl rfl rfl ?_)
      | (refine wp_storeEntW { x with change := c3 } R4.out (evals_length _) rfl rfl rfl rfl ?_; intro w5 hR hS; have RR := Lib.hid hR; have CC := Lib.hid (storedAt_cod hS C4.out hl1); have SS := Lib.hid (storedAt_since hS S4.out (by omega)); clear hR hS C4 S4 R4 E4))
    exact bodyPost_ret (res_ent rfl rfl RR.out) rfl ⟨_, rfl, ⟨hc3, hf.2⟩, CC.out, SS.out⟩
  · skip
    go_wp2_with (first
      | (go_at_call 23; have hq := C2.out; clear hq; (with_reducible refine (data_any p _ C2.out).mono ?_); rintro e3 w3 ⟨d3, rfl, hd3, hC, hg⟩; have C3 := Lib.hid hC; have S3 := Lib.hid (grownBy_trans S2.out hg); have E3 := Lib.hid (RowAt.grown E2.out hg (row_ne hlt)); have R3 := Lib.hid (RowAt.grown R2.out hg (row_ne hl1)); clear hC hg C2 S2 E2 R2)
      | (refine wp_storeFieldW 9 (.string d3) rfl rfl info_string1 E3.out (show 12 < 13 by decide) rfl rfl rfl rfl ?_; intro w4 hE hS; have E4 : Hid (EnAt w.heap.size { x with blob := d3 } w4) := Lib.hid hE; have R4 := Lib.hid (StoredAt.row hS R3.out (by omega)); have C4 := Lib.hid (storedAt_cod hS C3.out hlt); have S4 := Lib.hid (storedAt_since hS S3.out (by omega)); clear hE hS C3 S3 E3 R3)
      | (refine wp_loadEnt { x with blob := d3 } E4.out rfl rfl rfl ?_)
      | (refine wp_storeEntW { x with blob := d3 } R4.out (evals_length _) rfl rfl rfl rfl ?_; intro w5 hR hS; have RR := Lib.hid hR; have CC := Lib.hid (storedAt_cod hS C4.out hl1); have SS := Lib.hid (storedAt_since hS S4.out (by omega)); clear hR hS C4 S4 R4 E4))
    exact bodyPost_ret (res_ent rfl rfl RR.out) rfl ⟨_, rfl, ⟨hf.1, data_le hd3⟩, CC.out, SS.out⟩
  · skip
    go_wp2_with fail
    go_at_call 19
    refine (next_any p 2 _ C2.out (by decide)).mono ?_
    rintro e3 w3 ⟨q3, rfl, qa3, qb3, _, hC, hg⟩
    have qc3 := qb3 (by decide)
    obtain ⟨n3, rfl⟩ := Int.eq_ofNat_of_zero_le qa3
    have C3 := Lib.hid hC
    have S3 := Lib.hid (grownBy_trans S2.out hg)
    have E3 := Lib.hid (RowAt.grown E2.out hg (row_ne hlt))
    have R3 := Lib.hid (RowAt.grown R2.out hg (row_ne hl1))
    clear hC hg C2 S2 E2 R2
    have hmk := make_zero (8192 + (n3 : Int)) (8192 + n3) (by omega) (by omega) w3
    have hcv := conv_zero w3 (8192 + n3)
    have hb4 : Below w3.heap.size w3 (w3.alloc (zeroObj (8192 + n3))) := (Below.refl _ _).alloc (Nat.le_refl _) _
    generalize w3.alloc (zeroObj (8192 + n3)) = w4 at hmk hcv hb4
    have E4 := Lib.hid (RowAt.keep E3.out hb4)
    have R4 := Lib.hid (RowAt.keep R3.out hb4)
    have C4 := Lib.hid (cod_keep C3.out hb4)
    have S4 := Lib.hid (since_below S3.out hb4)
    have hz := zeroS_size (8192 + n3)
    clear hb4 E3 R3 C3 S3 qb3 qa3
    go_wp2_with (first
      | (refine wp_storeFieldW 9 (.string (zeroS (8192 + n3))) rfl rfl info_string1 E4.out (show 12 < 13 by decide) rfl rfl rfl rfl ?_; intro w5 hE hS; have E5 : Hid (EnAt w.heap.size { x with blob := zeroS (8192 + n3) } w5) := Lib.hid hE; have R5 := Lib.hid (StoredAt.row hS R4.out (by omega)); have C5 := Lib.hid (storedAt_cod hS C4.out hlt); have S5 := Lib.hid (storedAt_since hS S4.out (by omega)); clear hE hS C4 S4 E4 R4)
      | (refine wp_loadEnt { x with blob := zeroS (8192 + n3) } E5.out rfl rfl rfl ?_)
      | (refine wp_storeEntW { x with blob := zeroS (8192 + n3) } R5.out (evals_length _) rfl rfl rfl rfl ?_; intro w6 hR hS; have RR := Lib.hid hR; have CC := Lib.hid (storedAt_cod hS C5.out hl1); have SS := Lib.hid (storedAt_since hS S5.out (by omega)); clear hR hS C5 S5 R5 E5))
    exact bodyPost_ret (res_ent rfl rfl RR.out) rfl ⟨_, rfl, ⟨hf.1, by show (zeroS (8192 + n3)).size ≤ _; omega⟩, CC.out, SS.out⟩
end Go.Proofs.Ytiojpfljnbdonaa.on
