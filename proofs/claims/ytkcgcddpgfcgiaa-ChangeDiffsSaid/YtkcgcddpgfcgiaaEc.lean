/- OddPage: some page, one change away. -/
import Derived.Test.YtkcgcddpgfcgiaaEb
import Derived.Test.YtkcgcddpgfcgiaaFb
namespace Go.Proofs.Ytkcgcddpgfcgiaa.ec
open Go.ChangeShapes Go.WideShapes Go.ChangeAt Go.RowKit Go.Proofs.Ytkcgcddpgfcgiaa.cx Go.Proofs.Ytkcgcddpgfcgiaa.ra Go.Proofs.Ytkcgcddpgfcgiaa.rb Go.Proofs.Ytkcgcddpgfcgiaa.rc Go.Proofs.Ytkcgcddpgfcgiaa.da Go.Proofs.Ytkcgcddpgfcgiaa.di Go.Proofs.Ytkcgcddpgfcgiaa.ea Go.Proofs.Ytkcgcddpgfcgiaa.eb Go.Proofs.Ytkcgcddpgfcgiaa.fb

def OddR (p : Nat) (w : World) (e : Ending) (w' : World) : Prop := ∃ q : Pg, e = .returned (.agg q.arr) ∧ Fits q ∧ Cod p w' ∧ Since p w w'
theorem PgAt.setId {b : Nat} {q : Pg} {w : World} (h : PgAt b q w) (n : Int) : PgAt b { q with id := n } (w.setCell ⟨b, 0, none⟩ (.int .i64 n)) :=
  RowAt.set h 0 (by rw [vals_length]; omega) _
theorem PgAt.setLsn {b : Nat} {q : Pg} {w : World} (h : PgAt b q w) (n : Int) : PgAt b { q with lsn := n } (w.setCell ⟨b, 1, none⟩ (.int .i64 n)) :=
  RowAt.set h 1 (by rw [vals_length]; omega) _
theorem fits_put {q : Pg} (h : Fits q) (i : Nat) (c : CellM) (hc : c.data.size ≤ 9223372036854775807) : Fits (putCell q i c) := fun k hk => by
  show (if k = i then c else q.cell k).data.size ≤ _
  split
  · exact hc
  · exact h k hk
theorem cell_le {c : CellM} (h : cellB c = true) : c.data.size ≤ 9223372036854775807 := by
  unfold cellB at h
  simp at h
  omega
theorem wp_newPageS {ops : Array Oper} {rest : List Oper} {o : Oper} {a : Act} {w : World} {Q : Exit → Act → World → Prop} {p b : Nat} {q : Pg} {w0 : World} (hP : PgAt b q w) (hC : Cod p w) (hS : Since p w0 w) (ho : o.op = .alloc 27)
    (hgd : Region.wanted o (yielded ops a.tmps) = true) (h : ∀ W, PgAt b q W → RowAt w.heap.size (newPg 0).vals W → Cod p W → Since p w0 W → wpList Try.prog ops Q rest (a.put o.dst (.pointer (some ⟨w.heap.size, 0, none⟩))) W) : wpList Try.prog ops Q (o :: rest) a w :=
  wp_newPageW ho hgd fun W hN hb _ => h W (RowAt.keep hP hb) hN (cod_keep hC hb) (since_below hS hb)

set_option maxRecDepth 4000 in
set_option maxHeartbeats 2000000 in
theorem odd_any (p : Nat) (q : Pg) (w : World) (h : Cod p w) (hf : Fits q) : Calls Try.prog 21 #[.pointer (some ⟨p, 0, none⟩), .agg q.arr] w (OddR p w) := by
  have hlt := cod_lt h
  have HP := Lib.hid (PgAt.new q w 27)
  have HC := Lib.hid (h.alloc (.cells q.arr 27))
  have HS := Lib.hid (since_below (grownBy_refl w (some p)) ((Below.refl _ _).alloc (Nat.le_refl _) (.cells q.arr 27)))
  have hz : (w.alloc (.cells q.arr 27)).heap.size = w.heap.size + 1 := by simp
  clear h
  go_enter Try.func21, Try.ntmps21
  go_wp2_with (refine wp_newPageS HP.out HC.out HS.out rfl rfl ?_; intro W hP hR hC hS; have HP1 := Lib.hid hP; have HR1 := Lib.hid hR; have HC1 := Lib.hid hC; have HS1 := Lib.hid hS; clear hP hR hC hS HP HC HS)
  go_at_call 10
  rw [hz] at HR1
  refine (next_any p 4 _ HC1.out (by decide)).mono ?_
  rintro e w2 ⟨r, rfl, hr0, hr1, _, hC2, hg2⟩
  have hr4 := hr1 (by decide)
  have HP2 := Lib.hid (HP1.out.grown hg2 (row_ne hlt))
  have HR2 := Lib.hid (HR1.out.grown hg2 (row_ne (by omega)))
  have HC2 := Lib.hid hC2
  have HS2 := Lib.hid (grownBy_trans HS1.out hg2)
  clear hC2 hg2 hr1 HP1 HR1 HC1 HS1
  have h4 : r = 0 ∨ r = 1 ∨ r = 2 ∨ r = 3 := by omega
  rcases h4 with rfl | rfl | rfl | rfl
  · go_wp2_with fail
    go_at_call 29
    refine (int_any p _ HC2.out).mono ?_
    rintro e w3 ⟨n, rfl, hC3, hg3⟩
    have HP3 := Lib.hid (HP2.out.grown hg3 (row_ne hlt))
    have HR3 := Lib.hid (HR2.out.grown hg3 (row_ne (by omega)))
    have HC3 := Lib.hid hC3
    have HS3 := Lib.hid (grownBy_trans HS2.out hg3)
    clear hC3 hg3 HP2 HR2 HC2 HS2
    have c0 := PgAt.idAt HP3.out
    have f0 := HP3.out.free 0
    go_wp2_with (first
      | (refine wp_loadPage { q with id := n } (PgAt.setId HP3.out n) rfl rfl rfl ?_)
      | (refine wp_storePage { q with id := n } (HR3.out.setOther (by show w.heap.size ≠ w.heap.size + 1; omega) _) (vals_length _) rfl rfl rfl rfl ?_; clear HP3))
    refine bodyPost_ret (res_page rfl rfl (stored_page { q with id := n } (HR3.out.setOther (by show w.heap.size ≠ w.heap.size + 1; omega) _) (vals_length _))) rfl ⟨_, rfl, hf, ?_, ?_⟩
    · exact cod_cells _ _ (cod_set HC3.out (by exact hlt) _) (by omega)
    · exact since_cells _ _ (since_set HS3.out (by exact Nat.le_refl _) _) (by omega)
  · go_wp2_with fail
    go_at_call 29
    refine (int_any p _ HC2.out).mono ?_
    rintro e w3 ⟨n, rfl, hC3, hg3⟩
    have HP3 := Lib.hid (HP2.out.grown hg3 (row_ne hlt))
    have HR3 := Lib.hid (HR2.out.grown hg3 (row_ne (by omega)))
    have HC3 := Lib.hid hC3
    have HS3 := Lib.hid (grownBy_trans HS2.out hg3)
    clear hC3 hg3 HP2 HR2 HC2 HS2
    have c0 := PgAt.lsnAt HP3.out
    have f0 := HP3.out.free 1
    go_wp2_with (first
      | (refine wp_loadPage { q with lsn := n } (PgAt.setLsn HP3.out n) rfl rfl rfl ?_)
      | (refine wp_storePage { q with lsn := n } (HR3.out.setOther (by show w.heap.size ≠ w.heap.size + 1; omega) _) (vals_length _) rfl rfl rfl rfl ?_; clear HP3))
    refine bodyPost_ret (res_page rfl rfl (stored_page { q with lsn := n } (HR3.out.setOther (by show w.heap.size ≠ w.heap.size + 1; omega) _) (vals_length _))) rfl ⟨_, rfl, hf, ?_, ?_⟩
    · exact cod_cells _ _ (cod_set HC3.out (by exact hlt) _) (by omega)
    · exact since_cells _ _ (since_set HS3.out (by exact Nat.le_refl _) _) (by omega)
  · skip
    go_wp2_with fail
    go_at_call 10
    refine (next_any p 16 _ HC2.out (by decide)).mono ?_
    rintro e w3 ⟨i0, rfl, hi0, hi1, _, hC3, hg3⟩
    have HP3 := Lib.hid (HP2.out.grown hg3 (row_ne hlt))
    have HR3 := Lib.hid (HR2.out.grown hg3 (row_ne (by omega)))
    have HC3 := Lib.hid hC3
    have HS3 := Lib.hid (grownBy_trans HS2.out hg3)
    clear hC3 hg3 HP2 HR2 HC2 HS2
    have hi2 := hi1 (by decide)
    obtain ⟨i, rfl⟩ := Int.eq_ofNat_of_zero_le hi0
    go_wp2_with fail
    go_at_call 10
    refine (next_any p 2 _ HC3.out (by decide)).mono ?_
    rintro e w4 ⟨n4, rfl, hn0, hn1, _, hC4, hg4⟩
    have HP4 := Lib.hid (HP3.out.grown hg4 (row_ne hlt))
    have HR4 := Lib.hid (HR3.out.grown hg4 (row_ne (by omega)))
    have HC4 := Lib.hid hC4
    have HS4 := Lib.hid (grownBy_trans HS3.out hg4)
    clear hC4 hg4 HP3 HR3 HC3 HS3
    go_wp2_with fail
    go_at_call 30
    refine (data_any p _ HC4.out).mono ?_
    rintro e w5 ⟨d, rfl, hd, hC5, hg5⟩
    have HP5 := Lib.hid (HP4.out.grown hg5 (row_ne hlt))
    have HR5 := Lib.hid (HR4.out.grown hg5 (row_ne (by omega)))
    have HC5 := Lib.hid hC5
    have HS5 := Lib.hid (grownBy_trans HS4.out hg5)
    clear hC5 hg5 HP4 HR4 HC4 HS4
    have k0 := HP5.out.cells (2 + i * 2) _ (vals_set _ i (by omega))
    have k1 := HP5.out.cells (2 + i * 2 + 1) _ (vals_data _ i (by omega))
    have k2 := HP5.out.free (2 + i * 2)
    have k3 := HP5.out.free (2 + i * 2 + 1)
    have q0 : (0 : Int) ≤ (i : Int) := by omega
    have q1 : (i : Int) < 16 := by omega
    have hpp := PgAt.put HP5.out i (by omega) (CellM.mk (n4 == 1) d)
    have hrr := (HR5.out.setOther (a := ⟨w.heap.size, 2 + i * 2, none⟩) (by show w.heap.size ≠ w.heap.size + 1; omega) (.bool (CellM.mk (n4 == 1) d).set)).setOther (a := ⟨w.heap.size, 2 + i * 2 + 1, none⟩) (by show w.heap.size ≠ w.heap.size + 1; omega) (.string (CellM.mk (n4 == 1) d).data)
    have HPP := Lib.hid hpp
    have HRR := Lib.hid hrr
    clear hpp hrr
    go_wp2_with (first
      | (refine wp_loadPage (putCell q i (CellM.mk (n4 == 1) d)) HPP.out rfl rfl rfl ?_)
      | (refine wp_storePage (putCell q i (CellM.mk (n4 == 1) d)) HRR.out (vals_length _) rfl rfl rfl rfl ?_; clear HPP))
    refine bodyPost_ret (res_page rfl rfl (stored_page (putCell q i (CellM.mk (n4 == 1) d)) HRR.out (vals_length _))) rfl ⟨_, rfl, fits_put hf i _ (by show d.size ≤ _; omega), ?_, ?_⟩
    · exact cod_cells _ _ (cod_set (cod_set HC5.out (by exact hlt) _) (by exact hlt) _) (by omega)
    · exact since_cells _ _ (since_set (since_set HS5.out (by exact Nat.le_refl _) _) (by exact Nat.le_refl _) _) (by omega)
  · skip
    go_wp2_with fail
    go_at_call 10
    refine (next_any p 16 _ HC2.out (by decide)).mono ?_
    rintro e w3 ⟨i0, rfl, hi0, hi1, _, hC3, hg3⟩
    have HP3 := Lib.hid (HP2.out.grown hg3 (row_ne hlt))
    have HR3 := Lib.hid (HR2.out.grown hg3 (row_ne (by omega)))
    have HC3 := Lib.hid hC3
    have HS3 := Lib.hid (grownBy_trans HS2.out hg3)
    clear hC3 hg3 HP2 HR2 HC2 HS2
    have hi2 := hi1 (by decide)
    obtain ⟨i, rfl⟩ := Int.eq_ofNat_of_zero_le hi0
    go_wp2_with fail
    go_at_call 27
    refine (cell_any p _ HC3.out).mono ?_
    rintro e w4 ⟨c, rfl, hc, hC4, hg4⟩
    have HP4 := Lib.hid (HP3.out.grown hg4 (row_ne hlt))
    have HR4 := Lib.hid (HR3.out.grown hg4 (row_ne (by omega)))
    have HC4 := Lib.hid hC4
    have HS4 := Lib.hid (grownBy_trans HS3.out hg4)
    clear hC4 hg4 HP3 HR3 HC3 HS3
    have k0 := HP4.out.cells (2 + i * 2) _ (vals_set _ i (by omega))
    have k1 := HP4.out.cells (2 + i * 2 + 1) _ (vals_data _ i (by omega))
    have k2 := HP4.out.free (2 + i * 2)
    have k3 := HP4.out.free (2 + i * 2 + 1)
    have q0 : (0 : Int) ≤ (i : Int) := by omega
    have q1 : (i : Int) < 16 := by omega
    have hpp := PgAt.put HP4.out i (by omega) c
    have hrr := (HR4.out.setOther (a := ⟨w.heap.size, 2 + i * 2, none⟩) (by show w.heap.size ≠ w.heap.size + 1; omega) (.bool c.set)).setOther (a := ⟨w.heap.size, 2 + i * 2 + 1, none⟩) (by show w.heap.size ≠ w.heap.size + 1; omega) (.string c.data)
    have HPP := Lib.hid hpp
    have HRR := Lib.hid hrr
    clear hpp hrr
    go_wp2_with (first
      | (refine wp_loadPage (putCell q i c) HPP.out rfl rfl rfl ?_)
      | (refine wp_storePage (putCell q i c) HRR.out (vals_length _) rfl rfl rfl rfl ?_; clear HPP))
    refine bodyPost_ret (res_page rfl rfl (stored_page (putCell q i c) HRR.out (vals_length _))) rfl ⟨_, rfl, fits_put hf i _ (cell_le hc), ?_, ?_⟩
    · exact cod_cells _ _ (cod_set (cod_set HC4.out (by exact hlt) _) (by exact hlt) _) (by omega)
    · exact since_cells _ _ (since_set (since_set HS4.out (by exact Nat.le_refl _) _) (by exact Nat.le_refl _) _) (by omega)
end Go.Proofs.Ytkcgcddpgfcgiaa.ec
