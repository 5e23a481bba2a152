/- The draws of cells, numbers and pages. -/
import Derived.Test.YtkcgcddpgfcgiaaEa
import Derived.Test.YtkcgcddpgfcgiaaDi
namespace Go.Proofs.Ytkcgcddpgfcgiaa.eb
open Go.ChangeShapes Go.WideShapes Go.ChangeAt Go.RowKit Go.Proofs.Ytkcgcddpgfcgiaa.cx Go.Proofs.Ytkcgcddpgfcgiaa.ra Go.Proofs.Ytkcgcddpgfcgiaa.rb Go.Proofs.Ytkcgcddpgfcgiaa.rc Go.Proofs.Ytkcgcddpgfcgiaa.da Go.Proofs.Ytkcgcddpgfcgiaa.di Go.Proofs.Ytkcgcddpgfcgiaa.ea

def CellR (p : Nat) (w : World) (e : Ending) (w' : World) : Prop := ∃ c : CellM, e = .returned (.agg #[.bool c.set, .string c.data]) ∧ cellB c = true ∧ Cod p w' ∧ Since p w w'
theorem cell_vals2 (a b c d : Value) : (([a, b].set 0 c).set 1 d) = [c, d] := rfl
theorem row_ne {p b : Nat} (h : p < b) : some p ≠ some b := fun e => by injection e with e; omega
set_option maxRecDepth 100000 in
theorem cell_any (p : Nat) (w : World) (h : Cod p w) : Calls Try.prog 27 #[.pointer (some ⟨p, 0, none⟩)] w (CellR p w) := by
  have hlt := cod_lt h
  have HR := Lib.hid (RowAt.newA #[.bool false, .string ⟨#[]⟩] w 24)
  have HC := Lib.hid (h.alloc (.cells #[.bool false, .string ⟨#[]⟩] 24))
  have HS := Lib.hid (since_below (grownBy_refl w (some p)) ((Below.refl _ _).alloc (Nat.le_refl _) (.cells #[.bool false, .string ⟨#[]⟩] 24)))
  clear h
  go_enter Try.func27, Try.ntmps27
  go_wp2_with (first
    | (go_at_call 10; (with_reducible refine (next_any p 3 _ HC.out (by decide)).mono ?_); rintro e w1 ⟨r1, rfl, h1a, h1b, _, hC1, hg1⟩; have HR1 := Lib.hid (HR.out.grown hg1 (row_ne hlt)); have HC1 := Lib.hid hC1; have HS1 := Lib.hid (grownBy_trans HS.out hg1); have c0 := HR1.out.cells 0 _ rfl; have c1 := HR1.out.cells 1 _ rfl; have f0 := HR1.out.free 0; have f1 := HR1.out.free 1; clear hC1 hg1)
    | (go_at_call 30; (with_reducible refine (data_any p _ HC1.out).mono ?_); rintro e w2 ⟨d, rfl, hd, hC2, hg2⟩; clear c0 c1 f0 f1; have HR2 := Lib.hid (HR1.out.grown hg2 (row_ne hlt)); have HC2 := Lib.hid hC2; have HS2 := Lib.hid (grownBy_trans HS1.out hg2); have c0 := HR2.out.cells 0 _ rfl; have c1 := HR2.out.cells 1 _ rfl; have f0 := HR2.out.free 0; have f1 := HR2.out.free 1; clear hC2 hg2))
  · have hrow := (HR1.out.set 0 (by decide) (.bool false)).set 1 (by decide) (.string ⟨#[]⟩)
    refine bodyPost_ret (res1 rfl rfl hrow Try.underlying24 rfl info_cell) rfl ⟨noCell, rfl, by decide +kernel, ?_, ?_⟩
    · exact cod_set (cod_set HC1.out (by exact hlt) _) (by exact hlt) _
    · exact since_set (since_set HS1.out (by exact Nat.le_refl _) _) (by exact Nat.le_refl _) _
  · have hrow := (HR2.out.set 0 (by decide) (.bool true)).set 1 (by decide) (.string (d.extract 0 (min (d.size : Int) 12).toNat))
    refine bodyPost_ret (res1 rfl rfl hrow Try.underlying24 rfl info_cell) rfl ⟨⟨true, d.extract 0 (min (d.size : Int) 12).toNat⟩, rfl, ?_, ?_, ?_⟩
    · unfold cellB
      simp [ByteArray.size_extract]
      omega
    · exact cod_set (cod_set HC2.out (by exact hlt) _) (by exact hlt) _
    · exact since_set (since_set HS2.out (by exact Nat.le_refl _) _) (by exact Nat.le_refl _) _

def IntR (p : Nat) (w : World) (e : Ending) (w' : World) : Prop := ∃ n : Int, e = .returned (.int .i64 n) ∧ Cod p w' ∧ Since p w w'
theorem pick16 (l : List Value) (h : ∀ v ∈ l, ∃ n : Int, v = .int .i64 n) (i : Nat) (hi : i < l.length) : ∃ n : Int, l[i]? = some (.int .i64 n) := by
  obtain ⟨n, hn⟩ := h l[i] (List.getElem_mem hi)
  exact ⟨n, by rw [List.getElem?_eq_getElem hi, hn]⟩
theorem row_int {b : Nat} {l : List Value} {w : World} (hr : RowAt b l w) (h : ∀ v ∈ l, ∃ n : Int, v = .int .i64 n) (i : Nat) (hi : i < l.length) : ∃ n : Int, w.cell? ⟨b, i, none⟩ = some (.int .i64 n) := by
  obtain ⟨n, hn⟩ := pick16 l h i hi
  exact ⟨n, hr.cells i _ hn⟩
set_option maxRecDepth 100000 in
theorem int_any (p : Nat) (w : World) (h : Cod p w) : Calls Try.prog 29 #[.pointer (some ⟨p, 0, none⟩)] w (IntR p w) := by
  have hlt := cod_lt h
  go_enter Try.func29, Try.ntmps29
  go_wp2_with (first
    | (go_at_call 10; (with_reducible refine (next_any p 10 _ h (by decide)).mono ?_); rintro e w1 ⟨r1, rfl, h1a, h1b, _, hC1, hg1⟩; have HC1 := Lib.hid hC1; have HS1 := Lib.hid hg1; clear hC1 hg1)
    | (go_at_call 10; (with_reducible refine (next_any p 3 _ HC1.out (by decide)).mono ?_); rintro e w2 ⟨r2, rfl, h2a, h2b, _, hC2, hg2⟩)
    | (go_at_call 10; (with_reducible refine (next_any p 20 _ HC1.out (by decide)).mono ?_); rintro e w2 ⟨r2, rfl, h2a, h2b, _, hC2, hg2⟩))
  · go_ret
    exact ⟨_, rfl, hC2, grownBy_trans HS1.out hg2⟩
  · go_at_call 10
    refine (next_any p 16 _ (HC1.out.alloc _) (by decide)).mono ?_
    rintro e w2 ⟨r2, rfl, h2a, h2b, _, hC2, hg2⟩
    obtain ⟨r, rfl⟩ := Int.eq_ofNat_of_zero_le h2a
    have h2c := h2b (by decide)
    have hp1 : p < w1.heap.size := Nat.lt_of_lt_of_le hlt HS1.out.size
    have hrow := (RowAt.newA _ w1 _).grown hg2 (row_ne hp1)
    obtain ⟨z, hcell⟩ := row_int hrow (by simp) r (by simp; omega)
    have HC2 := Lib.hid hC2
    have HS2 := Lib.hid (grownBy_trans (grownBy_alloc HS1.out _) hg2)
    have q0 : (0 : Int) ≤ (r : Int) := by omega
    clear hrow hC2 hg2 h2a h2b
    go_wp2
    go_ret
    exact ⟨_, rfl, HC2.out, HS2.out⟩
  · go_ret
    exact ⟨_, rfl, hC2, grownBy_trans HS1.out hg2⟩

theorem cod_cells {p b : Nat} : ∀ (us : List Value) (o : Nat) {w : World}, Cod p w → p < b → Cod p (w.setCells b o us)
  | [], _, _, h, _ => h
  | u :: r, o, w, h, hb => by
    rw [World.setCells]
    exact cod_cells r (o + 1) (cod_set h (by exact hb) u) hb
theorem since_cells {p b : Nat} {w0 : World} : ∀ (us : List Value) (o : Nat) {w : World}, Since p w0 w → w0.heap.size ≤ b → Since p w0 (w.setCells b o us)
  | [], _, _, h, _ => h
  | u :: r, o, w, h, hb => by
    rw [World.setCells]
    exact since_cells r (o + 1) (since_set h (by exact hb) u) hb
/-- A page that may exist, whatever its ID. -/
def PageR (p : Nat) (id : Int) (w : World) (e : Ending) (w' : World) : Prop :=
  ∃ q : Pg, e = .returned (.agg q.arr) ∧ q.id = id ∧ 0 ≤ q.lsn ∧ q.lsn ≤ 1099511627776 ∧ cellsB q = true ∧ Cod p w' ∧ Since p w w'
theorem cellsB_new (id lsn : Int) : cellsB ⟨id, lsn, fun _ => noCell⟩ = true := cellsB_iff.2 fun i _ => by
  unfold cellOkB
  simp [noCell, cellB]
  exact Nat.zero_le 12
theorem cellsB_put {q : Pg} {c : CellM} {i : Nat} (h : cellsB q = true) (hc : cellB c = true) (hl : 0 < q.lsn) : cellsB (putCell q i c) = true := cellsB_iff.2 fun k hk => by
  have := cellsB_iff.1 h k hk
  unfold cellOkB putCell at *
  simp only
  by_cases e : k = i
  · rw [if_pos e, hc, decide_eq_false (by omega : ¬ q.lsn = 0)]
    simp
  · rw [if_neg e]
    exact this
theorem vals_lsn_set (q : Pg) (n : Int) : q.vals.set 1 (.int .i64 n) = (Pg.mk q.id n q.cell).vals := by
  unfold Pg.vals
  rw [List.set_cons_succ, List.set_cons_zero]
theorem vals_id_set (q : Pg) (n : Int) : q.vals.set 0 (.int .i64 n) = (Pg.mk n q.lsn q.cell).vals := by
  unfold Pg.vals
  rw [List.set_cons_zero]
set_option maxHeartbeats 1000000 in
theorem page_any (p : Nat) (id : Int) (w : World) (h : Cod p w) : Calls Try.prog 9 #[.pointer (some ⟨p, 0, none⟩), .int .i64 id] w (PageR p id w) := by
  have hlt := cod_lt h
  have HR := Lib.hid (RowAt.newA (newPg 0).arr w 27)
  have HC := Lib.hid (h.alloc (.cells (newPg 0).arr 27))
  have HS := Lib.hid (since_below (grownBy_refl w (some p)) ((Below.refl _ _).alloc (Nat.le_refl _) (.cells (newPg 0).arr 27)))
  have hb := build_page2
  clear h
  go_enter Try.func9, Try.ntmps9
  go_wp2_with (refine wp_newPage rfl rfl ?_)
  go_at_call 10
  refine (next_any p 50 _ HC.out (by decide)).mono ?_
  rintro e w1 ⟨r1, rfl, h1a, h1b, _, hC1, hg1⟩
  have h1c := h1b (by decide)
  have HR1 := Lib.hid (HR.out.grown hg1 (row_ne hlt))
  have HC1 := Lib.hid hC1
  have HS1 := Lib.hid (grownBy_trans HS.out hg1)
  clear hC1 hg1 HR HC HS
  go_wp2_with (first
    | (refine wp_newPageW rfl rfl ?_; intro w2 hp2 hb2 hz2; have HP2 := Lib.hid hp2; have HR2 := Lib.hid (HR1.out.keep hb2); have HC2 := Lib.hid (cod_keep HC1.out hb2); have HS2 := Lib.hid (since_below HS1.out hb2); clear hp2 hb2)
    | (refine wp_storePage (Pg.mk id r1 fun _ => noCell) HP2.out (vals_length _) rfl rfl rfl rfl ?_; have HP3 := Lib.hid (stored_page (Pg.mk id r1 fun _ => noCell) HP2.out (vals_length _)); have HR3 := Lib.hid (HR2.out.setCellsOther (b' := w1.heap.size) (by have := HR1.out.lt; omega) (Pg.mk id r1 fun _ => noCell).vals 0); have HC3 := Lib.hid (cod_cells (b := w1.heap.size) (Pg.mk id r1 fun _ => noCell).vals 0 HC2.out (by have := HR1.out.lt; omega)); have HS3 := Lib.hid (since_cells (b := w1.heap.size) (Pg.mk id r1 fun _ => noCell).vals 0 HS2.out (by have := HR1.out.lt; omega)); have hlt1 := HR1.out.lt; clear HP2 HR2 HC2 HS2))
  clear hb
  generalize w2.setCells w1.heap.size 0 (Pg.mk id r1 fun _ => noCell).vals = W3 at HP3 HR3 HC3 HS3 ⊢
  go_at_call 10
  refine (next_any p 10 _ HC3.out (by decide)).mono ?_
  rintro e w4 ⟨r4, rfl, h4a, h4b, _, hC4, hg4⟩
  have hpb : p < w1.heap.size := by omega
  have hle1 : w.heap.size ≤ w1.heap.size := by omega
  have HP4 := Lib.hid (HP3.out.grown hg4 (row_ne hpb))
  have HR4 := Lib.hid (HR3.out.grown hg4 (row_ne hlt))
  have HC4 := Lib.hid hC4
  have HS4 := Lib.hid (grownBy_trans HS3.out hg4)
  clear hC4 hg4 HP3 HR3 HC3 HS3 h4a h4b HR1 HC1 HS1
  by_cases h9 : r4 = 9
  · subst h9
    go_wp2_with fail
    go_at_call 10
    refine (next_any p 2 _ HC4.out (by decide)).mono ?_
    rintro e w5 ⟨r5, rfl, h5a, h5b, _, hC5, hg5⟩
    have HP5 := Lib.hid (HP4.out.grown hg5 (row_ne hpb))
    have HR5 := Lib.hid (HR4.out.grown hg5 (row_ne hlt))
    have HC5 := Lib.hid hC5
    have HS5 := Lib.hid (grownBy_trans HS4.out hg5)
    have h5c := h5b (by decide)
    have l5 := HP5.out.cells 1 _ (vals_lsn _)
    have f5 := HP5.out.free 1
    clear hC5 hg5 h5b HP4 HR4 HC4 HS4
    go_wp2_with fail
    have HPP : Hid (PgAt w1.heap.size (Pg.mk id (1099511627776 - r5) fun _ => noCell) (w5.setCell ⟨w1.heap.size, 1, none⟩ (.int .i64 (1099511627776 - r5)))) := Lib.hid (by
      have := RowAt.set HP5.out 1 (by rw [vals_length]; decide) (.int .i64 (1099511627776 - r5))
      rwa [vals_lsn_set] at this)
    have HRR := Lib.hid (HR5.out.setOther (a := ⟨w1.heap.size, 1, none⟩) (by show w1.heap.size ≠ w.heap.size; omega) (.int .i64 (1099511627776 - r5)))
    have HCC := Lib.hid (cod_set HC5.out (a := ⟨w1.heap.size, 1, none⟩) (by exact hpb) (.int .i64 (1099511627776 - r5)))
    have HSS := Lib.hid (since_set HS5.out (a := ⟨w1.heap.size, 1, none⟩) (by exact hle1) (.int .i64 (1099511627776 - r5)))
    clear l5 f5 HP5 HR5 HC5 HS5
    generalize w5.setCell ⟨w1.heap.size, 1, none⟩ (.int .i64 (1099511627776 - r5)) = W5 at HPP HRR HCC HSS ⊢
    go_at_call 10
    refine (next_any p 6 _ HCC.out (by decide)).mono ?_
    rintro e w6 ⟨r6, rfl, h6a, h6b, _, hC6, hg6⟩
    have h6c := h6b (by decide)
    obtain ⟨n6, rfl⟩ := Int.eq_ofNat_of_zero_le h6a
    have HP6 := Lib.hid (HPP.out.grown hg6 (row_ne hpb))
    have HR6 := Lib.hid (HRR.out.grown hg6 (row_ne hlt))
    have HC6 := Lib.hid hC6
    have HS6 := Lib.hid (grownBy_trans HSS.out hg6)
    clear hC6 hg6 h6a h6b HPP HRR HCC HSS
    go_wp2_with fail
    go_loopw [6] (fun k wr => ∃ (j : Nat) (q : Pg), k = .int .i64 j ∧ j ≤ 1000000 ∧ q.id = id ∧ q.lsn = 1099511627776 - r5 ∧ cellsB q = true ∧ PgAt w1.heap.size q wr ∧ RowAt w.heap.size (newPg 0).vals wr ∧ Cod p wr ∧ Since p w wr) (fun k _ => (intOf k).toNat)
    case atStart => exact ⟨n6, Pg.mk id (1099511627776 - r5) fun _ => noCell, rfl, by omega, rfl, rfl, cellsB_new _ _, HP6.out, HR6.out, HC6.out, HS6.out⟩
    case round =>
      obtain ⟨j, q, rfl, hj, hid, hql, hq, hP, hR, hC, hS⟩ := hrel
      have HP7 := Lib.hid hP
      have HR7 := Lib.hid hR
      have HC7 := Lib.hid hC
      have HS7 := Lib.hid hS
      have HQ := Lib.hid hq
      have HID := Lib.hid hid
      have HQL := Lib.hid hql
      clear hP hR hC hS hq hid hql HP6 HR6 HC6 HS6
      by_cases hj0 : 0 < j
      · go_wp2_with fail
        go_at_call 10
        refine (next_any p 16 _ HC7.out (by decide)).mono ?_
        rintro e w8 ⟨r8, rfl, h8a, h8b, _, hC8, hg8⟩
        obtain ⟨i8, rfl⟩ := Int.eq_ofNat_of_zero_le h8a
        have h8c := h8b (by decide)
        have HP8 := Lib.hid (HP7.out.grown hg8 (row_ne hpb))
        have HR8 := Lib.hid (HR7.out.grown hg8 (row_ne hlt))
        have HC8 := Lib.hid hC8
        have HS8 := Lib.hid (grownBy_trans HS7.out hg8)
        clear hC8 hg8 h8a h8b
        go_wp2_with fail
        go_at_call 27
        refine (cell_any p _ HC8.out).mono ?_
        rintro e w9 ⟨c9, rfl, hc9, hC9, hg9⟩
        have HP9 := Lib.hid (HP8.out.grown hg9 (row_ne hpb))
        have HR9 := Lib.hid (HR8.out.grown hg9 (row_ne hlt))
        have HC9 := Lib.hid hC9
        have HS9 := Lib.hid (grownBy_trans HS8.out hg9)
        have HCB := Lib.hid hc9
        have k0 := HP9.out.cells (2 + i8 * 2) _ (vals_set _ i8 (by omega))
        have k1 := HP9.out.cells (2 + i8 * 2 + 1) _ (vals_data _ i8 (by omega))
        have k2 := HP9.out.free (2 + i8 * 2)
        have k3 := HP9.out.free (2 + i8 * 2 + 1)
        have q0 : (0 : Int) ≤ (i8 : Int) := by omega
        have q1 : (i8 : Int) < 16 := by omega
        clear hC9 hg9 hc9
        go_wp2
        go_roundw
        case rel =>
          have hp := PgAt.put HP9.out i8 (by omega) c9
          exact ⟨j - 1, putCell q i8 c9, by go_num, by omega, HID.out, HQL.out, cellsB_put HQ.out HCB.out (by rw [HQL.out]; omega), hp,
            (HR9.out.setOther (by show w1.heap.size ≠ w.heap.size; omega) _).setOther (by show w1.heap.size ≠ w.heap.size; omega) _,
            cod_set (cod_set HC9.out (by exact hpb) _) (by exact hpb) _, since_set (since_set HS9.out (by exact hle1) _) (by exact hle1) _⟩
        case measure => simp [intOf]; omega
      · obtain rfl : j = 0 := by omega
        go_wp2_with (first
          | (refine wp_loadPage q HP7.out rfl rfl rfl ?_)
          | (refine wp_storePage q HR7.out (vals_length _) rfl rfl rfl rfl ?_; clear HP7))
        refine bodyPost_ret (res_page rfl rfl (stored_page q HR7.out (vals_length _))) rfl ⟨q, rfl, HID.out, by rw [HQL.out]; omega, by rw [HQL.out]; omega, HQ.out, ?_, ?_⟩
        · exact cod_cells _ _ HC7.out hlt
        · exact since_cells _ _ HS7.out (Nat.le_refl _)
  · have h9' : (r4 == 9) = false := by simpa using h9
    have l4 := HP4.out.cells 1 _ (vals_lsn _)
    clear h9
    by_cases hr1 : 0 < r1
    · skip
      have HPP : Hid (PgAt w1.heap.size (Pg.mk id r1 fun _ => noCell) w4) := HP4
      have HRR := HR4
      have HCC := HC4
      have HSS := HS4
      clear HP4 HR4 HC4 HS4
      go_wp2_with fail
      clear l4
      go_at_call 10
      refine (next_any p 6 _ HCC.out (by decide)).mono ?_
      rintro e w6 ⟨r6, rfl, h6a, h6b, _, hC6, hg6⟩
      have h6c := h6b (by decide)
      obtain ⟨n6, rfl⟩ := Int.eq_ofNat_of_zero_le h6a
      have HP6 := Lib.hid (HPP.out.grown hg6 (row_ne hpb))
      have HR6 := Lib.hid (HRR.out.grown hg6 (row_ne hlt))
      have HC6 := Lib.hid hC6
      have HS6 := Lib.hid (grownBy_trans HSS.out hg6)
      clear hC6 hg6 h6a h6b HPP HRR HCC HSS
      go_wp2_with fail
      go_loopw [6] (fun k wr => ∃ (j : Nat) (q : Pg), k = .int .i64 j ∧ j ≤ 1000000 ∧ q.id = id ∧ q.lsn = r1 ∧ cellsB q = true ∧ PgAt w1.heap.size q wr ∧ RowAt w.heap.size (newPg 0).vals wr ∧ Cod p wr ∧ Since p w wr) (fun k _ => (intOf k).toNat)
      case atStart => exact ⟨n6, Pg.mk id (r1) fun _ => noCell, rfl, by omega, rfl, rfl, cellsB_new _ _, HP6.out, HR6.out, HC6.out, HS6.out⟩
      case round =>
        obtain ⟨j, q, rfl, hj, hid, hql, hq, hP, hR, hC, hS⟩ := hrel
        have HP7 := Lib.hid hP
        have HR7 := Lib.hid hR
        have HC7 := Lib.hid hC
        have HS7 := Lib.hid hS
        have HQ := Lib.hid hq
        have HID := Lib.hid hid
        have HQL := Lib.hid hql
        clear hP hR hC hS hq hid hql HP6 HR6 HC6 HS6
        by_cases hj0 : 0 < j
        · go_wp2_with fail
          go_at_call 10
          refine (next_any p 16 _ HC7.out (by decide)).mono ?_
          rintro e w8 ⟨r8, rfl, h8a, h8b, _, hC8, hg8⟩
          obtain ⟨i8, rfl⟩ := Int.eq_ofNat_of_zero_le h8a
          have h8c := h8b (by decide)
          have HP8 := Lib.hid (HP7.out.grown hg8 (row_ne hpb))
          have HR8 := Lib.hid (HR7.out.grown hg8 (row_ne hlt))
          have HC8 := Lib.hid hC8
          have HS8 := Lib.hid (grownBy_trans HS7.out hg8)
          clear hC8 hg8 h8a h8b
          go_wp2_with fail
          go_at_call 27
          refine (cell_any p _ HC8.out).mono ?_
          rintro e w9 ⟨c9, rfl, hc9, hC9, hg9⟩
          have HP9 := Lib.hid (HP8.out.grown hg9 (row_ne hpb))
          have HR9 := Lib.hid (HR8.out.grown hg9 (row_ne hlt))
          have HC9 := Lib.hid hC9
          have HS9 := Lib.hid (grownBy_trans HS8.out hg9)
          have HCB := Lib.hid hc9
          have k0 := HP9.out.cells (2 + i8 * 2) _ (vals_set _ i8 (by omega))
          have k1 := HP9.out.cells (2 + i8 * 2 + 1) _ (vals_data _ i8 (by omega))
          have k2 := HP9.out.free (2 + i8 * 2)
          have k3 := HP9.out.free (2 + i8 * 2 + 1)
          have q0 : (0 : Int) ≤ (i8 : Int) := by omega
          have q1 : (i8 : Int) < 16 := by omega
          clear hC9 hg9 hc9
          go_wp2
          go_roundw
          case rel =>
            have hp := PgAt.put HP9.out i8 (by omega) c9
            exact ⟨j - 1, putCell q i8 c9, by go_num, by omega, HID.out, HQL.out, cellsB_put HQ.out HCB.out (by rw [HQL.out]; omega), hp,
              (HR9.out.setOther (by show w1.heap.size ≠ w.heap.size; omega) _).setOther (by show w1.heap.size ≠ w.heap.size; omega) _,
              cod_set (cod_set HC9.out (by exact hpb) _) (by exact hpb) _, since_set (since_set HS9.out (by exact hle1) _) (by exact hle1) _⟩
          case measure => simp [intOf]; omega
        · obtain rfl : j = 0 := by omega
          go_wp2_with (first
            | (refine wp_loadPage q HP7.out rfl rfl rfl ?_)
            | (refine wp_storePage q HR7.out (vals_length _) rfl rfl rfl rfl ?_; clear HP7))
          refine bodyPost_ret (res_page rfl rfl (stored_page q HR7.out (vals_length _))) rfl ⟨q, rfl, HID.out, by rw [HQL.out]; omega, by rw [HQL.out]; omega, HQ.out, ?_, ?_⟩
          · exact cod_cells _ _ HC7.out hlt
          · exact since_cells _ _ HS7.out (Nat.le_refl _)
    · have l5 := HP4.out.cells 1 _ (vals_lsn _)
      go_wp2_with (first
        | (refine wp_loadPage (Pg.mk id r1 fun _ => noCell) HP4.out rfl rfl rfl ?_)
        | (refine wp_storePage (Pg.mk id r1 fun _ => noCell) HR4.out (vals_length _) rfl rfl rfl rfl ?_; clear HP4))
      refine bodyPost_ret (res_page rfl rfl (stored_page (Pg.mk id r1 fun _ => noCell) HR4.out (vals_length _))) rfl ⟨_, rfl, rfl, by exact h1a, by show r1 ≤ 1099511627776; omega, cellsB_new _ _, ?_, ?_⟩
      · exact cod_cells _ _ HC4.out hlt
      · exact since_cells _ _ HS4.out (Nat.le_refl _)
end Go.Proofs.Ytkcgcddpgfcgiaa.eb
