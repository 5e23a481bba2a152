/- What the bytes of a page mean: the program's Decode and Identify. -/
import Derived.Test.YtkcgcddpgfcgiaaDoorDh
namespace Go.Proofs.YtkcgcddpgfcgiaaDoor.di
open Go.ChangeShapes Go.WideShapes Go.ChangeAt Go.RowKit Go.Proofs.YtkcgcddpgfcgiaaDoor.cm Go.Proofs.YtkcgcddpgfcgiaaDoor.cw Go.Proofs.YtkcgcddpgfcgiaaDoor.cp Go.Proofs.YtkcgcddpgfcgiaaDoor.cg Go.Proofs.YtkcgcddpgfcgiaaDoor.ch Go.Proofs.YtkcgcddpgfcgiaaDoor.ra Go.Proofs.YtkcgcddpgfcgiaaDoor.rb Go.Proofs.YtkcgcddpgfcgiaaDoor.rc Go.Proofs.YtkcgcddpgfcgiaaDoor.da Go.Proofs.YtkcgcddpgfcgiaaDoor.db Go.Proofs.YtkcgcddpgfcgiaaDoor.dc Go.Proofs.YtkcgcddpgfcgiaaDoor.dd Go.Proofs.YtkcgcddpgfcgiaaDoor.de Go.Proofs.YtkcgcddpgfcgiaaDoor.df Go.Proofs.YtkcgcddpgfcgiaaDoor.dg Go.Proofs.YtkcgcddpgfcgiaaDoor.dh

/-- A page with one cell replaced. -/
def putCell (p : Pg) (i : Nat) (c : CellM) : Pg := ⟨p.id, p.lsn, fun k => if k = i then c else p.cell k⟩
theorem cellVals_congr {f g : Nat → CellM} : ∀ n, (∀ i, i < n → f i = g i) → cellVals f n = cellVals g n
  | 0, _ => rfl
  | n + 1, h => by rw [cellVals, cellVals, cellVals_congr n (fun i hi => h i (by omega)), h n (by omega)]
theorem vals_congr {p q : Pg} (h1 : p.id = q.id) (h2 : p.lsn = q.lsn) (h : ∀ i, i < 16 → p.cell i = q.cell i) : p.vals = q.vals := by
  unfold Pg.vals
  rw [h1, h2, cellVals_congr 16 h]
theorem arr_congr {p q : Pg} (h1 : p.id = q.id) (h2 : p.lsn = q.lsn) (h : ∀ i, i < 16 → p.cell i = q.cell i) : p.arr = q.arr := by
  unfold Pg.arr
  rw [vals_congr h1 h2 h]
theorem cellVals_put (f : Nat → CellM) (i : Nat) (c : CellM) : ∀ n, i < n → cellVals (fun k => if k = i then c else f k) n = ((cellVals f n).set (2 * i) (.bool c.set)).set (2 * i + 1) (.string c.data)
  | 0, h => by omega
  | n + 1, h => by
    have hl := cellVals_length f n
    rw [cellVals, cellVals]
    by_cases e : i = n
    · subst e
      rw [cellVals_congr i (g := f) (fun k hk => by rw [if_neg (by omega)]), if_pos rfl]
      rw [List.set_append_right _ _ (by omega), List.set_append_right _ _ (by omega), hl]
      rw [show 2 * i - 2 * i = 0 from by omega, show 2 * i + 1 - 2 * i = 1 from by omega]
      rfl
    · rw [cellVals_put f i c n (by omega), if_neg (by omega)]
      rw [List.set_append_left _ _ (by omega), List.set_append_left _ _ (by rw [List.length_set]; omega)]
theorem vals_put (p : Pg) (i : Nat) (c : CellM) (hi : i < 16) : (putCell p i c).vals = (p.vals.set (2 + i * 2) (.bool c.set)).set (2 + i * 2 + 1) (.string c.data) := by
  unfold putCell Pg.vals
  simp only
  rw [cellVals_put p.cell i c 16 hi, show 2 + i * 2 = 2 * i + 1 + 1 from by omega, List.set_cons_succ, List.set_cons_succ, List.set_cons_succ, List.set_cons_succ]
theorem PgAt.put {b : Nat} {p : Pg} {w : World} (h : PgAt b p w) (i : Nat) (hi : i < 16) (c : CellM) : PgAt b (putCell p i c) ((w.setCell ⟨b, 2 + i * 2, none⟩ (.bool c.set)).setCell ⟨b, 2 + i * 2 + 1, none⟩ (.string c.data)) := by
  have hl := vals_length p
  have := (RowAt.set h (2 + i * 2) (by omega) (.bool c.set)).set (2 + i * 2 + 1) (by rw [List.length_set]; omega) (.string c.data)
  show RowAt b _ _
  rw [vals_put p i c hi]
  exact this

/-- The cell at place k of the bytes of a page. -/
def cellOf (s : ByteArray) (k : Nat) : CellM := cellR (s.extract (12 + 13 * k) (12 + 13 * k + 13))
def partPg (s : ByteArray) (j : Nat) : Pg := ⟨getN s 8 4, getN s 0 8, fun k => if k < j then cellOf s k else noCell⟩
def readPg (s : ByteArray) : Pg := partPg s 16
theorem part_step (s : ByteArray) (j : Nat) : (putCell (partPg s j) j (cellOf s j)).vals = (partPg s (j + 1)).vals := by
  refine vals_congr rfl rfl (fun i _ => ?_)
  show (if i = j then cellOf s j else if i < j then cellOf s i else noCell) = if i < j + 1 then cellOf s i else noCell
  by_cases e : i = j
  · subst e; rw [if_pos rfl, if_pos (by omega)]
  · rw [if_neg e]
    by_cases e2 : i < j
    · rw [if_pos e2, if_pos (by omega)]
    · rw [if_neg e2, if_neg (by omega)]
theorem part_zero (s : ByteArray) : (Pg.mk (getN s 8 4) (getN s 0 8) fun _ => noCell).vals = (partPg s 0).vals := vals_congr rfl rfl (fun i _ => by
  show noCell = if i < 0 then cellOf s i else noCell
  rw [if_neg (by omega)])
set_option maxHeartbeats 1000000 in
theorem read_any (s : ByteArray) (w : World) (hs : s.size = 256) :
    Calls Tryd.prog 40 #[.string s] w fun e w' => e = .returned (.agg (readPg s).arr) ∧ Below w.heap.size w w' := by
  have H1 := Lib.hid (RowAt.newA (newPg 0).arr w 27)
  have H2 := Lib.hid (RowAt.newA (newPg 0).arr (w.alloc (.cells (newPg 0).arr 27)) 27)
  have hb := build_page2
  have HS : Hid (s.size = 256) := Lib.hid hs
  go_enter Tryd.func40, Tryd.ntmps40
  go_wp2_with (first
    | (refine wp_newPage rfl rfl ?_)
    | (refine wp_storePage (Pg.mk (getN s 8 4) (getN s 0 8) fun _ => noCell) H2.out (arr_size _) rfl rfl rfl rfl ?_)
    | (go_at_call 57; (with_reducible refine (number_at s _ _ 8 4 (by decide) (by decide) _ (by omega) (by decide) (by decide) (by omega)).mono ?_); rintro e w1 ⟨rfl, rfl⟩)
    | (go_at_call 57; (with_reducible refine (number_at s _ _ 0 8 (by decide) (by decide) _ (by omega) (by decide) (by decide) (by omega)).mono ?_); rintro e w1 ⟨rfl, rfl⟩))
  have R0 : PgAt (w.heap.size + 1) (partPg s 0) (((w.alloc (.cells (newPg 0).arr 27)).alloc (.cells (newPg 0).arr 27)).setCells (w.heap.size + 1) 0 (Pg.mk (getN s 8 4) (getN s 0 8) fun _ => noCell).vals) := by
    have h2 := H2.out
    simp at h2
    have := stored_page (Pg.mk (getN s 8 4) (getN s 0 8) fun _ => noCell) h2 (vals_length _)
    show RowAt _ _ _
    rw [← part_zero]
    exact this
  have R1 : RowAt w.heap.size (newPg 0).vals (((w.alloc (.cells (newPg 0).arr 27)).alloc (.cells (newPg 0).arr 27)).setCells (w.heap.size + 1) 0 (Pg.mk (getN s 8 4) (getN s 0 8) fun _ => noCell).vals) :=
    (H1.out.alloc _).setCellsOther (by omega) _ _
  have R2 : Below w.heap.size w (((w.alloc (.cells (newPg 0).arr 27)).alloc (.cells (newPg 0).arr 27)).setCells (w.heap.size + 1) 0 (Pg.mk (getN s 8 4) (getN s 0 8) fun _ => noCell).vals) :=
    below_setCells _ (by omega) _ _ _ (((Below.refl _ _).alloc (Nat.le_refl _) _).alloc (by simp) _)
  clear H1 H2 hb
  generalize ((w.alloc (.cells (newPg 0).arr 27)).alloc (.cells (newPg 0).arr 27)).setCells (w.heap.size + 1) 0 (Pg.mk (getN s 8 4) (getN s 0 8) fun _ => noCell).vals = W0 at R0 R1 R2
  go_loopw [11] (fun i wr => ∃ j : Nat, j ≤ 16 ∧ i = .int .i64 j ∧ PgAt (w.heap.size + 1) (partPg s j) wr ∧ RowAt w.heap.size (newPg 0).vals wr ∧ Below w.heap.size w wr) (fun i _ => 16 - (intOf i).toNat)
  case atStart => exact ⟨0, by omega, rfl, R0, R1, R2⟩
  case round =>
    obtain ⟨j, hj, rfl, h1, h2, h3⟩ := hrel
    have HR0 := Lib.hid h1
    have HR1 := Lib.hid h2
    have HR2 := Lib.hid h3
    clear R0 R1 R2 h1 h2 h3
    by_cases hlt : j < 16
    · have s1 := slice_s s (12 + (j : Int) * 13) (12 + (j : Int) * 13 + 13) (12 + 13 * j) (12 + 13 * j + 13) (by omega) (by omega) (by omega) (by omega)
      have hsz : (s.extract (12 + 13 * j) (12 + 13 * j + 13)).size = 13 := by rw [ByteArray.size_extract]; omega
      go_wp2_with (go_at_call 58; (with_reducible refine (readCell_any _ _ hsz).mono ?_); rintro e w1 ⟨rfl, hb1⟩; have HB1 := Lib.hid hb1; have h5 := HR0.out.keep hb1; have h6 := h5.cells (2 + j * 2) _ (vals_set _ j hlt); have h7 := h5.cells (2 + j * 2 + 1) _ (vals_data _ j hlt); have h8 := h5.free (2 + j * 2); have h9 := h5.free (2 + j * 2 + 1); have HR3 := Lib.hid h5; clear h5 hb1)
      go_roundw
      case rel =>
        have hp := PgAt.put HR3.out j hlt (cellOf s j)
        refine ⟨j + 1, by omega, by go_num, ?_, ((HR1.out.keep HB1.out).setOther (by show w.heap.size + 1 ≠ w.heap.size; omega) _).setOther (by show w.heap.size + 1 ≠ w.heap.size; omega) _, ((HR2.out.trans (HB1.out.mono HR2.out.size)).setCell (by show w.heap.size ≤ w.heap.size + 1; omega) _).setCell (by show w.heap.size ≤ w.heap.size + 1; omega) _⟩
        show RowAt _ _ _
        rw [← part_step]
        exact hp
      case measure => simp [intOf]; omega
    · obtain rfl : j = 16 := by omega
      go_wp2_with (first
        | (refine wp_loadPage (partPg s 16) HR0.out rfl rfl rfl ?_)
        | (refine wp_storePage (partPg s 16) HR1.out (vals_length _) rfl rfl rfl rfl ?_))
      refine bodyPost_ret (res_page rfl rfl (stored_page (partPg s 16) HR1.out (vals_length _))) rfl ⟨rfl, ?_⟩
      exact below_setCells _ (Nat.le_refl _) _ _ _ HR2.out
end Go.Proofs.YtkcgcddpgfcgiaaDoor.di
