/- What the bytes of a page mean: the reference's Decode and Identify. -/
import Derived.Test.YtkcgcddpgfcgiaaDoorDj
namespace Go.Proofs.YtkcgcddpgfcgiaaDoor.dk
open Go.ChangeShapes Go.WideShapes Go.ChangeAt Go.RowKit Go.Proofs.YtkcgcddpgfcgiaaDoor.cm Go.Proofs.YtkcgcddpgfcgiaaDoor.cw Go.Proofs.YtkcgcddpgfcgiaaDoor.cp Go.Proofs.YtkcgcddpgfcgiaaDoor.cg Go.Proofs.YtkcgcddpgfcgiaaDoor.ch Go.Proofs.YtkcgcddpgfcgiaaDoor.ra Go.Proofs.YtkcgcddpgfcgiaaDoor.rb Go.Proofs.YtkcgcddpgfcgiaaDoor.rc Go.Proofs.YtkcgcddpgfcgiaaDoor.da Go.Proofs.YtkcgcddpgfcgiaaDoor.db Go.Proofs.YtkcgcddpgfcgiaaDoor.dc Go.Proofs.YtkcgcddpgfcgiaaDoor.dd Go.Proofs.YtkcgcddpgfcgiaaDoor.de Go.Proofs.YtkcgcddpgfcgiaaDoor.df Go.Proofs.YtkcgcddpgfcgiaaDoor.dg Go.Proofs.YtkcgcddpgfcgiaaDoor.dh Go.Proofs.YtkcgcddpgfcgiaaDoor.di Go.Proofs.YtkcgcddpgfcgiaaDoor.dj

theorem toL_append (a b : ByteArray) : (a ++ b).data.toList = a.data.toList ++ b.data.toList := by simp [ByteArray.data_append]
theorem toL_length (a : ByteArray) : a.data.toList.length = a.size := by simp
theorem cellsS_prefix (f : Nat → CellM) (k : Nat) : ∀ n, k ≤ n → ∃ r, cellsS f n = cellsS f k ++ r
  | 0, h => by
    obtain rfl : k = 0 := by omega
    exact ⟨⟨#[]⟩, (append_nil _).symm⟩
  | n + 1, h => by
    by_cases e : k = n + 1
    · subst e; exact ⟨⟨#[]⟩, (append_nil _).symm⟩
    · obtain ⟨r, hr⟩ := cellsS_prefix f k n (by omega)
      exact ⟨r ++ cellS (f n), by rw [cellsS, hr, append_assoc]⟩
/-- The bytes of a page, cut ahead of cell k. -/
theorem encS_cut (p : Pg) (k : Nat) (hk : k < 16) : ∃ r, encS p = mainS p k ++ (cellS (p.cell k) ++ r) := by
  obtain ⟨r, hr⟩ := cellsS_prefix p.cell (k + 1) 16 (by omega)
  have hb : bodyS p = mainS p k ++ (cellS (p.cell k) ++ (r ++ zeroS 24)) := by
    unfold bodyS mainS
    rw [hr, cellsS]
    simp only [append_assoc]
  refine ⟨r ++ zeroS 24 ++ (strOfNums (putN (crcN (bodyS p) : Nat) 4) ++ strOfNums (putN p.lsn 8)), ?_⟩
  show bodyS p ++ strOfNums (putN (crcN (bodyS p) : Nat) 4) ++ strOfNums (putN p.lsn 8) = _
  generalize strOfNums (putN (crcN (bodyS p) : Nat) 4) = X
  rw [hb]
  simp only [append_assoc]
theorem getD_append_at (l r : List UInt8) (n i : Nat) (hn : l.length = n) : (l ++ r).getD (n + i) 0 = r.getD i 0 := by
  subst hn
  rw [List.getD, List.getElem?_append_right (by omega), List.getD, show l.length + i - l.length = i from by omega]
theorem encS_count {p : Pg} (h : Small p) (k : Nat) (hk : k < 16) : byteN (encS p) (12 + 13 * k) = countOf (p.cell k) % 256 := by
  obtain ⟨r, hr⟩ := encS_cut p k hk
  have hm := mainS_size h k (by omega)
  unfold byteN
  rw [hr, toL_append, show 12 + 13 * k = 12 + 13 * k + 0 from rfl, getD_append_at _ _ _ _ (by rw [toL_length, hm])]
  unfold cellS
  rw [toL_append, toL_append, strOfNums_data]
  show (UInt8.ofNat (byteAt (countOf (p.cell k) : Nat) 0).toNat).toNat = _
  unfold byteAt
  simp
  omega
theorem byteN_extract (s : ByteArray) (a b i : Nat) (hi : a + i < b) : byteN (s.extract a b) i = byteN s (a + i) := by
  unfold byteN
  congr 1
  rw [list_extract, List.getD, List.getD, List.getElem?_drop, List.getElem?_take_of_lt hi]
/-- A count that no cell has. -/
def BadAt (s : ByteArray) (k : Nat) : Prop := 12 < byteN s (12 + 13 * k) ∧ byteN s (12 + 13 * k) ≠ 255
theorem bad_count {s : ByteArray} (h : checkE s = 0) {k : Nat} (hk : k < 16) (hb : BadAt s k) : decE s = 4 := by
  have hs := check_size256 h
  unfold decE
  rw [if_pos h, if_neg]
  rintro ⟨he, h0⟩
  unfold encA at he
  rw [if_pos h0] at he
  have h1 := encS_count (readPg_small s) k hk
  rw [he] at h1
  have hc : (readPg s).cell k = cellOf s k := by show (if k < 16 then cellOf s k else noCell) = _; rw [if_pos hk]
  rw [hc] at h1
  have hx : byteN (s.extract (12 + 13 * k) (12 + 13 * k + 13)) 0 = byteN s (12 + 13 * k) := byteN_extract s _ _ 0 (by omega)
  unfold cellOf cellR at h1
  rw [hx, if_neg hb.2] at h1
  unfold countOf at h1
  rw [if_pos rfl] at h1
  have hz : (((s.extract (12 + 13 * k) (12 + 13 * k + 13)).extract 1 13).extract 0 (min (byteN s (12 + 13 * k)) 12)).size = 12 := by
    rw [ByteArray.size_extract, ByteArray.size_extract, ByteArray.size_extract]
    have := hb.1
    omega
  simp only [hz] at h1
  have := hb.1
  omega
theorem cell_good {s : ByteArray} {k : Nat} (h : byteN s (12 + 13 * k) ≠ 255) (h2 : byteN s (12 + 13 * k) ≤ 12) : cellOf s k = ⟨true, s.extract (12 + 13 * k + 1) (12 + 13 * k + 1 + byteN s (12 + 13 * k))⟩ := by
  have hx : byteN (s.extract (12 + 13 * k) (12 + 13 * k + 13)) 0 = byteN s (12 + 13 * k) := byteN_extract s _ _ 0 (by omega)
  unfold cellOf cellR
  rw [hx, if_neg h]
  rw [ByteArray.extract_extract, ByteArray.extract_extract]
  congr 2
  all_goals omega
theorem cell_none {s : ByteArray} {k : Nat} (h : byteN s (12 + 13 * k) = 255) : cellOf s k = noCell := by
  have hx : byteN (s.extract (12 + 13 * k) (12 + 13 * k + 13)) 0 = byteN s (12 + 13 * k) := byteN_extract s _ _ 0 (by omega)
  unfold cellOf cellR
  rw [hx, if_pos h]
theorem index_byte (s : ByteArray) (x : Int) (i : Nat) (hx : x = i) (hi : i < s.size) (W : World) : (Instr.index 9 (.string s) (.int .i64 x)).run Tryd.prog W = .ok (.int .u8 (byteN s i : Nat)) W := by
  subst hx
  have := run_index_string (P := Tryd.prog) (w := W) 9 s .i64 (i : Int) Tryd.underlying9
  rw [this, dif_pos ⟨by omega, by omega⟩]
  unfold byteN
  rw [getD_byte s i hi]
  rfl
theorem refDec_size (s : ByteArray) (h : s.size ≠ 256) (w : World) (hw : TabOk w) :
    Calls Tryd.prog 22 #[.string s] w fun e w' => e = .returned (.tuple #[.agg (newPg 0).arr, .int .i64 2]) ∧ Below w.heap.size w w' := by
  have hz := tab_size hw
  have H1 := Lib.hid (RowAt.newA (newPg 0).arr w 27)
  have B1 : Hid (Below w.heap.size w (w.alloc (.cells (newPg 0).arr 27))) := Lib.hid ((Below.refl _ _).alloc (Nat.le_refl _) _)
  have hb := build_page0
  have hd : ((s.size : Int) != 256) = true := by simp; omega
  go_enter Tryd.func22, Tryd.ntmps22
  go_wp2_with (first
    | (refine wp_newPage rfl rfl ?_)
    | (refine wp_storePage (newPg 0) H1.out (arr_size _) rfl rfl rfl rfl ?_))
  refine bodyPost_ret (res_pageE rfl rfl (stored_page (newPg 0) H1.out (vals_length _))) rfl ⟨rfl, ?_⟩
  exact below_setCells _ (Nat.le_refl _) _ _ _ B1.out
theorem refDec_blank (s : ByteArray) (hs : s.size = 256) (h : s = zeroS 256) (w : World) (hw : TabOk w) :
    Calls Tryd.prog 22 #[.string s] w fun e w' => e = .returned (.tuple #[.agg (newPg 0).arr, .int .i64 7]) ∧ Below w.heap.size w w' := by
  have hz := tab_size hw
  have H1 := Lib.hid (RowAt.newA (newPg 0).arr w 27)
  have B1 : Hid (Below w.heap.size w (w.alloc (.cells (newPg 0).arr 27))) := Lib.hid ((Below.refl _ _).alloc (Nat.le_refl _) _)
  have hb := build_page0
  have he := eqL_yes h
  clear h
  go_enter Tryd.func22, Tryd.ntmps22
  go_wp2_with (first
    | (refine wp_newPage rfl rfl ?_)
    | (go_at_call 18; (with_reducible refine (refBlank_any _).mono ?_); rintro e w1 ⟨rfl, hb1⟩; have H2 := Lib.hid (H1.out.keep hb1); have B2 := Lib.hid (B1.out.trans (hb1.mono B1.out.size)); clear hb1 H1)
    | (refine wp_storePage (newPg 0) H2.out (vals_length _) rfl rfl rfl rfl ?_))
  refine bodyPost_ret (res_pageE rfl rfl (stored_page (newPg 0) H2.out (vals_length _))) rfl ⟨rfl, ?_⟩
  exact below_setCells _ (Nat.le_refl _) _ _ _ B2.out
theorem refDec_pos (s : ByteArray) (hs : s.size = 256) (h : s ≠ zeroS 256) (hp : s.extract 0 8 ≠ s.extract 248 256) (w : World) (hw : TabOk w) :
    Calls Tryd.prog 22 #[.string s] w fun e w' => e = .returned (.tuple #[.agg (newPg 0).arr, .int .i64 27]) ∧ Below w.heap.size w w' := by
  have hz := tab_size hw
  have H1 := Lib.hid (RowAt.newA (newPg 0).arr w 27)
  have B1 : Hid (Below w.heap.size w (w.alloc (.cells (newPg 0).arr 27))) := Lib.hid ((Below.refl _ _).alloc (Nat.le_refl _) _)
  have hb := build_page0
  have he := eqL_no h
  have hn := eqL_no hp
  have hn2 := neL_yes hp
  have s1 := slice_to s 8 8 rfl (by omega)
  have s2 := slice_from s 248 248 256 rfl (by omega) hs
  clear h hp
  go_enter Tryd.func22, Tryd.ntmps22
  go_wp2_with (first
    | (refine wp_newPage rfl rfl ?_)
    | (go_at_call 18; (with_reducible refine (refBlank_any _).mono ?_); rintro e w1 ⟨rfl, hb1⟩; have H2 := Lib.hid (H1.out.keep hb1); have B2 := Lib.hid (B1.out.trans (hb1.mono B1.out.size)); clear hb1 H1))
  go_quiet (fail)
  have H3 := Lib.hid (RowAt.drewN H2.out 1)
  go_wp2_with (first
    | (refine wp_storePage (newPg 0) (RowAt.drewN H2.out _) (vals_length _) rfl rfl rfl rfl ?_))
  refine bodyPost_ret (res_pageE rfl rfl (stored_page (newPg 0) (RowAt.drewN H2.out _) (vals_length _))) rfl ⟨rfl, ?_⟩
  exact below_setCells _ (Nat.le_refl _) _ _ _ (B2.out.drewN _)
theorem refGet_is (s : ByteArray) (x y : Int) (a k : Nat) (v : Int) (hx : x = a) (hy : y = k) (hv : getN s a k = v) (w : World) (hs : s.size ≤ 1099511627776) (h1 : 1 ≤ k) (h8 : k ≤ 8) (ha : a + k ≤ s.size) :
    Calls Tryd.prog 41 #[.string s, .int .i64 x, .int .i64 y] w fun e w' => e = .returned (.tuple #[.int .i64 v, .int .i64 0]) ∧ w = w' := by
  subst hx hy hv
  exact refGet_yes s a k w hs h1 h8 ha
theorem refDec_sum (s : ByteArray) (hs : s.size = 256) (h : s ≠ zeroS 256) (hp : s.extract 0 8 = s.extract 248 256) (hc : uget s 244 4 ≠ crcN (s.extract 0 244)) (w : World) (hw : TabOk w) :
    Calls Tryd.prog 22 #[.string s] w fun e w' => e = .returned (.tuple #[.agg (newPg 0).arr, .int .i64 3]) ∧ Below w.heap.size w w' := by
  have hz := tab_size hw
  have H1 := Lib.hid (RowAt.newA (newPg 0).arr w 27)
  have B1 : Hid (Below w.heap.size w (w.alloc (.cells (newPg 0).arr 27))) := Lib.hid ((Below.refl _ _).alloc (Nat.le_refl _) _)
  have hb := build_page0
  have he := eqL_no h
  have hn := eqL_yes hp
  have hn2 := neL_no hp
  have s1 := slice_to s 8 8 rfl (by omega)
  have s2 := slice_from s 248 248 256 rfl (by omega) hs
  have s3 := slice_to s 244 244 rfl (by omega)
  have hu := uget_lt s 244 4
  have HG : Hid (getN s 244 4 = (uget s 244 4 : Nat)) := Lib.hid (getN_small s 244 4 (by decide))
  have hz2 : (s.extract 0 244).size ≤ 1099511627776 := by rw [ByteArray.size_extract]; omega
  have hcr := crcN_lt (s.extract 0 244)
  have hu4 : uget s 244 4 < 4294967296 := hu
  have hmod : ((uget s 244 4 : Nat) : Int) % 4294967296 = ((uget s 244 4 : Nat) : Int) := by omega
  have hcmp := ne_nat _ _ hc
  clear h hp hc hu
  go_enter Tryd.func22, Tryd.ntmps22
  go_wp2_with (first
    | (refine wp_newPage rfl rfl ?_)
    | (go_at_call 18; (with_reducible refine (refBlank_any _).mono ?_); rintro e w1 ⟨rfl, hb1⟩; have H2 := Lib.hid (H1.out.keep hb1); have B2 := Lib.hid (B1.out.trans (hb1.mono B1.out.size)); clear hb1 H1))
  go_quiet (fail)
  go_wp2_with (first
    | (go_at_call 41; (with_reducible refine (refGet_is s _ _ 244 4 _ (by decide) (by decide) HG.out _ (by omega) (by decide) (by decide) (by omega)).mono ?_); rintro e w5 ⟨rfl, rfl⟩)
    | (go_at_call 35; (with_reducible refine (refSum_n _ _ hz2).mono ?_); rintro e w5 ⟨rfl, rfl⟩)
    | (refine wp_storePage (newPg 0) (RowAt.drewN H2.out _) (vals_length _) rfl rfl rfl rfl ?_))
  refine bodyPost_ret (res_pageE rfl rfl (stored_page (newPg 0) (RowAt.drewN H2.out _) (vals_length _))) rfl ⟨rfl, ?_⟩
  exact below_setCells _ (Nat.le_refl _) _ _ _ (B2.out.drewN _)
set_option maxRecDepth 100000 in
set_option maxHeartbeats 2000000 in
theorem refDec_main (s : ByteArray) (hs : s.size = 256) (h : s ≠ zeroS 256) (hp : s.extract 0 8 = s.extract 248 256) (hc : uget s 244 4 = crcN (s.extract 0 244)) (hck : checkE s = 0) (w : World) (hw : TabOk w) :
    Calls Tryd.prog 22 #[.string s] w fun e w' => e = .returned (decT s) ∧ Below w.heap.size w w' := by
  have hz := tab_size hw
  have H1 := Lib.hid (RowAt.newA (newPg 0).arr w 27)
  have B1 : Hid (Below w.heap.size w (w.alloc (.cells (newPg 0).arr 27))) := Lib.hid ((Below.refl _ _).alloc (Nat.le_refl _) _)
  have hb := build_page0
  have he := eqL_no h
  have hn := eqL_yes hp
  have hn2 := neL_no hp
  have s1 := slice_to s 8 8 rfl (by omega)
  have s2 := slice_from s 248 248 256 rfl (by omega) hs
  have s3 := slice_to s 244 244 rfl (by omega)
  have hu := uget_lt s 244 4
  have HG : Hid (getN s 244 4 = (uget s 244 4 : Nat)) := Lib.hid (getN_small s 244 4 (by decide))
  have hz2 : (s.extract 0 244).size ≤ 1099511627776 := by rw [ByteArray.size_extract]; omega
  have hcr := crcN_lt (s.extract 0 244)
  have hu4 : uget s 244 4 < 4294967296 := hu
  have hmod : ((uget s 244 4 : Nat) : Int) % 4294967296 = ((uget s 244 4 : Nat) : Int) := by omega
  have hcmp := eq_nat _ _ hc
  have HCK := Lib.hid hck
  clear h hp hc hu hck
  go_enter Tryd.func22, Tryd.ntmps22
  go_wp2_with (first
    | (refine wp_newPage rfl rfl ?_)
    | (go_at_call 18; (with_reducible refine (refBlank_any _).mono ?_); rintro e w1 ⟨rfl, hb1⟩; have H2 := Lib.hid (H1.out.keep hb1); have B2 := Lib.hid (B1.out.trans (hb1.mono B1.out.size)); clear hb1 H1))
  go_quiet (fail)
  go_wp2_with (first
    | (go_at_call 41; (with_reducible refine (refGet_is s _ _ 244 4 _ (by decide) (by decide) HG.out _ (by omega) (by decide) (by decide) (by omega)).mono ?_); rintro e w5 ⟨rfl, rfl⟩)
    | (go_at_call 35; (with_reducible refine (refSum_n _ _ hz2).mono ?_); rintro e w5 ⟨rfl, rfl⟩)
    | (refine wp_newPageW rfl rfl ?_; intro w6 hp6' hb6 hz6'; have hp6 : PgAt w1.heap.size (newPg 0) w6 := hp6'; have hz6 : w1.heap.size < w6.heap.size := hz6'; clear hp6' hz6'; have h60 := hp6.cells 0 _ (vals_id _); have h61 := hp6.cells 1 _ (vals_lsn _); have h62 := hp6.free 0; have h63 := hp6.free 1; have HP6 := Lib.hid hp6; have H6 := Lib.hid ((RowAt.drewN H2.out _).keep hb6); have B6 := Lib.hid ((B2.out.drewN _).trans (hb6.mono B2.out.size)); clear hp6 hb6)
    | (go_at_call 41; (with_reducible refine (refGet_is s _ _ 0 8 _ (by decide) (by decide) rfl _ (by omega) (by decide) (by decide) (by omega)).mono ?_); rintro e w5 ⟨rfl, rfl⟩)
    | (go_at_call 41; (with_reducible refine (refGet_is s _ _ 8 4 _ (by decide) (by decide) rfl _ (by omega) (by decide) (by decide) (by omega)).mono ?_); rintro e w5 ⟨rfl, rfl⟩))
  have hst : RowAt w1.heap.size (partPg s 0).vals ((w6.setCell ⟨w1.heap.size, 1, none⟩ (.int .i64 (getN s 0 8))).setCell ⟨w1.heap.size, 0, none⟩ (.int .i64 (getN s 8 4))) := by
    rw [← part_zero]
    exact (RowAt.set HP6.out 1 (by rw [vals_length]; omega) _).set 0 (by rw [List.length_set, vals_length]; omega) _
  have hne : w.heap.size < w1.heap.size := H2.out.lt
  have R1 : RowAt w.heap.size (newPg 0).vals ((w6.setCell ⟨w1.heap.size, 1, none⟩ (.int .i64 (getN s 0 8))).setCell ⟨w1.heap.size, 0, none⟩ (.int .i64 (getN s 8 4))) :=
    (RowAt.setOther H6.out (by show w1.heap.size ≠ w.heap.size; omega) _).setOther (by show w1.heap.size ≠ w.heap.size; omega) _
  have R2 : Below w.heap.size w ((w6.setCell ⟨w1.heap.size, 1, none⟩ (.int .i64 (getN s 0 8))).setCell ⟨w1.heap.size, 0, none⟩ (.int .i64 (getN s 8 4))) :=
    (B6.out.setCell (by show w.heap.size ≤ w1.heap.size; omega) _).setCell (by show w.heap.size ≤ w1.heap.size; omega) _
  generalize (w6.setCell ⟨w1.heap.size, 1, none⟩ (.int .i64 (getN s 0 8))).setCell ⟨w1.heap.size, 0, none⟩ (.int .i64 (getN s 8 4)) = W0 at hst R1 R2
  clear h60 h61 h62 h63 HP6 H6 B6 hz6 H2 B1 B2 s1 s2 s3 he hn hn2 hcmp hmod HG
  generalize w1.heap.size = b6 at hst R1 R2 hne
  go_loopw [7] (fun i wr => ∃ j : Nat, j ≤ 16 ∧ i = .int .i64 j ∧ PgAt b6 (partPg s j) wr ∧ RowAt w.heap.size (newPg 0).vals wr ∧ Below w.heap.size w wr) (fun i _ => 16 - (intOf i).toNat)
  case atStart => exact ⟨0, by omega, rfl, hst, R1, R2⟩
  case round =>
    obtain ⟨j, hj, rfl, h1, h2, h3⟩ := hrel
    have HR0 := Lib.hid h1
    have HR1 := Lib.hid h2
    have HR2 := Lib.hid h3
    clear hst R1 R2 h1 h2 h3
    by_cases hlt : j < 16
    · obtain ⟨n, hn⟩ : ∃ n, n = byteN s (12 + 13 * j) := ⟨_, rfl⟩
      have hn2 := byteN_lt s (12 + 13 * j)
      rw [← hn] at hn2
      have hix : ∀ W : World, (Instr.index 9 (.string s) (.int .i64 (12 + (j : Int) * 13))).run Tryd.prog W = .ok (.int .u8 (n : Int)) W := fun W => by
        rw [hn]
        exact index_byte s _ (12 + 13 * j) (by omega) (by omega) W
      have HN := Lib.hid hn
      clear hn
      by_cases h255 : n = 255
      · have c1 : ((n : Int) == 255) = true := by rw [h255]; rfl
        have HC := Lib.hid (cell_none (s := s) (k := j) (by rw [← HN.out, h255]))
        clear h255
        go_wp2
        go_roundw
        case rel =>
          refine ⟨j + 1, by omega, by go_num, ?_, HR1.out, HR2.out⟩
          have e : (partPg s (j + 1)).vals = (partPg s j).vals := vals_congr rfl rfl (fun i _ => by
            show (if i < j + 1 then cellOf s i else noCell) = if i < j then cellOf s i else noCell
            by_cases e : i = j
            · subst e; rw [if_pos (by omega), if_neg (by omega), HC.out]
            · by_cases e2 : i < j
              · rw [if_pos (by omega), if_pos e2]
              · rw [if_neg (by omega), if_neg e2])
          show RowAt _ _ _
          rw [e]
          exact HR0.out
        case measure => simp [intOf]; omega
      · have c1 : ((n : Int) == 255) = false := by simp; omega
        by_cases h12 : 12 < n
        · have HB := Lib.hid (bad_count HCK.out hlt ⟨by rw [← HN.out]; exact h12, by rw [← HN.out]; exact h255⟩)
          clear h255
          go_wp2_with (refine wp_storePage (newPg 0) HR1.out (vals_length _) rfl rfl rfl rfl ?_)
          refine bodyPost_ret (res_pageE rfl rfl (stored_page (newPg 0) HR1.out (vals_length _))) rfl ⟨?_, below_setCells _ (Nat.le_refl _) _ _ _ HR2.out⟩
          unfold decT decP
          rw [HB.out, if_neg (by decide)]
          rfl
        · have HC := Lib.hid (cell_good (s := s) (k := j) (by rw [← HN.out]; exact h255) (by rw [← HN.out]; omega))
          have hx := HC.out
          rw [← HN.out] at hx
          have HX := Lib.hid hx
          have s1 := slice_s s (12 + (j : Int) * 13 + 1) (12 + (j : Int) * 13 + 1 + (n : Int)) (12 + 13 * j + 1) (12 + 13 * j + 1 + n) (by omega) (by omega) (by omega) (by omega)
          have h6 := HR0.out.cells (2 + j * 2) _ (vals_set _ j hlt)
          have h7 := HR0.out.cells (2 + j * 2 + 1) _ (vals_data _ j hlt)
          have h8 := HR0.out.free (2 + j * 2)
          have h9 := HR0.out.free (2 + j * 2 + 1)
          clear h255 hx
          go_wp2
          go_roundw
          case rel =>
            have hp := PgAt.put HR0.out j hlt (cellOf s j)
            have hx := HX.out
            rw [hx] at hp
            refine ⟨j + 1, by omega, by go_num, ?_, (HR1.out.setOther (by show b6 ≠ w.heap.size; omega) _).setOther (by show b6 ≠ w.heap.size; omega) _, (HR2.out.setCell (by show w.heap.size ≤ b6; omega) _).setCell (by show w.heap.size ≤ b6; omega) _⟩
            show RowAt _ _ _
            rw [← part_step, hx]
            exact hp
          case measure => simp [intOf]; omega
    · obtain rfl : j = 16 := by omega
      have hsm := readPg_small s
      have hdec : decE s = if encA (readPg s) = s ∧ encE (readPg s) = 0 then 0 else 4 := by unfold decE; rw [if_pos HCK.out]
      rcases encE_val (readPg s) with he | he
      · by_cases ht : encA (readPg s) = s
        · have hd : decE s = 0 := by rw [hdec, if_pos ⟨ht, he⟩]
          have HD : Hid (decT s = .tuple #[.agg (readPg s).arr, .int .i64 0]) := Lib.hid (by unfold decT decP; rw [hd, if_pos rfl])
          have HE : Hid (∀ W, Calls Tryd.prog 12 #[.agg (partPg s 16).arr] W fun e w' => e = .returned (.tuple #[.string s, .int .i64 0]) ∧ Below W.heap.size W w') := Lib.hid (fun W => by
            have := refEncode_any (readPg s) W (fits_of_small hsm)
            unfold encT at this
            rwa [ht, he] at this)
          have c1 := eqL_yes (rfl : s = s)
          clear hdec he ht hd
          go_wp2_with (first
            | (refine wp_loadPage (partPg s 16) HR0.out rfl rfl rfl ?_)
            | (refine wp_loadPage (partPg s 16) HQ0.out rfl rfl rfl ?_)
            | (refine wp_storePage (partPg s 16) HQ1.out (vals_length _) rfl rfl rfl rfl ?_)
            | (go_at_call 12; (with_reducible refine (HE.out _).mono ?_); rintro e w9 ⟨rfl, hb9⟩; have HQ0 := Lib.hid (HR0.out.keep hb9); have HQ1 := Lib.hid (HR1.out.keep hb9); have HQ2 := Lib.hid (HR2.out.trans (hb9.mono HR2.out.size)); clear hb9))
          refine bodyPost_ret (res_pageE rfl rfl (stored_page (partPg s 16) HQ1.out (vals_length _))) rfl ⟨?_, below_setCells _ (Nat.le_refl _) _ _ _ HQ2.out⟩
          rw [HD.out]
          rfl
        · have hd : decE s = 4 := by rw [hdec, if_neg (fun e => ht e.1)]
          have HD : Hid (decT s = .tuple #[.agg (newPg 0).arr, .int .i64 4]) := Lib.hid (by unfold decT decP; rw [hd, if_neg (by decide)])
          obtain ⟨t, htt⟩ : ∃ t, t = encA (readPg s) := ⟨_, rfl⟩
          rw [← htt] at ht
          have HE : Hid (∀ W, Calls Tryd.prog 12 #[.agg (partPg s 16).arr] W fun e w' => e = .returned (.tuple #[.string t, .int .i64 0]) ∧ Below W.heap.size W w') := Lib.hid (fun W => by
            have := refEncode_any (readPg s) W (fits_of_small hsm)
            unfold encT at this
            rwa [← htt, he] at this)
          have c1 := eqL_no ht
          clear hdec he ht hd htt
          go_wp2_with (first
            | (refine wp_loadPage (partPg s 16) HR0.out rfl rfl rfl ?_)
            | (refine wp_storePage (newPg 0) HQ1.out (vals_length _) rfl rfl rfl rfl ?_)
            | (go_at_call 12; (with_reducible refine (HE.out _).mono ?_); rintro e w9 ⟨rfl, hb9⟩; have HQ1 := Lib.hid (HR1.out.keep hb9); have HQ2 := Lib.hid (HR2.out.trans (hb9.mono HR2.out.size)); clear hb9))
          refine bodyPost_ret (res_pageE rfl rfl (stored_page (newPg 0) HQ1.out (vals_length _))) rfl ⟨?_, below_setCells _ (Nat.le_refl _) _ _ _ HQ2.out⟩
          rw [HD.out]
          rfl
      · have hd : decE s = 4 := by rw [hdec, if_neg (fun e => by rw [e.2] at he; cases he)]
        have HD : Hid (decT s = .tuple #[.agg (newPg 0).arr, .int .i64 4]) := Lib.hid (by unfold decT decP; rw [hd, if_neg (by decide)])
        obtain ⟨n, hnn⟩ : ∃ n, n = encE (readPg s) := ⟨_, rfl⟩
        rw [← hnn] at he
        have HE : Hid (∀ W, Calls Tryd.prog 12 #[.agg (partPg s 16).arr] W fun e w' => e = .returned (.tuple #[.string (encA (readPg s)), .int .i64 n]) ∧ Below W.heap.size W w') := Lib.hid (fun W => by
          have := refEncode_any (readPg s) W (fits_of_small hsm)
          unfold encT at this
          rwa [← hnn] at this)
        clear hdec hd hnn
        go_wp2_with (first
          | (refine wp_loadPage (partPg s 16) HR0.out rfl rfl rfl ?_)
          | (refine wp_storePage (newPg 0) HQ1.out (vals_length _) rfl rfl rfl rfl ?_)
          | (go_at_call 12; (with_reducible refine (HE.out _).mono ?_); rintro e w9 ⟨rfl, hb9⟩; have HQ1 := Lib.hid (HR1.out.keep hb9); have HQ2 := Lib.hid (HR2.out.trans (hb9.mono HR2.out.size)); clear hb9))
        refine bodyPost_ret (res_pageE rfl rfl (stored_page (newPg 0) HQ1.out (vals_length _))) rfl ⟨?_, below_setCells _ (Nat.le_refl _) _ _ _ HQ2.out⟩
        rw [HD.out]
        rfl
theorem refDecode_any (s : ByteArray) (w : World) (hw : TabOk w) :
    Calls Tryd.prog 22 #[.string s] w fun e w' => e = .returned (decT s) ∧ Below w.heap.size w w' := by
  have fin : ∀ n, n ≠ 0 → checkE s = n → decT s = .tuple #[.agg (newPg 0).arr, .int .i64 n] := fun n h0 h => by
    have hd : decE s = n := by unfold decE; rw [if_neg (by rw [h]; exact h0), h]
    unfold decT decP
    rw [hd, if_neg h0]
  by_cases h1 : s.size ≠ 256
  · rw [fin 2 (by decide) (by unfold checkE; rw [if_pos h1])]
    exact refDec_size s h1 w hw
  · have h1' := h1
    simp only [ne_eq, Decidable.not_not] at h1'
    by_cases h2 : s = zeroS 256
    · rw [fin 7 (by decide) (by unfold checkE; rw [if_neg h1, if_pos h2])]
      exact refDec_blank s h1' h2 w hw
    · by_cases h3 : s.extract 0 8 ≠ s.extract 248 256
      · rw [fin 27 (by decide) (by unfold checkE; rw [if_neg h1, if_neg h2, if_pos h3])]
        exact refDec_pos s h1' h2 h3 w hw
      · have h3' := h3
        simp only [ne_eq, Decidable.not_not] at h3'
        by_cases h4 : uget s 244 4 ≠ crcN (s.extract 0 244)
        · rw [fin 3 (by decide) (by unfold checkE; rw [if_neg h1, if_neg h2, if_neg h3, if_pos h4])]
          exact refDec_sum s h1' h2 h3' h4 w hw
        · exact refDec_main s h1' h2 h3' (by simpa using h4) (by unfold checkE; rw [if_neg h1, if_neg h2, if_neg h3, if_neg h4]) w hw
end Go.Proofs.YtkcgcddpgfcgiaaDoor.dk
