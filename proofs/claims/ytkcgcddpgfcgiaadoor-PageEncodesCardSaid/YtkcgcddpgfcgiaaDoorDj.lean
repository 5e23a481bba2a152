/- What the bytes of a page mean: the program's Decode and Identify. -/
import Derived.Test.YtkcgcddpgfcgiaaDoorDi
namespace Go.Proofs.YtkcgcddpgfcgiaaDoor.dj
open Go.ChangeShapes Go.WideShapes Go.ChangeAt Go.RowKit Go.Proofs.YtkcgcddpgfcgiaaDoor.cm Go.Proofs.YtkcgcddpgfcgiaaDoor.cw Go.Proofs.YtkcgcddpgfcgiaaDoor.cp Go.Proofs.YtkcgcddpgfcgiaaDoor.cg Go.Proofs.YtkcgcddpgfcgiaaDoor.ch Go.Proofs.YtkcgcddpgfcgiaaDoor.ra Go.Proofs.YtkcgcddpgfcgiaaDoor.rb Go.Proofs.YtkcgcddpgfcgiaaDoor.rc Go.Proofs.YtkcgcddpgfcgiaaDoor.da Go.Proofs.YtkcgcddpgfcgiaaDoor.db Go.Proofs.YtkcgcddpgfcgiaaDoor.dc Go.Proofs.YtkcgcddpgfcgiaaDoor.dd Go.Proofs.YtkcgcddpgfcgiaaDoor.de Go.Proofs.YtkcgcddpgfcgiaaDoor.df Go.Proofs.YtkcgcddpgfcgiaaDoor.dg Go.Proofs.YtkcgcddpgfcgiaaDoor.dh Go.Proofs.YtkcgcddpgfcgiaaDoor.di

/-- The page that bytes mean, and the error. -/
def decE (s : ByteArray) : Int := if checkE s = 0 then (if encA (readPg s) = s ∧ encE (readPg s) = 0 then 0 else 4) else checkE s
def decP (s : ByteArray) : Pg := if decE s = 0 then readPg s else newPg 0
def decT (s : ByteArray) : Value := .tuple #[.agg (decP s).arr, .int .i64 (decE s)]
theorem cellR_size (t : ByteArray) : (cellR t).data.size ≤ 12 := by
  unfold cellR
  split
  · exact Nat.zero_le _
  · show ((t.extract 1 13).extract 0 (min (byteN t 0) 12)).size ≤ 12
    rw [ByteArray.size_extract]; omega
theorem readPg_small (s : ByteArray) : Small (readPg s) := fun i hi => by
  show (if i < 16 then cellOf s i else noCell).data.size ≤ 12
  rw [if_pos hi]
  exact cellR_size _
theorem fits_of_small {p : Pg} (h : Small p) : Fits p := fun i hi => Nat.le_trans (h i hi) (by decide)
theorem check_size256 {s : ByteArray} (h : checkE s = 0) : s.size = 256 := by
  unfold checkE at h
  split at h
  · cases h
  · rename_i h1; simpa using h1
theorem check_b (s : ByteArray) (n : Int) (h : checkE s = n) (w : World) (hw : TabOk w) :
    Calls Tryd.prog 39 #[.string s] w fun e w' => e = .returned (.int .i64 n) ∧ Below w.heap.size w w' := h ▸ check_any s w hw
theorem encode_b (p : Pg) (t : ByteArray) (n : Int) (ht : encA p = t) (hn : encE p = n) (w : World) (hw : TabOk w) (hc : Fits p) :
    Calls Tryd.prog 11 #[.agg p.arr] w fun e w' => e = .returned (.tuple #[.string t, .int .i64 n]) ∧ Below w.heap.size w w' := by
  have := encode_any p w hw hc
  unfold encT at this
  rwa [ht, hn] at this
theorem decode_no (s : ByteArray) (n : Int) (h : checkE s = n) (hn : (n != 0) = true) (w : World) (hw : TabOk w) :
    Calls Tryd.prog 21 #[.string s] w fun e w' => e = .returned (.tuple #[.agg (newPg 0).arr, .int .i64 n]) ∧ Below w.heap.size w w' := by
  have hz := tab_size hw
  have H1 := Lib.hid (RowAt.newA (newPg 0).arr w 27)
  have B1 : Hid (Below w.heap.size w (w.alloc (.cells (newPg 0).arr 27))) := Lib.hid ((Below.refl _ _).alloc (Nat.le_refl _) _)
  have hb := build_page0
  have H := Lib.hid h
  clear h
  go_enter Tryd.func21, Tryd.ntmps21
  go_wp2_with (first
    | (refine wp_newPage rfl rfl ?_)
    | (refine wp_storePage (newPg 0) H2.out (arr_size _) rfl rfl rfl rfl ?_)
    | (go_at_call 39; (with_reducible refine (check_b s n H.out _ (tab_below hw B1.out hz)).mono ?_); rintro e w1 ⟨rfl, hb1⟩; have H2 := Lib.hid (H1.out.keep hb1); have HB := Lib.hid (B1.out.trans (hb1.mono B1.out.size)); clear hb1))
  refine bodyPost_ret (res_pageE rfl rfl (stored_page (newPg 0) H2.out (arr_size _))) rfl ⟨rfl, ?_⟩
  exact below_setCells _ (Nat.le_refl _) _ _ _ HB.out
set_option maxHeartbeats 1000000 in
theorem decode_odd (s t : ByteArray) (n : Int) (h : checkE s = 0) (ht : encA (readPg s) = t) (hn : encE (readPg s) = n) (h0 : (n != 0) = true) (w : World) (hw : TabOk w) :
    Calls Tryd.prog 21 #[.string s] w fun e w' => e = .returned (.tuple #[.agg (newPg 0).arr, .int .i64 4]) ∧ Below w.heap.size w w' := by
  have hz := tab_size hw
  have hs := check_size256 h
  have hsm := readPg_small s
  have H1 := Lib.hid (RowAt.newA (newPg 0).arr w 27)
  have B1 : Hid (Below w.heap.size w (w.alloc (.cells (newPg 0).arr 27))) := Lib.hid ((Below.refl _ _).alloc (Nat.le_refl _) _)
  have hb := build_page0
  have H := Lib.hid h
  have HT := Lib.hid ht
  have HN := Lib.hid hn
  have HS := Lib.hid hs
  clear h ht hn hs
  go_enter Tryd.func21, Tryd.ntmps21
  go_wp2_with (first
    | (refine wp_newPage rfl rfl ?_)
    | (refine wp_storePage (readPg s) H4.out (arr_size _) rfl rfl rfl rfl ?_; have H6 := Lib.hid (stored_page (readPg s) H4.out (arr_size _)); have H7 := Lib.hid ((H3.out.alloc (.cells (newPg 0).arr 27)).setCellsOther (b' := w2.heap.size) (by have := H3.out.lt; omega) (readPg s).vals 0); have B4 := Lib.hid (below_setCells w2.heap.size B3.out.size (readPg s).vals 0 _ (B3.out.alloc B3.out.size (.cells (newPg 0).arr 27))); clear H4)
    | (refine wp_storePage (newPg 0) H9.out (vals_length _) rfl rfl rfl rfl ?_)
    | (refine wp_loadPage (readPg s) H6.out rfl rfl rfl ?_)
    | (refine wp_loadPage (readPg s) H8.out rfl rfl rfl ?_)
    | (go_at_call 39; (with_reducible refine (check_b s 0 H.out _ (tab_below hw B1.out hz)).mono ?_); rintro e w1 ⟨rfl, hb1⟩; have H2 := Lib.hid (H1.out.keep hb1); have B2 := Lib.hid (B1.out.trans (hb1.mono B1.out.size)); clear hb1 H1)
    | (go_at_call 40; (with_reducible refine (read_any s _ HS.out).mono ?_); rintro e w2 ⟨rfl, hb2⟩; have H3 := Lib.hid (H2.out.keep hb2); have B3 := Lib.hid (B2.out.trans (hb2.mono B2.out.size)); have H4 := Lib.hid (RowAt.newA (newPg 0).arr w2 27); clear hb2 H2)
    | (go_at_call 11; (with_reducible refine (encode_b (readPg s) t n HT.out HN.out _ (tab_below hw B4.out hz) (fits_of_small hsm)).mono ?_); rintro e w3 ⟨rfl, hb3⟩; have H8 := Lib.hid (H6.out.keep hb3); have H9 := Lib.hid (H7.out.keep hb3); have B5 := Lib.hid (B4.out.trans (hb3.mono B4.out.size)); clear hb3 H6 H7))
  refine bodyPost_ret (res_pageE rfl rfl (stored_page (newPg 0) H9.out (vals_length _))) rfl ⟨rfl, ?_⟩
  exact below_setCells _ (Nat.le_refl _) _ _ _ B5.out
set_option maxHeartbeats 1000000 in
theorem decode_form (s t : ByteArray) (n : Int) (h : checkE s = 0) (ht : encA (readPg s) = t) (hn : encE (readPg s) = n) (hne : t ≠ s) (h0 : (n != 0) = false) (w : World) (hw : TabOk w) :
    Calls Tryd.prog 21 #[.string s] w fun e w' => e = .returned (.tuple #[.agg (newPg 0).arr, .int .i64 4]) ∧ Below w.heap.size w w' := by
  have hz := tab_size hw
  have hs := check_size256 h
  have hsm := readPg_small s
  have H1 := Lib.hid (RowAt.newA (newPg 0).arr w 27)
  have B1 : Hid (Below w.heap.size w (w.alloc (.cells (newPg 0).arr 27))) := Lib.hid ((Below.refl _ _).alloc (Nat.le_refl _) _)
  have hb := build_page0
  have h1 := eqL_no hne
  clear hne
  have H := Lib.hid h
  have HT := Lib.hid ht
  have HN := Lib.hid hn
  have HS := Lib.hid hs
  clear h ht hn hs
  go_enter Tryd.func21, Tryd.ntmps21
  go_wp2_with (first
    | (refine wp_newPage rfl rfl ?_)
    | (refine wp_storePage (readPg s) H4.out (arr_size _) rfl rfl rfl rfl ?_; have H6 := Lib.hid (stored_page (readPg s) H4.out (arr_size _)); have H7 := Lib.hid ((H3.out.alloc (.cells (newPg 0).arr 27)).setCellsOther (b' := w2.heap.size) (by have := H3.out.lt; omega) (readPg s).vals 0); have B4 := Lib.hid (below_setCells w2.heap.size B3.out.size (readPg s).vals 0 _ (B3.out.alloc B3.out.size (.cells (newPg 0).arr 27))); clear H4)
    | (refine wp_storePage (newPg 0) H9.out (vals_length _) rfl rfl rfl rfl ?_)
    | (refine wp_loadPage (readPg s) H6.out rfl rfl rfl ?_)
    | (refine wp_loadPage (readPg s) H8.out rfl rfl rfl ?_)
    | (go_at_call 39; (with_reducible refine (check_b s 0 H.out _ (tab_below hw B1.out hz)).mono ?_); rintro e w1 ⟨rfl, hb1⟩; have H2 := Lib.hid (H1.out.keep hb1); have B2 := Lib.hid (B1.out.trans (hb1.mono B1.out.size)); clear hb1 H1)
    | (go_at_call 40; (with_reducible refine (read_any s _ HS.out).mono ?_); rintro e w2 ⟨rfl, hb2⟩; have H3 := Lib.hid (H2.out.keep hb2); have B3 := Lib.hid (B2.out.trans (hb2.mono B2.out.size)); have H4 := Lib.hid (RowAt.newA (newPg 0).arr w2 27); clear hb2 H2)
    | (go_at_call 11; (with_reducible refine (encode_b (readPg s) t n HT.out HN.out _ (tab_below hw B4.out hz) (fits_of_small hsm)).mono ?_); rintro e w3 ⟨rfl, hb3⟩; have H8 := Lib.hid (H6.out.keep hb3); have H9 := Lib.hid (H7.out.keep hb3); have B5 := Lib.hid (B4.out.trans (hb3.mono B4.out.size)); clear hb3 H6 H7))
  refine bodyPost_ret (res_pageE rfl rfl (stored_page (newPg 0) H9.out (vals_length _))) rfl ⟨rfl, ?_⟩
  exact below_setCells _ (Nat.le_refl _) _ _ _ B5.out
set_option maxHeartbeats 1000000 in
theorem decode_yes (s t : ByteArray) (n : Int) (h : checkE s = 0) (ht : encA (readPg s) = t) (hn : encE (readPg s) = n) (hne : t = s) (h0 : (n != 0) = false) (w : World) (hw : TabOk w) :
    Calls Tryd.prog 21 #[.string s] w fun e w' => e = .returned (.tuple #[.agg (readPg s).arr, .int .i64 0]) ∧ Below w.heap.size w w' := by
  have hz := tab_size hw
  have hs := check_size256 h
  have hsm := readPg_small s
  have H1 := Lib.hid (RowAt.newA (newPg 0).arr w 27)
  have B1 : Hid (Below w.heap.size w (w.alloc (.cells (newPg 0).arr 27))) := Lib.hid ((Below.refl _ _).alloc (Nat.le_refl _) _)
  have hb := build_page0
  have h1 := eqL_yes hne
  clear hne
  have H := Lib.hid h
  have HT := Lib.hid ht
  have HN := Lib.hid hn
  have HS := Lib.hid hs
  clear h ht hn hs
  go_enter Tryd.func21, Tryd.ntmps21
  go_wp2_with (first
    | (refine wp_newPage rfl rfl ?_)
    | (refine wp_storePage (readPg s) H4.out (arr_size _) rfl rfl rfl rfl ?_; have H6 := Lib.hid (stored_page (readPg s) H4.out (arr_size _)); have H7 := Lib.hid ((H3.out.alloc (.cells (newPg 0).arr 27)).setCellsOther (b' := w2.heap.size) (by have := H3.out.lt; omega) (readPg s).vals 0); have B4 := Lib.hid (below_setCells w2.heap.size B3.out.size (readPg s).vals 0 _ (B3.out.alloc B3.out.size (.cells (newPg 0).arr 27))); clear H4)
    | (refine wp_storePage (readPg s) H9.out (vals_length _) rfl rfl rfl rfl ?_)
    | (refine wp_loadPage (readPg s) H6.out rfl rfl rfl ?_)
    | (refine wp_loadPage (readPg s) H8.out rfl rfl rfl ?_)
    | (go_at_call 39; (with_reducible refine (check_b s 0 H.out _ (tab_below hw B1.out hz)).mono ?_); rintro e w1 ⟨rfl, hb1⟩; have H2 := Lib.hid (H1.out.keep hb1); have B2 := Lib.hid (B1.out.trans (hb1.mono B1.out.size)); clear hb1 H1)
    | (go_at_call 40; (with_reducible refine (read_any s _ HS.out).mono ?_); rintro e w2 ⟨rfl, hb2⟩; have H3 := Lib.hid (H2.out.keep hb2); have B3 := Lib.hid (B2.out.trans (hb2.mono B2.out.size)); have H4 := Lib.hid (RowAt.newA (newPg 0).arr w2 27); clear hb2 H2)
    | (go_at_call 11; (with_reducible refine (encode_b (readPg s) t n HT.out HN.out _ (tab_below hw B4.out hz) (fits_of_small hsm)).mono ?_); rintro e w3 ⟨rfl, hb3⟩; have H8 := Lib.hid (H6.out.keep hb3); have H9 := Lib.hid (H7.out.keep hb3); have B5 := Lib.hid (B4.out.trans (hb3.mono B4.out.size)); clear hb3 H6 H7))
  refine bodyPost_ret (res_pageE rfl rfl (stored_page (readPg s) H9.out (vals_length _))) rfl ⟨rfl, ?_⟩
  exact below_setCells _ (Nat.le_refl _) _ _ _ B5.out
theorem decode_any (s : ByteArray) (w : World) (hw : TabOk w) :
    Calls Tryd.prog 21 #[.string s] w fun e w' => e = .returned (decT s) ∧ Below w.heap.size w w' := by
  unfold decT decP
  by_cases h : checkE s = 0
  · rcases encE_val (readPg s) with he | he
    · by_cases ht : encA (readPg s) = s
      · have hd : decE s = 0 := by unfold decE; rw [if_pos h, if_pos ⟨ht, he⟩]
        rw [hd, if_pos rfl]
        exact decode_yes s _ _ h rfl he ht rfl w hw
      · have hd : decE s = 4 := by unfold decE; rw [if_pos h, if_neg (fun e => ht e.1)]
        rw [hd, if_neg (by decide)]
        exact decode_form s _ _ h rfl he ht rfl w hw
    · have hd : decE s = 4 := by unfold decE; rw [if_pos h, if_neg (fun e => by rw [e.2] at he; cases he)]
      rw [hd, if_neg (by decide)]
      exact decode_odd s _ _ h rfl rfl he w hw
  · have hd : decE s = checkE s := by unfold decE; rw [if_neg h]
    rw [hd, if_neg h]
    exact decode_no s _ rfl (by simpa using h) w hw

/-- The page that is read where the page id has to be, and the error. -/
def idnE (s : ByteArray) (id : Int) : Int :=
  if idB id = true then (if decE s = 7 then 0 else if decE s = 0 then (if (readPg s).id = id then 0 else 6) else decE s) else 1
def idnP (s : ByteArray) (id : Int) : Pg := if idB id = true ∧ decE s = 7 then newPg id else if idnE s id = 0 then readPg s else newPg 0
def idnT (s : ByteArray) (id : Int) : Value := .tuple #[.agg (idnP s id).arr, .int .i64 (idnE s id)]
theorem validID_b (n : Int) (b : Bool) (h : idB n = b) (w : World) : Calls Tryd.prog 42 #[.int .i64 n] w fun e w' => e = .returned (.bool b) ∧ w = w' := h ▸ validID_any n w
theorem decode_b (s : ByteArray) (p : Pg) (n : Int) (hp : decP s = p) (hn : decE s = n) (w : World) (hw : TabOk w) :
    Calls Tryd.prog 21 #[.string s] w fun e w' => e = .returned (.tuple #[.agg p.arr, .int .i64 n]) ∧ Below w.heap.size w w' := by
  have := decode_any s w hw
  unfold decT at this
  rwa [hp, hn] at this
theorem identify_range (s : ByteArray) (id : Int) (h : idB id = false) (w : World) :
    Calls Tryd.prog 23 #[.string s, .int .i64 id] w fun e w' => e = .returned (.tuple #[.agg (newPg 0).arr, .int .i64 1]) ∧ Below w.heap.size w w' := by
  have H1 := Lib.hid (RowAt.newA (newPg 0).arr w 27)
  have B1 : Hid (Below w.heap.size w (w.alloc (.cells (newPg 0).arr 27))) := Lib.hid ((Below.refl _ _).alloc (Nat.le_refl _) _)
  have hb := build_page0
  have H := Lib.hid h
  clear h
  go_enter Tryd.func23, Tryd.ntmps23
  go_wp2_with (first
    | (refine wp_newPage rfl rfl ?_)
    | (refine wp_storePage (newPg 0) H1.out (arr_size _) rfl rfl rfl rfl ?_)
    | (go_at_call 42; (with_reducible refine (validID_b id false H.out _).mono ?_); rintro e w1 ⟨rfl, rfl⟩))
  refine bodyPost_ret (res_pageE rfl rfl (stored_page (newPg 0) H1.out (arr_size _))) rfl ⟨rfl, ?_⟩
  exact below_setCells _ (Nat.le_refl _) _ _ _ B1.out
set_option maxHeartbeats 1000000 in
theorem identify_blank (s : ByteArray) (id : Int) (p : Pg) (n : Int) (h : idB id = true) (hp : decP s = p) (hn : decE s = n) (h7 : n = 7) (w : World) (hw : TabOk w) :
    Calls Tryd.prog 23 #[.string s, .int .i64 id] w fun e w' => e = .returned (.tuple #[.agg (newPg id).arr, .int .i64 0]) ∧ Below w.heap.size w w' := by
  have hz := tab_size hw
  have H1 := Lib.hid (RowAt.newA (newPg 0).arr w 27)
  have B1 : Hid (Below w.heap.size w (w.alloc (.cells (newPg 0).arr 27))) := Lib.hid ((Below.refl _ _).alloc (Nat.le_refl _) _)
  have hb := build_page0
  have H := Lib.hid h
  have HP := Lib.hid hp
  have HN := Lib.hid hn
  have h8 : (n == 7) = true := by rw [h7]; rfl
  clear h7
  clear h hp hn
  go_enter Tryd.func23, Tryd.ntmps23
  go_wp2_with (first
    | (refine wp_newPage rfl rfl ?_)
    | (refine wp_storePage p H4.out (arr_size _) rfl rfl rfl rfl ?_; have H6 := Lib.hid (stored_page p H4.out (arr_size _)); have H7 := Lib.hid ((H3.out.alloc (.cells (newPg 0).arr 27)).setCellsOther (b' := w2.heap.size) (by have := H3.out.lt; omega) p.vals 0); have B4 := Lib.hid (below_setCells w2.heap.size B3.out.size p.vals 0 _ (B3.out.alloc B3.out.size (.cells (newPg 0).arr 27))); have h6 := PgAt.idAt H6.out; clear H4)
    | (refine wp_storePage (newPg id) H8.out (vals_length _) rfl rfl rfl rfl ?_)
    | (refine wp_storePage (newPg id) H7.out (vals_length _) rfl rfl rfl rfl ?_)
    | (refine wp_loadPage p H6.out rfl rfl rfl ?_)
    | (go_at_call 42; (with_reducible refine (validID_b id true H.out _).mono ?_); rintro e w1 ⟨rfl, rfl⟩)
    | (go_at_call 21; (with_reducible refine (decode_b s p n HP.out HN.out _ (tab_below hw B1.out hz)).mono ?_); rintro e w2 ⟨rfl, hb2⟩; have H3 := Lib.hid (H1.out.keep hb2); have B3 := Lib.hid (B1.out.trans (hb2.mono B1.out.size)); have H4 := Lib.hid (RowAt.newA (newPg 0).arr w2 27); clear hb2 H1)
    | (go_at_call 15; (with_reducible refine (new_any id _).mono ?_); rintro e w3 ⟨rfl, hb3⟩; have H8 := Lib.hid (H7.out.keep hb3); have B5 := Lib.hid (B4.out.trans (hb3.mono B4.out.size)); clear hb3 H7))
  refine bodyPost_ret (res_pageE rfl rfl (stored_page (newPg id) H8.out (vals_length _))) rfl ⟨rfl, ?_⟩
  exact below_setCells _ (Nat.le_refl _) _ _ _ B5.out
set_option maxHeartbeats 1000000 in
theorem identify_err (s : ByteArray) (id : Int) (p : Pg) (n : Int) (h : idB id = true) (hp : decP s = p) (hn : decE s = n) (h7 : n ≠ 7) (h0 : n ≠ 0) (w : World) (hw : TabOk w) :
    Calls Tryd.prog 23 #[.string s, .int .i64 id] w fun e w' => e = .returned (.tuple #[.agg (newPg 0).arr, .int .i64 n]) ∧ Below w.heap.size w w' := by
  have hz := tab_size hw
  have H1 := Lib.hid (RowAt.newA (newPg 0).arr w 27)
  have B1 : Hid (Below w.heap.size w (w.alloc (.cells (newPg 0).arr 27))) := Lib.hid ((Below.refl _ _).alloc (Nat.le_refl _) _)
  have hb := build_page0
  have H := Lib.hid h
  have HP := Lib.hid hp
  have HN := Lib.hid hn
  have h8 : (n == 7) = false := by simpa using h7
  have h9 : (n != 0) = true := by simpa using h0
  clear h7 h0
  clear h hp hn
  go_enter Tryd.func23, Tryd.ntmps23
  go_wp2_with (first
    | (refine wp_newPage rfl rfl ?_)
    | (refine wp_storePage p H4.out (arr_size _) rfl rfl rfl rfl ?_; have H6 := Lib.hid (stored_page p H4.out (arr_size _)); have H7 := Lib.hid ((H3.out.alloc (.cells (newPg 0).arr 27)).setCellsOther (b' := w2.heap.size) (by have := H3.out.lt; omega) p.vals 0); have B4 := Lib.hid (below_setCells w2.heap.size B3.out.size p.vals 0 _ (B3.out.alloc B3.out.size (.cells (newPg 0).arr 27))); have h6 := PgAt.idAt H6.out; clear H4)
    | (refine wp_storePage (newPg 0) H8.out (vals_length _) rfl rfl rfl rfl ?_)
    | (refine wp_storePage (newPg 0) H7.out (vals_length _) rfl rfl rfl rfl ?_)
    | (refine wp_loadPage p H6.out rfl rfl rfl ?_)
    | (go_at_call 42; (with_reducible refine (validID_b id true H.out _).mono ?_); rintro e w1 ⟨rfl, rfl⟩)
    | (go_at_call 21; (with_reducible refine (decode_b s p n HP.out HN.out _ (tab_below hw B1.out hz)).mono ?_); rintro e w2 ⟨rfl, hb2⟩; have H3 := Lib.hid (H1.out.keep hb2); have B3 := Lib.hid (B1.out.trans (hb2.mono B1.out.size)); have H4 := Lib.hid (RowAt.newA (newPg 0).arr w2 27); clear hb2 H1)
    | (go_at_call 15; (with_reducible refine (new_any id _).mono ?_); rintro e w3 ⟨rfl, hb3⟩; have H8 := Lib.hid (H7.out.keep hb3); have B5 := Lib.hid (B4.out.trans (hb3.mono B4.out.size)); clear hb3 H7))
  refine bodyPost_ret (res_pageE rfl rfl (stored_page (newPg 0) H7.out (vals_length _))) rfl ⟨rfl, ?_⟩
  exact below_setCells _ (Nat.le_refl _) _ _ _ B4.out
set_option maxHeartbeats 1000000 in
theorem identify_other (s : ByteArray) (id : Int) (p : Pg) (n : Int) (h : idB id = true) (hp : decP s = p) (hn : decE s = n) (h0 : n = 0) (hi : p.id ≠ id) (w : World) (hw : TabOk w) :
    Calls Tryd.prog 23 #[.string s, .int .i64 id] w fun e w' => e = .returned (.tuple #[.agg (newPg 0).arr, .int .i64 6]) ∧ Below w.heap.size w w' := by
  have hz := tab_size hw
  have H1 := Lib.hid (RowAt.newA (newPg 0).arr w 27)
  have B1 : Hid (Below w.heap.size w (w.alloc (.cells (newPg 0).arr 27))) := Lib.hid ((Below.refl _ _).alloc (Nat.le_refl _) _)
  have hb := build_page0
  have H := Lib.hid h
  have HP := Lib.hid hp
  have HN := Lib.hid hn
  have h8 : (n == 7) = false := by rw [h0]; rfl
  have h9 : (n != 0) = false := by rw [h0]; rfl
  have h10 : (p.id != id) = true := by simpa using hi
  clear h0 hi
  clear h hp hn
  go_enter Tryd.func23, Tryd.ntmps23
  go_wp2_with (first
    | (refine wp_newPage rfl rfl ?_)
    | (refine wp_storePage p H4.out (arr_size _) rfl rfl rfl rfl ?_; have H6 := Lib.hid (stored_page p H4.out (arr_size _)); have H7 := Lib.hid ((H3.out.alloc (.cells (newPg 0).arr 27)).setCellsOther (b' := w2.heap.size) (by have := H3.out.lt; omega) p.vals 0); have B4 := Lib.hid (below_setCells w2.heap.size B3.out.size p.vals 0 _ (B3.out.alloc B3.out.size (.cells (newPg 0).arr 27))); have h6 := PgAt.idAt H6.out; clear H4)
    | (refine wp_storePage (newPg 0) H8.out (vals_length _) rfl rfl rfl rfl ?_)
    | (refine wp_storePage (newPg 0) H7.out (vals_length _) rfl rfl rfl rfl ?_)
    | (refine wp_loadPage p H6.out rfl rfl rfl ?_)
    | (go_at_call 42; (with_reducible refine (validID_b id true H.out _).mono ?_); rintro e w1 ⟨rfl, rfl⟩)
    | (go_at_call 21; (with_reducible refine (decode_b s p n HP.out HN.out _ (tab_below hw B1.out hz)).mono ?_); rintro e w2 ⟨rfl, hb2⟩; have H3 := Lib.hid (H1.out.keep hb2); have B3 := Lib.hid (B1.out.trans (hb2.mono B1.out.size)); have H4 := Lib.hid (RowAt.newA (newPg 0).arr w2 27); clear hb2 H1)
    | (go_at_call 15; (with_reducible refine (new_any id _).mono ?_); rintro e w3 ⟨rfl, hb3⟩; have H8 := Lib.hid (H7.out.keep hb3); have B5 := Lib.hid (B4.out.trans (hb3.mono B4.out.size)); clear hb3 H7))
  refine bodyPost_ret (res_pageE rfl rfl (stored_page (newPg 0) H7.out (vals_length _))) rfl ⟨rfl, ?_⟩
  exact below_setCells _ (Nat.le_refl _) _ _ _ B4.out
set_option maxHeartbeats 1000000 in
theorem identify_yes (s : ByteArray) (id : Int) (p : Pg) (n : Int) (h : idB id = true) (hp : decP s = p) (hn : decE s = n) (h0 : n = 0) (hi : p.id = id) (w : World) (hw : TabOk w) :
    Calls Tryd.prog 23 #[.string s, .int .i64 id] w fun e w' => e = .returned (.tuple #[.agg (p).arr, .int .i64 0]) ∧ Below w.heap.size w w' := by
  have hz := tab_size hw
  have H1 := Lib.hid (RowAt.newA (newPg 0).arr w 27)
  have B1 : Hid (Below w.heap.size w (w.alloc (.cells (newPg 0).arr 27))) := Lib.hid ((Below.refl _ _).alloc (Nat.le_refl _) _)
  have hb := build_page0
  have H := Lib.hid h
  have HP := Lib.hid hp
  have HN := Lib.hid hn
  have h8 : (n == 7) = false := by rw [h0]; rfl
  have h9 : (n != 0) = false := by rw [h0]; rfl
  have h10 : (p.id != id) = false := by simpa using hi
  clear h0 hi
  clear h hp hn
  go_enter Tryd.func23, Tryd.ntmps23
  go_wp2_with (first
    | (refine wp_newPage rfl rfl ?_)
    | (refine wp_storePage p H4.out (arr_size _) rfl rfl rfl rfl ?_; have H6 := Lib.hid (stored_page p H4.out (arr_size _)); have H7 := Lib.hid ((H3.out.alloc (.cells (newPg 0).arr 27)).setCellsOther (b' := w2.heap.size) (by have := H3.out.lt; omega) p.vals 0); have B4 := Lib.hid (below_setCells w2.heap.size B3.out.size p.vals 0 _ (B3.out.alloc B3.out.size (.cells (newPg 0).arr 27))); have h6 := PgAt.idAt H6.out; clear H4)
    | (refine wp_storePage (p) H8.out (vals_length _) rfl rfl rfl rfl ?_)
    | (refine wp_storePage (p) H7.out (vals_length _) rfl rfl rfl rfl ?_)
    | (refine wp_loadPage p H6.out rfl rfl rfl ?_)
    | (go_at_call 42; (with_reducible refine (validID_b id true H.out _).mono ?_); rintro e w1 ⟨rfl, rfl⟩)
    | (go_at_call 21; (with_reducible refine (decode_b s p n HP.out HN.out _ (tab_below hw B1.out hz)).mono ?_); rintro e w2 ⟨rfl, hb2⟩; have H3 := Lib.hid (H1.out.keep hb2); have B3 := Lib.hid (B1.out.trans (hb2.mono B1.out.size)); have H4 := Lib.hid (RowAt.newA (newPg 0).arr w2 27); clear hb2 H1)
    | (go_at_call 15; (with_reducible refine (new_any id _).mono ?_); rintro e w3 ⟨rfl, hb3⟩; have H8 := Lib.hid (H7.out.keep hb3); have B5 := Lib.hid (B4.out.trans (hb3.mono B4.out.size)); clear hb3 H7))
  refine bodyPost_ret (res_pageE rfl rfl (stored_page (p) H7.out (vals_length _))) rfl ⟨rfl, ?_⟩
  exact below_setCells _ (Nat.le_refl _) _ _ _ B4.out
theorem identify_any (s : ByteArray) (id : Int) (w : World) (hw : TabOk w) :
    Calls Tryd.prog 23 #[.string s, .int .i64 id] w fun e w' => e = .returned (idnT s id) ∧ Below w.heap.size w w' := by
  unfold idnT
  cases hi : idB id
  · have e1 : idnE s id = 1 := by unfold idnE; rw [hi]; rfl
    have e2 : idnP s id = newPg 0 := by unfold idnP; rw [hi, if_neg (fun e => by cases e.1), e1, if_neg (by decide)]
    rw [e1, e2]
    exact identify_range s id hi w
  · by_cases h7 : decE s = 7
    · have e1 : idnE s id = 0 := by unfold idnE; rw [hi, if_pos rfl, if_pos h7]
      have e2 : idnP s id = newPg id := by unfold idnP; rw [hi, if_pos ⟨rfl, h7⟩]
      rw [e1, e2]
      exact identify_blank s id _ _ hi rfl h7 rfl w hw
    · by_cases h0 : decE s = 0
      · have hp : decP s = readPg s := by unfold decP; rw [if_pos h0]
        by_cases hid : (readPg s).id = id
        · have e1 : idnE s id = 0 := by unfold idnE; rw [hi, if_pos rfl, if_neg h7, if_pos h0, if_pos hid]
          have e2 : idnP s id = readPg s := by unfold idnP; rw [hi, if_neg (fun e => h7 e.2), e1, if_pos rfl]
          rw [e1, e2]
          exact identify_yes s id _ _ hi hp h0 rfl hid w hw
        · have e1 : idnE s id = 6 := by unfold idnE; rw [hi, if_pos rfl, if_neg h7, if_pos h0, if_neg hid]
          have e2 : idnP s id = newPg 0 := by unfold idnP; rw [hi, if_neg (fun e => h7 e.2), e1, if_neg (by decide)]
          rw [e1, e2]
          exact identify_other s id _ _ hi hp h0 rfl hid w hw
      · have e1 : idnE s id = decE s := by unfold idnE; rw [hi, if_pos rfl, if_neg h7, if_neg h0]
        have e2 : idnP s id = newPg 0 := by unfold idnP; rw [hi, if_neg (fun e => h7 e.2), e1, if_neg h0]
        rw [e1, e2]
        exact identify_err s id _ _ hi rfl rfl h7 h0 w hw
end Go.Proofs.YtkcgcddpgfcgiaaDoor.dj
