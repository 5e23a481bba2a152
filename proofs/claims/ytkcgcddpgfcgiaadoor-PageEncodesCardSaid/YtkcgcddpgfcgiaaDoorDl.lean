/- What the bytes of a page mean where a page has to be: the reference's Identify. -/
import Derived.Test.YtkcgcddpgfcgiaaDoorDk
namespace Go.Proofs.YtkcgcddpgfcgiaaDoor.dl
open Go.ChangeShapes Go.WideShapes Go.ChangeAt Go.RowKit Go.Proofs.YtkcgcddpgfcgiaaDoor.cm Go.Proofs.YtkcgcddpgfcgiaaDoor.cw Go.Proofs.YtkcgcddpgfcgiaaDoor.cp Go.Proofs.YtkcgcddpgfcgiaaDoor.cg Go.Proofs.YtkcgcddpgfcgiaaDoor.ch Go.Proofs.YtkcgcddpgfcgiaaDoor.ra Go.Proofs.YtkcgcddpgfcgiaaDoor.rb Go.Proofs.YtkcgcddpgfcgiaaDoor.rc Go.Proofs.YtkcgcddpgfcgiaaDoor.da Go.Proofs.YtkcgcddpgfcgiaaDoor.db Go.Proofs.YtkcgcddpgfcgiaaDoor.dc Go.Proofs.YtkcgcddpgfcgiaaDoor.dd Go.Proofs.YtkcgcddpgfcgiaaDoor.de Go.Proofs.YtkcgcddpgfcgiaaDoor.df Go.Proofs.YtkcgcddpgfcgiaaDoor.dg Go.Proofs.YtkcgcddpgfcgiaaDoor.dh Go.Proofs.YtkcgcddpgfcgiaaDoor.di Go.Proofs.YtkcgcddpgfcgiaaDoor.dj Go.Proofs.YtkcgcddpgfcgiaaDoor.dk

theorem refDecode_b (s : ByteArray) (p : Pg) (n : Int) (hp : decP s = p) (hn : decE s = n) (w : World) (hw : TabOk w) :
    Calls Tryd.prog 22 #[.string s] w fun e w' => e = .returned (.tuple #[.agg p.arr, .int .i64 n]) ∧ Below w.heap.size w w' := by
  have := refDecode_any s w hw
  unfold decT at this
  rwa [hp, hn] at this
theorem refIdentify_range (s : ByteArray) (id : Int) (h : id < 0 ∨ 64 ≤ id) (w : World) :
    Calls Tryd.prog 24 #[.string s, .int .i64 id] w fun e w' => e = .returned (.tuple #[.agg (newPg 0).arr, .int .i64 1]) ∧ Below w.heap.size w w' := by
  have H1 := Lib.hid (RowAt.newA (newPg 0).arr w 27)
  have B1 : Hid (Below w.heap.size w (w.alloc (.cells (newPg 0).arr 27))) := Lib.hid ((Below.refl _ _).alloc (Nat.le_refl _) _)
  have hb := build_page0
  by_cases h0 : id < 0
  · clear h
    go_enter Tryd.func24, Tryd.ntmps24
    go_wp2_with (first
      | (refine wp_newPage rfl rfl ?_)
      | (refine wp_storePage (newPg 0) H1.out (arr_size _) rfl rfl rfl rfl ?_))
    refine bodyPost_ret (res_pageE rfl rfl (stored_page (newPg 0) H1.out (arr_size _))) rfl ⟨rfl, ?_⟩
    exact below_setCells _ (Nat.le_refl _) _ _ _ B1.out
  · have h1 : 64 ≤ id := by omega
    have hd : decide (id < 0) = false := by simpa using h0
    clear h
    go_enter Tryd.func24, Tryd.ntmps24
    go_wp2_with (first
      | (refine wp_newPage rfl rfl ?_)
      | (refine wp_storePage (newPg 0) H1.out (arr_size _) rfl rfl rfl rfl ?_))
    refine bodyPost_ret (res_pageE rfl rfl (stored_page (newPg 0) H1.out (arr_size _))) rfl ⟨rfl, ?_⟩
    exact below_setCells _ (Nat.le_refl _) _ _ _ B1.out
set_option maxHeartbeats 1000000 in
theorem refIdentify_blank (s : ByteArray) (id : Int) (p : Pg) (n : Int) (hlo : 0 ≤ id) (hhi : id < 64) (hp : decP s = p) (hn : decE s = n) (h7 : n = 7) (w : World) (hw : TabOk w) :
    Calls Tryd.prog 24 #[.string s, .int .i64 id] w fun e w' => e = .returned (.tuple #[.agg (newPg id).arr, .int .i64 0]) ∧ Below w.heap.size w w' := by
  have hz := tab_size hw
  have H1 := Lib.hid (RowAt.newA (newPg 0).arr w 27)
  have B1 : Hid (Below w.heap.size w (w.alloc (.cells (newPg 0).arr 27))) := Lib.hid ((Below.refl _ _).alloc (Nat.le_refl _) _)
  have hb := build_page0
  have HP := Lib.hid hp
  have HN := Lib.hid hn
  have d1 : decide (id < 0) = false := by simp; omega
  have d2 : decide (64 ≤ id) = false := by simp; omega
  have h8 : (n == 7) = true := by rw [h7]; rfl
  clear h7
  clear hp hn
  go_enter Tryd.func24, Tryd.ntmps24
  go_wp2_with (first
    | (refine wp_newPage rfl rfl ?_)
    | (refine wp_storePage p H4.out (arr_size _) rfl rfl rfl rfl ?_; have H6 := Lib.hid (stored_page p H4.out (arr_size _)); have H7 := Lib.hid ((H3.out.alloc (.cells (newPg 0).arr 27)).setCellsOther (b' := w2.heap.size) (by have := H3.out.lt; omega) p.vals 0); have B4 := Lib.hid (below_setCells w2.heap.size B3.out.size p.vals 0 _ (B3.out.alloc B3.out.size (.cells (newPg 0).arr 27))); have h6 := PgAt.idAt H6.out; clear H4)
    | (refine wp_storePage (newPg id) H8.out (vals_length _) rfl rfl rfl rfl ?_)
    | (refine wp_storePage (newPg id) H7.out (vals_length _) rfl rfl rfl rfl ?_)
    | (refine wp_loadPage p H6.out rfl rfl rfl ?_)
    | (go_at_call 22; (with_reducible refine (refDecode_b s p n HP.out HN.out _ (tab_below hw B1.out hz)).mono ?_); rintro e w2 ⟨rfl, hb2⟩; have H3 := Lib.hid (H1.out.keep hb2); have B3 := Lib.hid (B1.out.trans (hb2.mono B1.out.size)); have H4 := Lib.hid (RowAt.newA (newPg 0).arr w2 27); clear hb2 H1)
    | (go_at_call 16; (with_reducible refine (refNew_any id _).mono ?_); rintro e w3 ⟨rfl, hb3⟩; have H8 := Lib.hid (H7.out.keep hb3); have B5 := Lib.hid (B4.out.trans (hb3.mono B4.out.size)); clear hb3 H7))
  refine bodyPost_ret (res_pageE rfl rfl (stored_page (newPg id) H8.out (vals_length _))) rfl ⟨rfl, ?_⟩
  exact below_setCells _ (Nat.le_refl _) _ _ _ B5.out
set_option maxHeartbeats 1000000 in
theorem refIdentify_err (s : ByteArray) (id : Int) (p : Pg) (n : Int) (hlo : 0 ≤ id) (hhi : id < 64) (hp : decP s = p) (hn : decE s = n) (h7 : n ≠ 7) (h0 : n ≠ 0) (w : World) (hw : TabOk w) :
    Calls Tryd.prog 24 #[.string s, .int .i64 id] w fun e w' => e = .returned (.tuple #[.agg (p).arr, .int .i64 n]) ∧ Below w.heap.size w w' := by
  have hz := tab_size hw
  have H1 := Lib.hid (RowAt.newA (newPg 0).arr w 27)
  have B1 : Hid (Below w.heap.size w (w.alloc (.cells (newPg 0).arr 27))) := Lib.hid ((Below.refl _ _).alloc (Nat.le_refl _) _)
  have hb := build_page0
  have HP := Lib.hid hp
  have HN := Lib.hid hn
  have d1 : decide (id < 0) = false := by simp; omega
  have d2 : decide (64 ≤ id) = false := by simp; omega
  have h8 : (n == 7) = false := by simpa using h7
  have h9 : (n == 0) = false := by simpa using h0
  clear h7 h0
  clear hp hn
  go_enter Tryd.func24, Tryd.ntmps24
  go_wp2_with (first
    | (refine wp_newPage rfl rfl ?_)
    | (refine wp_storePage p H4.out (arr_size _) rfl rfl rfl rfl ?_; have H6 := Lib.hid (stored_page p H4.out (arr_size _)); have H7 := Lib.hid ((H3.out.alloc (.cells (newPg 0).arr 27)).setCellsOther (b' := w2.heap.size) (by have := H3.out.lt; omega) p.vals 0); have B4 := Lib.hid (below_setCells w2.heap.size B3.out.size p.vals 0 _ (B3.out.alloc B3.out.size (.cells (newPg 0).arr 27))); have h6 := PgAt.idAt H6.out; clear H4)
    | (refine wp_storePage (p) H8.out (vals_length _) rfl rfl rfl rfl ?_)
    | (refine wp_storePage (p) H7.out (vals_length _) rfl rfl rfl rfl ?_)
    | (refine wp_loadPage p H6.out rfl rfl rfl ?_)
    | (go_at_call 22; (with_reducible refine (refDecode_b s p n HP.out HN.out _ (tab_below hw B1.out hz)).mono ?_); rintro e w2 ⟨rfl, hb2⟩; have H3 := Lib.hid (H1.out.keep hb2); have B3 := Lib.hid (B1.out.trans (hb2.mono B1.out.size)); have H4 := Lib.hid (RowAt.newA (newPg 0).arr w2 27); clear hb2 H1)
    | (go_at_call 16; (with_reducible refine (refNew_any id _).mono ?_); rintro e w3 ⟨rfl, hb3⟩; have H8 := Lib.hid (H7.out.keep hb3); have B5 := Lib.hid (B4.out.trans (hb3.mono B4.out.size)); clear hb3 H7))
  refine bodyPost_ret (res_pageE rfl rfl (stored_page (p) H7.out (vals_length _))) rfl ⟨rfl, ?_⟩
  exact below_setCells _ (Nat.le_refl _) _ _ _ B4.out
set_option maxHeartbeats 1000000 in
theorem refIdentify_other (s : ByteArray) (id : Int) (p : Pg) (n : Int) (hlo : 0 ≤ id) (hhi : id < 64) (hp : decP s = p) (hn : decE s = n) (h0 : n = 0) (hi : p.id ≠ id) (w : World) (hw : TabOk w) :
    Calls Tryd.prog 24 #[.string s, .int .i64 id] w fun e w' => e = .returned (.tuple #[.agg (newPg 0).arr, .int .i64 6]) ∧ Below w.heap.size w w' := by
  have hz := tab_size hw
  have H1 := Lib.hid (RowAt.newA (newPg 0).arr w 27)
  have B1 : Hid (Below w.heap.size w (w.alloc (.cells (newPg 0).arr 27))) := Lib.hid ((Below.refl _ _).alloc (Nat.le_refl _) _)
  have hb := build_page0
  have HP := Lib.hid hp
  have HN := Lib.hid hn
  have d1 : decide (id < 0) = false := by simp; omega
  have d2 : decide (64 ≤ id) = false := by simp; omega
  have h8 : (n == 7) = false := by rw [h0]; rfl
  have h9 : (n == 0) = true := by rw [h0]; rfl
  have h10 : (p.id != id) = true := by simpa using hi
  clear h0 hi
  clear hp hn
  go_enter Tryd.func24, Tryd.ntmps24
  go_wp2_with (first
    | (refine wp_newPage rfl rfl ?_)
    | (refine wp_storePage p H4.out (arr_size _) rfl rfl rfl rfl ?_; have H6 := Lib.hid (stored_page p H4.out (arr_size _)); have H7 := Lib.hid ((H3.out.alloc (.cells (newPg 0).arr 27)).setCellsOther (b' := w2.heap.size) (by have := H3.out.lt; omega) p.vals 0); have B4 := Lib.hid (below_setCells w2.heap.size B3.out.size p.vals 0 _ (B3.out.alloc B3.out.size (.cells (newPg 0).arr 27))); have h6 := PgAt.idAt H6.out; clear H4)
    | (refine wp_storePage (newPg 0) H8.out (vals_length _) rfl rfl rfl rfl ?_)
    | (refine wp_storePage (newPg 0) H7.out (vals_length _) rfl rfl rfl rfl ?_)
    | (refine wp_loadPage p H6.out rfl rfl rfl ?_)
    | (go_at_call 22; (with_reducible refine (refDecode_b s p n HP.out HN.out _ (tab_below hw B1.out hz)).mono ?_); rintro e w2 ⟨rfl, hb2⟩; have H3 := Lib.hid (H1.out.keep hb2); have B3 := Lib.hid (B1.out.trans (hb2.mono B1.out.size)); have H4 := Lib.hid (RowAt.newA (newPg 0).arr w2 27); clear hb2 H1)
    | (go_at_call 16; (with_reducible refine (refNew_any id _).mono ?_); rintro e w3 ⟨rfl, hb3⟩; have H8 := Lib.hid (H7.out.keep hb3); have B5 := Lib.hid (B4.out.trans (hb3.mono B4.out.size)); clear hb3 H7))
  refine bodyPost_ret (res_pageE rfl rfl (stored_page (newPg 0) H7.out (vals_length _))) rfl ⟨rfl, ?_⟩
  exact below_setCells _ (Nat.le_refl _) _ _ _ B4.out
set_option maxHeartbeats 1000000 in
theorem refIdentify_yes (s : ByteArray) (id : Int) (p : Pg) (n : Int) (hlo : 0 ≤ id) (hhi : id < 64) (hp : decP s = p) (hn : decE s = n) (h0 : n = 0) (hi : p.id = id) (w : World) (hw : TabOk w) :
    Calls Tryd.prog 24 #[.string s, .int .i64 id] w fun e w' => e = .returned (.tuple #[.agg (p).arr, .int .i64 n]) ∧ Below w.heap.size w w' := by
  have hz := tab_size hw
  have H1 := Lib.hid (RowAt.newA (newPg 0).arr w 27)
  have B1 : Hid (Below w.heap.size w (w.alloc (.cells (newPg 0).arr 27))) := Lib.hid ((Below.refl _ _).alloc (Nat.le_refl _) _)
  have hb := build_page0
  have HP := Lib.hid hp
  have HN := Lib.hid hn
  have d1 : decide (id < 0) = false := by simp; omega
  have d2 : decide (64 ≤ id) = false := by simp; omega
  have h8 : (n == 7) = false := by rw [h0]; rfl
  have h9 : (n == 0) = true := by rw [h0]; rfl
  have h10 : (p.id != id) = false := by simpa using hi
  clear h0 hi
  clear hp hn
  go_enter Tryd.func24, Tryd.ntmps24
  go_wp2_with (first
    | (refine wp_newPage rfl rfl ?_)
    | (refine wp_storePage p H4.out (arr_size _) rfl rfl rfl rfl ?_; have H6 := Lib.hid (stored_page p H4.out (arr_size _)); have H7 := Lib.hid ((H3.out.alloc (.cells (newPg 0).arr 27)).setCellsOther (b' := w2.heap.size) (by have := H3.out.lt; omega) p.vals 0); have B4 := Lib.hid (below_setCells w2.heap.size B3.out.size p.vals 0 _ (B3.out.alloc B3.out.size (.cells (newPg 0).arr 27))); have h6 := PgAt.idAt H6.out; clear H4)
    | (refine wp_storePage (p) H8.out (vals_length _) rfl rfl rfl rfl ?_)
    | (refine wp_storePage (p) H7.out (vals_length _) rfl rfl rfl rfl ?_)
    | (refine wp_loadPage p H6.out rfl rfl rfl ?_)
    | (go_at_call 22; (with_reducible refine (refDecode_b s p n HP.out HN.out _ (tab_below hw B1.out hz)).mono ?_); rintro e w2 ⟨rfl, hb2⟩; have H3 := Lib.hid (H1.out.keep hb2); have B3 := Lib.hid (B1.out.trans (hb2.mono B1.out.size)); have H4 := Lib.hid (RowAt.newA (newPg 0).arr w2 27); clear hb2 H1)
    | (go_at_call 16; (with_reducible refine (refNew_any id _).mono ?_); rintro e w3 ⟨rfl, hb3⟩; have H8 := Lib.hid (H7.out.keep hb3); have B5 := Lib.hid (B4.out.trans (hb3.mono B4.out.size)); clear hb3 H7))
  refine bodyPost_ret (res_pageE rfl rfl (stored_page (p) H7.out (vals_length _))) rfl ⟨rfl, ?_⟩
  exact below_setCells _ (Nat.le_refl _) _ _ _ B4.out
theorem refIdentify_any (s : ByteArray) (id : Int) (w : World) (hw : TabOk w) :
    Calls Tryd.prog 24 #[.string s, .int .i64 id] w fun e w' => e = .returned (idnT s id) ∧ Below w.heap.size w w' := by
  unfold idnT
  cases hi : idB id
  · have e1 : idnE s id = 1 := by unfold idnE; rw [hi]; rfl
    have e2 : idnP s id = newPg 0 := by unfold idnP; rw [hi, if_neg (fun e => by cases e.1), e1, if_neg (by decide)]
    rw [e1, e2]
    exact refIdentify_range s id (by unfold idB at hi; simp at hi; omega) w
  · have hr : 0 ≤ id ∧ id < 64 := by unfold idB at hi; simpa using hi
    by_cases h7 : decE s = 7
    · have e1 : idnE s id = 0 := by unfold idnE; rw [hi, if_pos rfl, if_pos h7]
      have e2 : idnP s id = newPg id := by unfold idnP; rw [hi, if_pos ⟨rfl, h7⟩]
      rw [e1, e2]
      exact refIdentify_blank s id _ _ hr.1 hr.2 rfl h7 rfl w hw
    · by_cases h0 : decE s = 0
      · have hp : decP s = readPg s := by unfold decP; rw [if_pos h0]
        by_cases hid : (readPg s).id = id
        · have e1 : idnE s id = 0 := by unfold idnE; rw [hi, if_pos rfl, if_neg h7, if_pos h0, if_pos hid]
          have e2 : idnP s id = readPg s := by unfold idnP; rw [hi, if_neg (fun e => h7 e.2), e1, if_pos rfl]
          rw [e1, e2]
          exact refIdentify_yes s id _ _ hr.1 hr.2 hp h0 rfl hid w hw
        · have e1 : idnE s id = 6 := by unfold idnE; rw [hi, if_pos rfl, if_neg h7, if_pos h0, if_neg hid]
          have e2 : idnP s id = newPg 0 := by unfold idnP; rw [hi, if_neg (fun e => h7 e.2), e1, if_neg (by decide)]
          rw [e1, e2]
          exact refIdentify_other s id _ _ hr.1 hr.2 hp h0 rfl hid w hw
      · have e1 : idnE s id = decE s := by unfold idnE; rw [hi, if_pos rfl, if_neg h7, if_neg h0]
        have e2 : idnP s id = newPg 0 := by unfold idnP; rw [hi, if_neg (fun e => h7 e.2), e1, if_neg h0]
        have hp : decP s = newPg 0 := by unfold decP; rw [if_neg h0]
        rw [e1, e2]
        exact refIdentify_err s id _ _ hr.1 hr.2 hp rfl h7 h0 w hw
end Go.Proofs.YtkcgcddpgfcgiaaDoor.dl
