/- The bytes of a cell and of an entry: the program and the reference. -/
import Derived.Test.YtmlclccfmlcabaaDoorOd
import Derived.Test.YtmlclccfmlcabaaDoorCp
namespace Go.Proofs.YtmlclccfmlcabaaDoor.oh
open Go.ChangeShapes Go.WideShapes Go.ChangeAt Go.RowKit Go.Proofs.YtmlclccfmlcabaaDoor.cp Go.Proofs.YtmlclccfmlcabaaDoor.cx Go.Proofs.YtmlclccfmlcabaaDoor.ra Go.Proofs.YtmlclccfmlcabaaDoor.rb Go.Proofs.YtmlclccfmlcabaaDoor.rc Go.Proofs.YtmlclccfmlcabaaDoor.da Go.Proofs.YtmlclccfmlcabaaDoor.ea Go.Proofs.YtmlclccfmlcabaaDoor.eb Go.Proofs.YtmlclccfmlcabaaDoor.ed Go.Proofs.YtmlclccfmlcabaaDoor.fb Go.Proofs.YtmlclccfmlcabaaDoor.ka Go.Proofs.YtmlclccfmlcabaaDoor.kb Go.Proofs.YtmlclccfmlcabaaDoor.kg Go.Proofs.YtmlclccfmlcabaaDoor.kj Go.Proofs.YtmlclccfmlcabaaDoor.oa Go.Proofs.YtmlclccfmlcabaaDoor.os Go.Proofs.YtmlclccfmlcabaaDoor.ob Go.Proofs.YtmlclccfmlcabaaDoor.oc Go.Proofs.YtmlclccfmlcabaaDoor.od
set_option linter.unusedSimpArgs false

def cellS (s : ByteArray) (c : CellM) : ByteArray := if c.set = true then putS s c.data.size 1 ++ c.data else putS s 255 1
theorem cellS_size (s : ByteArray) (c : CellM) : (cellS s c).size ≤ s.size + 1 + c.data.size := by
  unfold cellS
  split
  · rw [ByteArray.size_append, putS_size]; exact Nat.le_refl _
  · rw [putS_size]; omega
def headS (e : Ent) : ByteArray := putS (putS (putS (putS (putS (putS (putS (putS ⟨#[]⟩ e.lsn 8) e.kind 1) e.tx 4) e.prevTx 8) e.prevPage 8) e.ref 8) e.change.page 4) e.change.slot 1
theorem headS_size (e : Ent) : (headS e).size = 42 := by unfold headS; simp only [putS_size]; rfl
def bytesE (e : Ent) : ByteArray := putS (cellS (cellS (headS e) e.change.before) e.change.after) e.blob.size 4 ++ e.blob
def FitsW (e : Ent) : Prop := e.change.before.data.size ≤ 12 ∧ e.change.after.data.size ≤ 12 ∧ e.blob.size ≤ 8192
theorem cat_run (s t : ByteArray) (h : s.size + t.size ≤ 9223372036854775807) (W : World) : (Op.stringOp .add s t).run Tryd.prog W = .ok (.string (s ++ t)) W := run_string_add_sum W _ _ h
theorem put1 (s : ByteArray) (n : Int) (w : World) (hs : s.size ≤ 1000000) : Calls Tryd.prog 27 #[.string s, .int .i64 n, .int .i64 1] w fun e w' => e = .returned (.string (putS s n 1)) ∧ Below w.heap.size w w' := put_yes s n 1 w (by omega) (by decide) (by decide)
theorem put4 (s : ByteArray) (n : Int) (w : World) (hs : s.size ≤ 1000000) : Calls Tryd.prog 27 #[.string s, .int .i64 n, .int .i64 4] w fun e w' => e = .returned (.string (putS s n 4)) ∧ Below w.heap.size w w' := put_yes s n 4 w (by omega) (by decide) (by decide)
theorem put8 (s : ByteArray) (n : Int) (w : World) (hs : s.size ≤ 1000000) : Calls Tryd.prog 27 #[.string s, .int .i64 n, .int .i64 8] w fun e w' => e = .returned (.string (putS s n 8)) ∧ Below w.heap.size w w' := put_yes s n 8 w (by omega) (by decide) (by decide)
set_option maxRecDepth 4000 in
theorem writeCell_any (s : ByteArray) (c : CellM) (w : World) (hs : s.size ≤ 100000) (hc : c.data.size ≤ 100000) : Calls Tryd.prog 51 #[.string s, .agg #[.bool c.set, .string c.data]] w fun e w' => e = .returned (.string (cellS s c)) ∧ Below w.heap.size w w' := by
  obtain ⟨b, d⟩ := c
  cases b
  · go_enter Tryd.func51, Tryd.ntmps51
    go_wp2_with (first
      | (refine wp_boxW (CellM.vals ⟨false, d⟩) _ rfl rfl rfl ?_; intro w0 hP hb0 z0; have HP := Lib.hid hP; have HB := Lib.hid hb0; have a0 := hP.cells 0 _ rfl; have a1 := hP.cells 1 _ rfl; clear hP hb0)
      | (go_at_call 27; (with_reducible refine (put1 _ _ _ (by omega)).mono ?_); rintro e1 w1 ⟨rfl, hb1⟩; have HB1 := Lib.hid (HB.out.trans (hb1.mono HB.out.size)); clear hb1))
    go_ret
    exact ⟨rfl, HB1.out⟩
  · have hcat := cat_run (putS s d.size 1) d (by rw [putS_size]; simp only at hc; omega)
    simp only at hc
    go_enter Tryd.func51, Tryd.ntmps51
    go_upto_region 3 with ((refine wp_boxW (CellM.vals ⟨true, d⟩) _ rfl rfl rfl ?_; intro w0 hP hb0 z0; have HP := Lib.hid hP; have HB := Lib.hid hb0; have a0 := hP.cells 0 _ rfl; have a1 := hP.cells 1 _ rfl; clear hP hb0))
    have HS := Lib.hid (St.add (st_nil (w := w) HB.out) HP.out)
    clear a0 a1 HB
    refine wp_region_held_drew (S := St [(w.heap.size, (CellM.vals ⟨true, d⟩))] w) (by kernel_rfl) (St.drew HS.out) (fun hHeld => ?_)
    refine wpAnyH_take (i := 0) (v := ?_) rfl (by kernel_rfl) (by kernel_rfl) (by kernel_rfl) (fun _ _ _ h => h) (Or.inl ⟨by rfl, ?_⟩) (by assumption) ?_
    rotate_left
    · (intro W _; go_simp; try with_reducible rfl)
    try simp only [Act.put, List.getElem_toArray, List.getElem_cons_zero, List.setIfInBounds_toArray, List.set_cons_zero, List.set_cons_succ]
    refine wpAnyH_take (i := 1) (v := ?_) rfl (by kernel_rfl) (by kernel_rfl) (by kernel_rfl) (fun _ _ _ h => h) (Or.inl ⟨by rfl, ?_⟩) (by assumption) ?_
    rotate_left
    · (intro W _; go_simp; try with_reducible rfl)
    try simp only [Act.put, List.getElem_toArray, List.getElem_cons_zero, List.getElem_cons_succ, List.setIfInBounds_toArray, List.set_cons_zero, List.set_cons_succ]
    refine wpAnyH_take (i := 2) (v := ?_) rfl (by kernel_rfl) (by kernel_rfl) (by kernel_rfl) (fun _ _ _ h => h) (Or.inl ⟨by rfl, ?_⟩) (by assumption) ?_
    rotate_left
    · (intro W hSw; have c0 := (St.row hSw (b := w.heap.size) (vs := (CellM.vals ⟨true, d⟩)) (by simp)).cells 1 _ rfl; clear hSw; go_simp; try with_reducible rfl)
    try simp only [Act.put, List.getElem_toArray, List.getElem_cons_zero, List.getElem_cons_succ, List.setIfInBounds_toArray, List.set_cons_zero, List.set_cons_succ]
    refine wpAnyH_take (i := 3) (v := ?_) rfl (by kernel_rfl) (by kernel_rfl) (by kernel_rfl) (fun _ _ _ h => h) (Or.inl ⟨by rfl, ?_⟩) (by assumption) ?_
    rotate_left
    · (intro W _; go_simp; try with_reducible rfl)
    try simp only [Act.put, List.getElem_toArray, List.getElem_cons_zero, List.getElem_cons_succ, List.setIfInBounds_toArray, List.set_cons_zero, List.set_cons_succ]
    refine wpAnyH_take (i := 5) (v := ?_) rfl (by kernel_rfl) (by kernel_rfl) (by kernel_rfl) (fun _ _ _ h => h) (Or.inl ⟨by rfl, ?_⟩) (by assumption) ?_
    rotate_left
    · (intro W _; go_simp; try with_reducible rfl)
    try simp only [Act.put, List.getElem_toArray, List.getElem_cons_zero, List.getElem_cons_succ, List.setIfInBounds_toArray, List.set_cons_zero, List.set_cons_succ]
    refine wpAnyH_take (i := 6) (v := ?_) rfl (by kernel_rfl) (by kernel_rfl) (by kernel_rfl) (fun _ _ _ h => h) (Or.inl ⟨by rfl, ?_⟩) (by assumption) ?_
    rotate_left
    · (intro W hSw; have c0 := (St.row hSw (b := w.heap.size) (vs := (CellM.vals ⟨true, d⟩)) (by simp)).cells 1 _ rfl; clear hSw; go_simp; try with_reducible rfl)
    try simp only [Act.put, List.getElem_toArray, List.getElem_cons_zero, List.getElem_cons_succ, List.setIfInBounds_toArray, List.set_cons_zero, List.set_cons_succ]
    refine wpAnyH_ready (rs := [4]) (by kernel_rfl) (by simp) (AllReadyH.cons rfl (fun K hK => ?_) AllReadyH.nil)
    go_simp
    go_wp2_with (go_at_call 27; (with_reducible refine (put1 _ _ _ (by omega)).mono ?_); rintro e W3_1 ⟨rfl, hb3_3⟩)
    refine hK.out _ _ (St.keep hHeld hb3_3) (fun hH3_2 => ?_)
    clear hK K
    try simp only [Act.put, List.getElem_toArray, List.getElem_cons_zero, List.getElem_cons_succ, List.setIfInBounds_toArray, List.set_cons_zero, List.set_cons_succ]
    refine wpAnyH_take (i := 7) (v := ?_) rfl (by kernel_rfl) (by kernel_rfl) (by kernel_rfl) (fun _ _ _ h => h) (Or.inl ⟨by rfl, ?_⟩) (by assumption) ?_
    rotate_left
    · (intro W _; go_simp; try with_reducible rfl)
    try simp only [Act.put, List.getElem_toArray, List.getElem_cons_zero, List.getElem_cons_succ, List.setIfInBounds_toArray, List.set_cons_zero, List.set_cons_succ]
    refine wpAnyH_take (i := 8) (v := ?_) rfl (by kernel_rfl) (by kernel_rfl) (by kernel_rfl) (fun _ _ _ h => h) (Or.inl ⟨by rfl, ?_⟩) (by assumption) ?_
    rotate_left
    · (intro W _; go_simp; try with_reducible rfl)
    try simp only [Act.put, List.getElem_toArray, List.getElem_cons_zero, List.getElem_cons_succ, List.setIfInBounds_toArray, List.set_cons_zero, List.set_cons_succ]
    refine wpAnyH_done (by kernel_rfl) ?_ _
    go_wp2
    go_ret
    exact ⟨rfl, And.right hH3_2⟩
set_option maxRecDepth 4000 in
set_option maxHeartbeats 4000000 in
theorem write_any (e : Ent) (w : World) (hf : FitsW e) : Calls Tryd.prog 45 #[.agg e.arr] w fun e' w' => e' = .returned (.string (bytesE e)) ∧ Below w.heap.size w w' := by
  obtain ⟨f1, f2, f3⟩ := hf
  have hcat := cat_run (putS (cellS (cellS (headS e) e.change.before) e.change.after) e.blob.size 4) e.blob (by rw [putS_size]; have := headS_size e; have := cellS_size (headS e) e.change.before; have := cellS_size (cellS (headS e) e.change.before) e.change.after; omega)
  have HU : Hid True := Lib.hid trivial
  go_enter Tryd.func45, Tryd.ntmps45
  go_upto_region 11 with (first
    | (clear HU; refine wp_boxEntW e rfl rfl rfl ?_; intro w0 hP hb0 z0; have E0 := Lib.hid hP; have HB0 := Lib.hid hb0; clear hP hb0; obtain ⟨a0, a1, a2, a3, a4, a5, a6, a7, a8, a9, a10, a11, a12⟩ := EnAt.all E0.out)
    | (go_at_call 27; have hq := E0.out; clear hq; (with_reducible refine (put8 _ _ _ (by first | decide | (simp only [putS_size]; decide))).mono ?_); rintro e1 w1 ⟨rfl, hb⟩; have E1 := Lib.hid (RowAt.keep E0.out hb); have HB1 := Lib.hid (HB0.out.trans (hb.mono HB0.out.size)); clear hb E0 HB0 a0 a1 a2 a3 a4 a5 a6 a7 a8 a9 a10 a11 a12; obtain ⟨a0, a1, a2, a3, a4, a5, a6, a7, a8, a9, a10, a11, a12⟩ := EnAt.all E1.out)
    | (go_at_call 27; have hq := E1.out; clear hq; (with_reducible refine (put1 _ _ _ (by first | decide | (simp only [putS_size]; decide))).mono ?_); rintro e1 w2 ⟨rfl, hb⟩; have E2 := Lib.hid (RowAt.keep E1.out hb); have HB2 := Lib.hid (HB1.out.trans (hb.mono HB1.out.size)); clear hb E1 HB1 a0 a1 a2 a3 a4 a5 a6 a7 a8 a9 a10 a11 a12; obtain ⟨a0, a1, a2, a3, a4, a5, a6, a7, a8, a9, a10, a11, a12⟩ := EnAt.all E2.out)
    | (go_at_call 27; have hq := E2.out; clear hq; (with_reducible refine (put4 _ _ _ (by first | decide | (simp only [putS_size]; decide))).mono ?_); rintro e1 w3 ⟨rfl, hb⟩; have E3 := Lib.hid (RowAt.keep E2.out hb); have HB3 := Lib.hid (HB2.out.trans (hb.mono HB2.out.size)); clear hb E2 HB2 a0 a1 a2 a3 a4 a5 a6 a7 a8 a9 a10 a11 a12; obtain ⟨a0, a1, a2, a3, a4, a5, a6, a7, a8, a9, a10, a11, a12⟩ := EnAt.all E3.out)
    | (go_at_call 27; have hq := E3.out; clear hq; (with_reducible refine (put8 _ _ _ (by first | decide | (simp only [putS_size]; decide))).mono ?_); rintro e1 w4 ⟨rfl, hb⟩; have E4 := Lib.hid (RowAt.keep E3.out hb); have HB4 := Lib.hid (HB3.out.trans (hb.mono HB3.out.size)); clear hb E3 HB3 a0 a1 a2 a3 a4 a5 a6 a7 a8 a9 a10 a11 a12; obtain ⟨a0, a1, a2, a3, a4, a5, a6, a7, a8, a9, a10, a11, a12⟩ := EnAt.all E4.out)
    | (go_at_call 27; have hq := E4.out; clear hq; (with_reducible refine (put8 _ _ _ (by first | decide | (simp only [putS_size]; decide))).mono ?_); rintro e1 w5 ⟨rfl, hb⟩; have E5 := Lib.hid (RowAt.keep E4.out hb); have HB5 := Lib.hid (HB4.out.trans (hb.mono HB4.out.size)); clear hb E4 HB4 a0 a1 a2 a3 a4 a5 a6 a7 a8 a9 a10 a11 a12; obtain ⟨a0, a1, a2, a3, a4, a5, a6, a7, a8, a9, a10, a11, a12⟩ := EnAt.all E5.out)
    | (go_at_call 27; have hq := E5.out; clear hq; (with_reducible refine (put8 _ _ _ (by first | decide | (simp only [putS_size]; decide))).mono ?_); rintro e1 w6 ⟨rfl, hb⟩; have E6 := Lib.hid (RowAt.keep E5.out hb); have HB6 := Lib.hid (HB5.out.trans (hb.mono HB5.out.size)); clear hb E5 HB5 a0 a1 a2 a3 a4 a5 a6 a7 a8 a9 a10 a11 a12; obtain ⟨a0, a1, a2, a3, a4, a5, a6, a7, a8, a9, a10, a11, a12⟩ := EnAt.all E6.out)
    | (go_at_call 27; have hq := E6.out; clear hq; (with_reducible refine (put4 _ _ _ (by first | decide | (simp only [putS_size]; decide))).mono ?_); rintro e1 w7 ⟨rfl, hb⟩; have E7 := Lib.hid (RowAt.keep E6.out hb); have HB7 := Lib.hid (HB6.out.trans (hb.mono HB6.out.size)); clear hb E6 HB6 a0 a1 a2 a3 a4 a5 a6 a7 a8 a9 a10 a11 a12; obtain ⟨a0, a1, a2, a3, a4, a5, a6, a7, a8, a9, a10, a11, a12⟩ := EnAt.all E7.out)
    | (go_at_call 27; have hq := E7.out; clear hq; (with_reducible refine (put1 _ _ _ (by first | decide | (simp only [putS_size]; decide))).mono ?_); rintro e1 w8 ⟨rfl, hb⟩; have E8 := Lib.hid (RowAt.keep E7.out hb); have HB8 := Lib.hid (HB7.out.trans (hb.mono HB7.out.size)); clear hb E7 HB7 a0 a1 a2 a3 a4 a5 a6 a7 a8 a9 a10 a11 a12; obtain ⟨a0, a1, a2, a3, a4, a5, a6, a7, a8, a9, a10, a11, a12⟩ := EnAt.all E8.out)
    | (refine wp_loadBefore e E8.out rfl rfl rfl ?_)
    | (refine wp_loadAfter e E9.out rfl rfl rfl ?_)
    | (go_at_call 51; have hq := E8.out; clear hq; (refine (writeCell_any (headS e) e.change.before _ (by have := headS_size e; have := cellS_size (headS e) e.change.before; have := cellS_size (cellS (headS e) e.change.before) e.change.after; omega) (by omega)).mono ?_); rintro e1 w9 ⟨rfl, hb⟩; have E9 := Lib.hid (RowAt.keep E8.out hb); have HB9 := Lib.hid (HB8.out.trans (hb.mono HB8.out.size)); clear hb E8 HB8 a0 a1 a2 a3 a4 a5 a6 a7 a8 a9 a10 a11 a12; obtain ⟨a0, a1, a2, a3, a4, a5, a6, a7, a8, a9, a10, a11, a12⟩ := EnAt.all E9.out)
    | (go_at_call 51; have hq := E9.out; clear hq; (refine (writeCell_any (cellS (headS e) e.change.before) e.change.after _ (by have := headS_size e; have := cellS_size (headS e) e.change.before; have := cellS_size (cellS (headS e) e.change.before) e.change.after; omega) (by omega)).mono ?_); rintro e1 w10 ⟨rfl, hb⟩; have E10 := Lib.hid (RowAt.keep E9.out hb); have HB10 := Lib.hid (HB9.out.trans (hb.mono HB9.out.size)); clear hb E9 HB9 a0 a1 a2 a3 a4 a5 a6 a7 a8 a9 a10 a11 a12; obtain ⟨a0, a1, a2, a3, a4, a5, a6, a7, a8, a9, a10, a11, a12⟩ := EnAt.all E10.out))
  have HS := Lib.hid (St.add (st_nil (w := w) HB10.out) E10.out)
  clear a0 a1 a2 a3 a4 a5 a6 a7 a8 a9 a10 a11 a12 HB10
  refine wp_region_held_drew (S := St [(w.heap.size, (Ent.vals e))] w) (by kernel_rfl) (St.drew HS.out) (fun hHeld => ?_)
  refine wpAnyH_take (i := 0) (v := ?_) rfl (by kernel_rfl) (by kernel_rfl) (by kernel_rfl) (fun _ _ _ h => h) (Or.inl ⟨by rfl, ?_⟩) (by assumption) ?_
  rotate_left
  · (intro W _; go_simp; try with_reducible rfl)
  try simp only [Act.put, List.getElem_toArray, List.getElem_cons_zero, List.setIfInBounds_toArray, List.set_cons_zero, List.set_cons_succ]
  refine wpAnyH_take (i := 1) (v := ?_) rfl (by kernel_rfl) (by kernel_rfl) (by kernel_rfl) (fun _ _ _ h => h) (Or.inl ⟨by rfl, ?_⟩) (by assumption) ?_
  rotate_left
  · (intro W _; go_simp; try with_reducible rfl)
  try simp only [Act.put, List.getElem_toArray, List.getElem_cons_zero, List.getElem_cons_succ, List.setIfInBounds_toArray, List.set_cons_zero, List.set_cons_succ]
  refine wpAnyH_take (i := 2) (v := ?_) rfl (by kernel_rfl) (by kernel_rfl) (by kernel_rfl) (fun _ _ _ h => h) (Or.inl ⟨by rfl, ?_⟩) (by assumption) ?_
  rotate_left
  · (intro W hSw; have c0 := (St.row hSw (b := w.heap.size) (vs := (Ent.vals e)) (by simp)).cells 12 _ rfl; clear hSw; go_simp; try with_reducible rfl)
  try simp only [Act.put, List.getElem_toArray, List.getElem_cons_zero, List.getElem_cons_succ, List.setIfInBounds_toArray, List.set_cons_zero, List.set_cons_succ]
  refine wpAnyH_take (i := 3) (v := ?_) rfl (by kernel_rfl) (by kernel_rfl) (by kernel_rfl) (fun _ _ _ h => h) (Or.inl ⟨by rfl, ?_⟩) (by assumption) ?_
  rotate_left
  · (intro W _; go_simp; try with_reducible rfl)
  try simp only [Act.put, List.getElem_toArray, List.getElem_cons_zero, List.getElem_cons_succ, List.setIfInBounds_toArray, List.set_cons_zero, List.set_cons_succ]
  refine wpAnyH_take (i := 5) (v := ?_) rfl (by kernel_rfl) (by kernel_rfl) (by kernel_rfl) (fun _ _ _ h => h) (Or.inl ⟨by rfl, ?_⟩) (by assumption) ?_
  rotate_left
  · (intro W _; go_simp; try with_reducible rfl)
  try simp only [Act.put, List.getElem_toArray, List.getElem_cons_zero, List.getElem_cons_succ, List.setIfInBounds_toArray, List.set_cons_zero, List.set_cons_succ]
  refine wpAnyH_take (i := 6) (v := ?_) rfl (by kernel_rfl) (by kernel_rfl) (by kernel_rfl) (fun _ _ _ h => h) (Or.inl ⟨by rfl, ?_⟩) (by assumption) ?_
  rotate_left
  · (intro W hSw; have c0 := (St.row hSw (b := w.heap.size) (vs := (Ent.vals e)) (by simp)).cells 12 _ rfl; clear hSw; go_simp; try with_reducible rfl)
  try simp only [Act.put, List.getElem_toArray, List.getElem_cons_zero, List.getElem_cons_succ, List.setIfInBounds_toArray, List.set_cons_zero, List.set_cons_succ]
  refine wpAnyH_ready (rs := [4]) (by kernel_rfl) (by simp) (AllReadyH.cons rfl (fun K hK => ?_) AllReadyH.nil)
  go_simp
  go_wp2_with (go_at_call 27; (with_reducible refine (put4 _ _ _ (by have := headS_size e; have := cellS_size (headS e) e.change.before; have := cellS_size (cellS (headS e) e.change.before) e.change.after; omega)).mono ?_); rintro e W11_1 ⟨rfl, hb11_3⟩)
  refine hK.out _ _ (St.keep hHeld hb11_3) (fun hH11_2 => ?_)
  clear hK K
  try simp only [Act.put, List.getElem_toArray, List.getElem_cons_zero, List.getElem_cons_succ, List.setIfInBounds_toArray, List.set_cons_zero, List.set_cons_succ]
  refine wpAnyH_take (i := 7) (v := ?_) rfl (by kernel_rfl) (by kernel_rfl) (by kernel_rfl) (fun _ _ _ h => h) (Or.inl ⟨by rfl, ?_⟩) (by assumption) ?_
  rotate_left
  · (intro W _; go_simp; try with_reducible rfl)
  try simp only [Act.put, List.getElem_toArray, List.getElem_cons_zero, List.getElem_cons_succ, List.setIfInBounds_toArray, List.set_cons_zero, List.set_cons_succ]
  refine wpAnyH_take (i := 8) (v := ?_) rfl (by kernel_rfl) (by kernel_rfl) (by kernel_rfl) (fun _ _ _ h => h) (Or.inl ⟨by rfl, ?_⟩) (by assumption) ?_
  rotate_left
  · (intro W _; go_simp; try with_reducible rfl)
  try simp only [Act.put, List.getElem_toArray, List.getElem_cons_zero, List.getElem_cons_succ, List.setIfInBounds_toArray, List.set_cons_zero, List.set_cons_succ]
  refine wpAnyH_done (by kernel_rfl) ?_ _
  go_wp2
  go_ret
  exact ⟨rfl, And.right hH11_2⟩
def encS (e : Ent) : ByteArray := if validE e = true then bytesE e else ⟨#[]⟩
def encE (e : Ent) : Int := if validE e = true then 0 else 12
theorem cellB_size {c : CellM} (h : cellB c = true) : c.data.size ≤ 12 := by
  unfold cellB at h
  rw [decide_eq_true_eq] at h
  exact h.1
theorem valid_fits {e : Ent} (h : validE e = true) : FitsW e := by
  unfold validE at h
  simp only [Bool.and_eq_true] at h
  obtain ⟨-, -, h⟩ := h
  have c0 : ∀ c : Chg, sameH c chg0 = true → c.before.data.size ≤ 12 ∧ c.after.data.size ≤ 12 := fun c hc => by
    rw [sameH_iff] at hc
    subst hc
    exact ⟨Nat.zero_le _, Nat.zero_le _⟩
  have b0 : noBlobB e.blob = true → e.blob.size ≤ 8192 := fun hb => by
    unfold noBlobB at hb
    rw [beq_iff_eq, nil_iff] at hb
    rw [hb]
    exact Nat.zero_le _
  have v0 : validH e.change = true → e.change.before.data.size ≤ 12 ∧ e.change.after.data.size ≤ 12 := fun hv => by
    unfold validH at hv
    simp only [Bool.and_eq_true] at hv
    exact ⟨cellB_size (by simp_all), cellB_size (by simp_all)⟩
  unfold allowB at h
  split at h
  · simp only [Bool.and_eq_true] at h
    exact ⟨(v0 h.2.1).1, (v0 h.2.1).2, b0 h.2.2⟩
  split at h
  · simp only [Bool.and_eq_true] at h
    exact ⟨(v0 h.2.1).1, (v0 h.2.1).2, b0 h.2.2⟩
  split at h
  · simp only [Bool.and_eq_true] at h
    exact ⟨(c0 _ h.2.1).1, (c0 _ h.2.1).2, b0 h.2.2⟩
  split at h
  · simp only [Bool.and_eq_true, pageAloneB] at h
    obtain ⟨-, ⟨-, -, hp⟩, hb⟩ := h
    rw [sameH_iff] at hp
    refine ⟨?_, ?_, b0 hb⟩
    · rw [hp]; exact Nat.zero_le _
    · rw [hp]; exact Nat.zero_le _
  · simp only [Bool.and_eq_true, someBlobB, decide_eq_true_eq] at h
    exact ⟨(c0 _ h.2.1).1, (c0 _ h.2.1).2, by omega⟩
set_option maxRecDepth 4000 in
theorem encode_any (e : Ent) (w : World) (hf : FitsE e) : Calls Tryd.prog 29 #[.agg e.arr] w fun e' w' => e' = .returned (.tuple #[.string (encS e), .int .i64 (encE e)]) ∧ Below w.heap.size w w' := by
  have HU : Hid True := Lib.hid trivial
  unfold encS encE
  cases hv : validE e
  · have CV : Hid (Says 13 #[.agg e.arr] false) := Lib.hid fun w => by have := od.valid_any e w hf; rwa [hv] at this
    clear hv
    go_enter Tryd.func29, Tryd.ntmps29
    go_wp2_with (first
      | (clear HU; refine wp_boxEntW e rfl rfl rfl ?_; intro w0 hP hb0 z0; have E0 := Lib.hid hP; have HB0 := Lib.hid hb0; clear hP hb0)
      | (refine wp_loadEnt e E0.out rfl rfl rfl ?_)
      | (go_at_call 13; (with_reducible refine (CV.out _).mono ?_); rintro e1 w1 ⟨rfl, hb⟩; have HB1 := Lib.hid (HB0.out.trans (hb.mono HB0.out.size)); clear hb))
    go_ret2
    exact ⟨rfl, HB1.out⟩
  · have CV : Hid (Says 13 #[.agg e.arr] true) := Lib.hid fun w => by have := od.valid_any e w hf; rwa [hv] at this
    have hw := valid_fits hv
    clear hv
    go_enter Tryd.func29, Tryd.ntmps29
    go_wp2_with (first
      | (clear HU; refine wp_boxEntW e rfl rfl rfl ?_; intro w0 hP hb0 z0; have E0 := Lib.hid hP; have HB0 := Lib.hid hb0; clear hP hb0)
      | (refine wp_loadEnt e E0.out rfl rfl rfl ?_)
      | (go_at_call 13; (with_reducible refine (CV.out _).mono ?_); rintro e1 w1 ⟨rfl, hb⟩; have E1 := Lib.hid (RowAt.keep E0.out hb); have HB1 := Lib.hid (HB0.out.trans (hb.mono HB0.out.size)); clear hb E0 HB0)
      | (refine wp_loadEnt e E1.out rfl rfl rfl ?_)
      | (go_at_call 45; (with_reducible refine (write_any e _ hw).mono ?_); rintro e1 w2 ⟨rfl, hb⟩; have HB2 := Lib.hid (HB1.out.trans (hb.mono HB1.out.size)); clear hb))
    go_ret2
    exact ⟨rfl, HB2.out⟩
end Go.Proofs.YtmlclccfmlcabaaDoor.oh
