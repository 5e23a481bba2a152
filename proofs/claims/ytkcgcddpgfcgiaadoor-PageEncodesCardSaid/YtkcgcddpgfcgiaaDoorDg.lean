/- The bytes of a page, as the program's Encode returns them. -/
import Derived.Test.YtkcgcddpgfcgiaaDoorDf
namespace Go.Proofs.YtkcgcddpgfcgiaaDoor.dg
open Go.ChangeShapes Go.WideShapes Go.ChangeAt Go.RowKit Go.Lib Go.Proofs.YtkcgcddpgfcgiaaDoor.cm Go.Proofs.YtkcgcddpgfcgiaaDoor.cw Go.Proofs.YtkcgcddpgfcgiaaDoor.cp Go.Proofs.YtkcgcddpgfcgiaaDoor.cg Go.Proofs.YtkcgcddpgfcgiaaDoor.ch Go.Proofs.YtkcgcddpgfcgiaaDoor.ra Go.Proofs.YtkcgcddpgfcgiaaDoor.rb Go.Proofs.YtkcgcddpgfcgiaaDoor.rc Go.Proofs.YtkcgcddpgfcgiaaDoor.da Go.Proofs.YtkcgcddpgfcgiaaDoor.db Go.Proofs.YtkcgcddpgfcgiaaDoor.dc Go.Proofs.YtkcgcddpgfcgiaaDoor.dd Go.Proofs.YtkcgcddpgfcgiaaDoor.de Go.Proofs.YtkcgcddpgfcgiaaDoor.df

theorem wp_loadCells0 {ops : Array Oper} {rest : List Oper} {o : Oper} {a : Act} {w : World} {Q : Exit → Act → World → Prop} {x : Operand} {b : Nat} (p : Pg) (hp : RowAt b (cellVals p.cell 16) w) (ho : o.op = .load 25 x)
    (hx : a.eval x = .pointer (some ⟨b, 0, none⟩)) (hgd : Region.wanted o (yielded ops a.tmps) = true) (h : wpList Tryd.prog ops Q rest (a.put o.dst (.agg p.cellArr)) w) : wpList Tryd.prog ops Q (o :: rest) a w :=
  wp_load (cellVals p.cell 16) 25 _ hp Tryd.underlying25 rfl (by rw [cellVals_length]; exact info_cells) (fun j v hv => by rw [Nat.zero_add]; exact hv) ho hx hgd h
theorem writeCells_any (p : Pg) (B : Nat) (v : Value) (l : ByteArray) (w : World) (h : Bld B v l w) (hsm : Small p) (hl : l.size ≤ 1000) :
    Calls Tryd.prog 46 #[.agg p.cellArr, .func (.func 47) #[.pointer (some ⟨B, 0, none⟩)] #[]] w (Wrote B v (l ++ cellsS p.cell 16) w) := by
  have HR := Lib.hid (RowAt.newA p.cellArr w 25)
  have B0 : Below w.heap.size w (w.alloc (.cells p.cellArr 25)) := (Below.refl _ _).alloc (Nat.le_refl _) _
  have H := Lib.hid (h.keep B0)
  have HM := Lib.hid (Moved.of_below (B := B) (v := v) B0)
  have hlt := h.lt
  clear h B0
  go_enter Tryd.func46, Tryd.ntmps46
  go_wp2_with (refine wp_loadCells0 p HR.out rfl rfl rfl ?_)
  go_loopw [7] (fun i wr => ∃ (j : Nat) (u : Value), j ≤ 16 ∧ i = .int .i64 j ∧ Bld B u (l ++ cellsS p.cell j) wr ∧ Moved B v u w wr) (fun i _ => 16 - (intOf i).toNat)
  case atStart => exact ⟨0, v, by omega, rfl, by rw [cellsS, append_nil]; exact H.out, HM.out⟩
  case round =>
    obtain ⟨j, u, hj, rfl, hb, hv⟩ := hrel
    have HB := Lib.hid hb
    have HV := Lib.hid hv
    clear H HM hv
    by_cases hjl : j < 16
    · have hix := run_index_cells p j hjl
      have hd := hsm j hjl
      have hsz := cellsS_size (f := p.cell) j (fun i hi => hsm i (by omega))
      have hlz : (l ++ cellsS p.cell j).size ≤ 10000 := by rw [ByteArray.size_append, hsz]; omega
      clear hsz hb
      go_wp2_with (go_at_call 47; (with_reducible refine (cell_any B u (l ++ cellsS p.cell j) (p.cell j) _ (HB.out.keep ((Below.refl _ _).alloc (Nat.le_refl _) _)) hd hlz).mono ?_); rintro e w1 ⟨rfl, u1, hb1, hm1⟩; have HB1 := Lib.hid hb1; have HM1 := Lib.hid hm1; clear hb1 hm1)
      go_roundw
      case rel =>
        refine ⟨j + 1, u1, by omega, by go_num, ?_, (HV.out.trans (Moved.of_below ((Below.refl _ _).alloc (Nat.le_refl _) _))).trans HM1.out⟩
        rw [cellsS, ← append_assoc]
        exact HB1.out
      case measure => simp [intOf]; omega
    · obtain rfl : j = 16 := by omega
      clear hb
      go_wp2
      go_end0
      exact ⟨rfl, u, HB.out, HV.out⟩

theorem build_builder (W : World) : (Instr.build 69 #[]).run Tryd.prog W = .ok (.agg #[.slice none 0 0]) W := by kernel_rfl
theorem bld_new (w : World) (t : TypeId) : Bld w.heap.size (.slice none 0 0) ⟨#[]⟩ (w.alloc (.cells #[.slice none 0 0] t)) :=
  have hr := RowAt.newA #[.slice none 0 0] w t
  ⟨hr.cells 0 _ rfl, hr.free 0, by exact World.ownsRow_nil _ _ _ _⟩
theorem strOfNums_self (l : ByteArray) : strOfNums (l.data.toList.map fun b => (b.toNat : Int)) = l := by
  apply ByteArray.ext
  apply Array.ext'
  rw [strOfNums_data, List.map_map]
  exact (List.map_congr_left (fun b _ => by simp)).trans (List.map_id _)
theorem conv_nil (w : World) : (convert 22 9 (.slice none 0 0)).run Tryd.prog w = .ok (.string ⟨#[]⟩) w := by kernel_rfl
theorem conv_own {B : Nat} {v : Value} {l : ByteArray} {w : World} (h : Bld B v l w) : (convert 22 9 v).run Tryd.prog w = .ok (.string l) w := by
  rcases h.own.2 with ⟨rfl, h0⟩ | ⟨g, cap, cur, rfl, hbg, hg, hnc, hcm, hcs, htake⟩
  · have hl : l = ⟨#[]⟩ := by
      apply ByteArray.ext
      have : l.data.size = 0 := h0
      exact Array.eq_empty_of_size_eq_zero this
    subst hl
    exact conv_nil w
  · have hc := h.own.cells (g := g) rfl
    have := run_convert_bytes_arg (P := Tryd.prog) w 22 5 Tryd.underlying22 Tryd.underlying5 g 0 l.size cap (l.data.toList.map fun b => (b.toNat : Int)) (by simp) (fun i hi => by
      have hil : i < l.data.toList.length := by simpa using hi
      have e := hc i (.int .u8 (l.data.toList[i].toNat : Int)) (by rw [strCells, List.getElem?_map, List.getElem?_eq_getElem hil]; rfl)
      have ha : (⟨g, 0, none⟩ : Addr).add i = ⟨g, 0 + i, none⟩ := Addr.add_mid g 0 i
      rw [ha] at e
      rw [e]
      rw [List.getD, List.getElem?_map, List.getElem?_eq_getElem hil]; rfl) 9 Tryd.underlying9
    rw [strOfNums_self] at this
    exact this
theorem none_ne (k : Nat) : (Value.slice none 0 0).ownBlock ≠ some k := by intro e; cases e
theorem moved_ne {B k : Nat} {v v' : Value} {w w' : World} (h : Moved B v v' w w') (hv : v.ownBlock ≠ some k) (hk : k < w.heap.size) : v'.ownBlock ≠ some k := by
  rcases h.lies with e | ⟨g, e, hg⟩
  · rw [e]; exact hv
  · rw [e]; intro e2; injection e2 with e2; omega
set_option maxHeartbeats 1000000 in
theorem write_any (p : Pg) (w : World) (hw : TabOk w) (hsm : Small p) :
    Calls Tryd.prog 31 #[.agg p.arr] w fun e w' => e = .returned (.string (encS p)) ∧ Below w.heap.size w w' := by
  have hz := tab_size hw
  have HP := Lib.hid ((PgAt.new p w 27).alloc (.cells #[.slice none 0 0] 69))
  have hb0 : Bld (w.heap.size + 1) (.slice none 0 0) ⟨#[]⟩ ((w.alloc (.cells p.arr 27)).alloc (.cells #[.slice none 0 0] 69)) := by
    have := bld_new (w.alloc (.cells p.arr 27)) 69
    simpa using this
  have HB0 := Lib.hid hb0
  have HW0 : Hid (Below w.heap.size w ((w.alloc (.cells p.arr 27)).alloc (.cells #[.slice none 0 0] 69))) := Lib.hid (((Below.refl _ _).alloc (Nat.le_refl _) _).alloc (by simp) _)
  clear hb0
  have hbuild := build_builder
  have h1 := PgAt.lsnAt HP.out
  have hhs : (headS p).size = 12 := headS_size p
  have hbs := bodyS_size hsm
  have hcs := mainS_size hsm 16 (by omega)
  have HF : Hid (headS p ++ cellsS p.cell 16 ++ zeroS (244 - (headS p ++ cellsS p.cell 16).size) = bodyS p) := Lib.hid (by
    have : (headS p ++ cellsS p.cell 16).size = 220 := hcs
    rw [this]; rfl)
  have HCS : Hid ((headS p ++ cellsS p.cell 16).size = 220) := Lib.hid hcs
  have HBS := Lib.hid hbs
  have HHS := Lib.hid hhs
  have hcr := crcN_lt (bodyS p)
  clear hbs hhs hcs
  go_enter Tryd.func31, Tryd.ntmps31
  go_wp2_with (first
    | (go_at_call 45; (with_reducible refine (number_is (w.heap.size + 1) _ ⟨#[]⟩ _ _ _ 8 rfl (by decide) _ HB0.out (by decide) (by decide) (by decide)).mono ?_); rintro e w1 ⟨rfl, v1, hb1, hm1⟩; have HP1 := Lib.hid (hm1.keep HP.out (by omega) (none_ne _)); have HN1 := Lib.hid (moved_ne (k := w.heap.size) hm1 (none_ne _) (by simp <;> omega)); have HW1 := Lib.hid (HW0.out.trans ((hm1.below HB0.out.own (by simp)).mono (by omega))); have HB1 := Lib.hid hb1; have hlt1 := HP1.out.lt; have h0 := PgAt.idAt HP1.out; clear hb1 hm1)
    | (go_at_call 45; (with_reducible refine (number_is (w.heap.size + 1) _ (putS ⟨#[]⟩ p.lsn 8) _ _ _ 4 rfl (by decide) _ HB1.out (by decide) (by decide) (by rw [putS_size]; decide)).mono ?_); rintro e w2 ⟨rfl, v2, hb2, hm2⟩; have HP2 := Lib.hid (hm2.keep HP1.out (by omega) HN1.out); have HN2 := Lib.hid (moved_ne (k := w.heap.size) hm2 HN1.out hlt1); have HW2 := Lib.hid (HW1.out.trans ((hm2.below HB1.out.own (by omega)).mono (by omega))); have HB2 : Hid (Bld (w.heap.size + 1) v2 (headS p) w2) := Lib.hid hb2; have hlt2 := HP2.out.lt; clear hb2 hm2)
    | (refine wp_loadCells p HP2.out rfl rfl rfl ?_)
    | (go_at_call 46; (with_reducible refine (writeCells_any p (w.heap.size + 1) v2 (headS p) _ HB2.out hsm (by rw [HHS.out]; decide)).mono ?_); rintro e w3 ⟨rfl, v3, hb3, hm3⟩; have HP3 := Lib.hid (hm3.keep HP2.out (by omega) HN2.out); have HN3 := Lib.hid (moved_ne (k := w.heap.size) hm3 HN2.out hlt2); have HW3 := Lib.hid (HW2.out.trans ((hm3.below HB2.out.own (by omega)).mono (by omega))); have HB3 := Lib.hid hb3; have hlt3 := HP3.out.lt; clear hb3 hm3)
    | (go_at_call 48; (with_reducible refine (fill_is (w.heap.size + 1) v3 (headS p ++ cellsS p.cell 16) _ 244 (by decide) _ HB3.out (by decide)).mono ?_); rintro e w4 ⟨rfl, v4, hb4, hm4⟩; rw [HF.out] at hb4; have HP4 := Lib.hid (hm4.keep HP3.out (by omega) HN3.out); have HN4 := Lib.hid (moved_ne (k := w.heap.size) hm4 HN3.out hlt3); have HW4 := Lib.hid (HW3.out.trans ((hm4.below HB3.out.own (by omega)).mono (by omega))); have HB4 := Lib.hid hb4; have hlt4 := HP4.out.lt; have hc4 := hb4.cell; have hcv4 := conv_own hb4; clear hb4 hm4)
    | (go_at_call 49; (with_reducible refine (sum_n _ _ (by rw [HBS.out]; decide) (tab_below hw HW4.out hz)).mono ?_); rintro e w5 ⟨rfl, rfl⟩; clear hcv4 hc4)
    | (go_at_call 45; (with_reducible refine (number_is (w.heap.size + 1) v4 (bodyS p) _ _ _ 4 rfl (by decide) _ HB4.out (by decide) (by decide) (by rw [HBS.out]; decide)).mono ?_); rintro e w5 ⟨rfl, v5, hb5, hm5⟩; have HP5 := Lib.hid (hm5.keep HP4.out (by omega) HN4.out); have HN5 := Lib.hid (moved_ne (k := w.heap.size) hm5 HN4.out hlt4); have HW5 := Lib.hid (HW4.out.trans ((hm5.below HB4.out.own (by omega)).mono (by omega))); have HB5 := Lib.hid hb5; have hlt5 := HP5.out.lt; have h5 := PgAt.lsnAt HP5.out; clear hb5 hm5)
    | (go_at_call 45; (with_reducible refine (number_is (w.heap.size + 1) v5 (putS (bodyS p) (crcN (bodyS p) : Nat) 4) _ _ _ 8 rfl (by decide) _ HB5.out (by decide) (by decide) (by rw [putS_size, HBS.out]; decide)).mono ?_); rintro e w6 ⟨rfl, v6, hb6, hm6⟩; have HW6 := Lib.hid (HW5.out.trans ((hm6.below HB5.out.own (by omega)).mono (by omega))); have hb6' : Bld (w.heap.size + 1) v6 (encS p) w6 := hb6; have hc6 := hb6'.cell; have hcv6 := conv_own hb6'; clear hb6 hm6 hb6'))
  go_ret
  exact ⟨rfl, HW6.out⟩
theorem validCells_b (p : Pg) (b : Bool) (h : cellsB p = b) (w : World) (hc : Fits p) :
    Calls Tryd.prog 30 #[.agg p.arr] w fun e w' => e = .returned (.bool b) ∧ Below w.heap.size w w' := h ▸ validCells_any p w hc
theorem encode_any (p : Pg) (w : World) (hw : TabOk w) (hc : Fits p) :
    Calls Tryd.prog 11 #[.agg p.arr] w fun e w' => e = .returned (encT p) ∧ Below w.heap.size w w' := by
  have hz := tab_size hw
  have HP := Lib.hid (PgAt.new p w 27)
  have HB : Hid (Below w.heap.size w (w.alloc (.cells p.arr 27))) := Lib.hid ((Below.refl _ _).alloc (Nat.le_refl _) _)
  unfold encT encA
  cases hn : numsB p
  · have he : encE p = 1 := by unfold encE; rw [hn]; rfl
    rw [he]
    have HN := Lib.hid hn
    clear hn he
    go_enter Tryd.func11, Tryd.ntmps11
    go_wp2_with (first
      | (refine wp_loadPage p HP.out rfl rfl rfl ?_)
      | (go_at_call 29; refine (validNumbers_b p false HN.out _).mono ?_; rintro e w1 ⟨rfl, hb1⟩))
    go_ret2
    exact ⟨rfl, HB.out.trans (hb1.mono (by simp))⟩
  · cases hm : cellsB p
    · have he : encE p = 22 := by unfold encE; rw [hn, hm]; rfl
      rw [he]
      have HN := Lib.hid hn
      have HM := Lib.hid hm
      clear hn hm he
      go_enter Tryd.func11, Tryd.ntmps11
      go_wp2_with (first
        | (refine wp_loadPage p HP.out rfl rfl rfl ?_)
        | (refine wp_loadPage p HP1.out rfl rfl rfl ?_)
        | (go_at_call 29; refine (validNumbers_b p true HN.out _).mono ?_; rintro e w1 ⟨rfl, hb1⟩; have HP1 := Lib.hid (HP.out.keep hb1); have HB1 := Lib.hid (HB.out.trans (hb1.mono (by simp))))
        | (go_at_call 30; refine (validCells_b p false HM.out _ hc).mono ?_; rintro e w2 ⟨rfl, hb2⟩))
      go_ret2
      exact ⟨rfl, HB1.out.trans (hb2.mono HB1.out.size)⟩
    · have he : encE p = 0 := by unfold encE; rw [hn, hm]; rfl
      have hsm := small_of_encE he
      rw [he]
      have HN := Lib.hid hn
      have HM := Lib.hid hm
      clear hn hm he
      go_enter Tryd.func11, Tryd.ntmps11
      go_wp2_with (first
        | (refine wp_loadPage p HP.out rfl rfl rfl ?_)
        | (refine wp_loadPage p HP1.out rfl rfl rfl ?_)
        | (refine wp_loadPage p HP2.out rfl rfl rfl ?_)
        | (go_at_call 29; refine (validNumbers_b p true HN.out _).mono ?_; rintro e w1 ⟨rfl, hb1⟩; have HP1 := Lib.hid (HP.out.keep hb1); have HB1 := Lib.hid (HB.out.trans (hb1.mono (by simp))))
        | (go_at_call 30; refine (validCells_b p true HM.out _ hc).mono ?_; rintro e w2 ⟨rfl, hb2⟩; have HP2 := Lib.hid (HP1.out.keep hb2); have HB2 := Lib.hid (HB1.out.trans (hb2.mono HB1.out.size)))
        | (go_at_call 31; refine (write_any p _ (tab_below hw HB2.out hz) hsm).mono ?_; rintro e w3 ⟨rfl, hb3⟩))
      go_ret2
      exact ⟨by rfl, HB2.out.trans (hb3.mono HB2.out.size)⟩
end Go.Proofs.YtkcgcddpgfcgiaaDoor.dg
