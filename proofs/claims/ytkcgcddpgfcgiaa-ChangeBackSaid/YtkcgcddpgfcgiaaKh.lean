/- ChangeBack: the walk. -/
import Derived.Test.YtkcgcddpgfcgiaaKi
import Derived.Deep.Cut
namespace Go.Proofs.Ytkcgcddpgfcgiaa.kh
open Go.ChangeShapes Go.WideShapes Go.ChangeAt Go.RowKit Go.Proofs.Ytkcgcddpgfcgiaa.cx Go.Proofs.Ytkcgcddpgfcgiaa.ra Go.Proofs.Ytkcgcddpgfcgiaa.rc Go.Proofs.Ytkcgcddpgfcgiaa.da Go.Proofs.Ytkcgcddpgfcgiaa.di Go.Proofs.Ytkcgcddpgfcgiaa.ea Go.Proofs.Ytkcgcddpgfcgiaa.eb Go.Proofs.Ytkcgcddpgfcgiaa.ec Go.Proofs.Ytkcgcddpgfcgiaa.ed Go.Proofs.Ytkcgcddpgfcgiaa.fb Go.Proofs.Ytkcgcddpgfcgiaa.ka Go.Proofs.Ytkcgcddpgfcgiaa.kb Go.Proofs.Ytkcgcddpgfcgiaa.kc Go.Proofs.Ytkcgcddpgfcgiaa.kd Go.Proofs.Ytkcgcddpgfcgiaa.ke Go.Proofs.Ytkcgcddpgfcgiaa.kf Go.Proofs.Ytkcgcddpgfcgiaa.kg Go.Proofs.Ytkcgcddpgfcgiaa.ki

set_option maxRecDepth 4000 in
set_option maxHeartbeats 2000000 in
theorem back_walk (so : Option Addr) (len cap : Nat) (w : World) (hin : BytesIn so len w) (hl : len ≤ 9223372036854775807) (hc : len ≤ cap) :
    Calls Try.prog 5 #[.slice so len cap] w fun e w' => e = .returned (.bool true) ∧ Below w.heap.size w w' := by
  have HIN := Lib.hid hin
  clear hin
  go_enter Try.func5, Try.ntmps5
  go_wp2_with fail
  go_at_call 7
  refine (awake_any _).mono ?_
  rintro e w1 ⟨rfl, hb1⟩
  have B1 := Lib.hid hb1
  have hle := hb1.size
  clear hb1
  go_wp2_with fail
  go_at_call 8
  refine (new_is so len cap 160 _ (by decide) _ (bytesIn_below HIN.out B1.out) hl hc (by decide)).mono ?_
  rintro e w2 ⟨rfl, hC2, hb2, hz2⟩
  have C2 := Lib.hid hC2
  have B2 := Lib.hid (B1.out.trans (hb2.mono B1.out.size))
  clear hC2 hb2 hz2 B1 HIN
  generalize w1.heap.size = c at C2 hle
  go_wp2_with fail
  go_at_call 9
  refine (page_any c 1 _ C2.out).mono ?_
  rintro e w4 ⟨p, rfl, hp1, hp2, hp3, hp4, hC4, hg4⟩
  have C4 := Lib.hid hC4
  have B4 := Lib.hid (B2.out.grown hg4 B2.out.size (fun k e => by injection e with e; omega))
  have HPI : Hid (p.id = 1 ∧ cellsB p = true) := Lib.hid ⟨hp1, hp4⟩
  clear hC4 hg4 hp1 hp2 hp3 hp4 C2 B2
  go_wp2_with (first
    | (have lt4 := cod_lt C4.out; have le4 := B4.out.size; refine wp_newPageW rfl rfl ?_; intro w5 hP hb5 hz5; have P5 := Lib.hid hP; have C5 := Lib.hid (cod_keep C4.out hb5); have B5 := Lib.hid (B4.out.trans (hb5.mono B4.out.size)); clear hP hb5 C4 B4)
    | (refine wp_storePageW p P5.out (vals_length _) rfl rfl rfl rfl ?_; intro w6 hP hS; have P6 := Lib.hid hP; have C6 := Lib.hid (hS.cod C5.out lt4); have B6 := Lib.hid (hS.below B5.out le4); clear hP hS P5 C5 B5)
    | (go_at_call 11; (with_reducible refine (change_any c _ C6.out).mono ?_); rintro e w7 ⟨a, rfl, hda, hC, hg⟩; have HDA := Lib.hid hda; have P7 := Lib.hid (RowAt.grown P6.out hg (row_ne lt4)); have C7 := Lib.hid hC; have B7 := Lib.hid (B6.out.grown hg B6.out.size (fun k e => by injection e with e; omega)); clear hda hC hg P6 C6 B6)
    | (go_at_call 11; (with_reducible refine (change_any c _ C7.out).mono ?_); rintro e w8 ⟨b, rfl, hdb, hC, hg⟩; have HDB := Lib.hid hdb; have P8 := Lib.hid (RowAt.grown P7.out hg (row_ne lt4)); have B8 := Lib.hid (B7.out.grown hg B7.out.size (fun k e => by injection e with e; omega)); clear hdb hC hg P7 C7 B7)
    | (have lp8 := P8.out.lt; have le8 := B8.out.size; refine wp_newChgW rfl rfl ?_; intro w9 hA hb9 hz9; have A9 := Lib.hid hA; have P9 := Lib.hid (RowAt.keep P8.out hb9); have B9 := Lib.hid (B8.out.trans (hb9.mono B8.out.size)); clear hA hb9 P8 B8)
    | (have lp9 := A9.out.lt; have le9 := B9.out.size; refine wp_newChgW rfl rfl ?_; intro w10 hA hb10 hz10; have D10 := Lib.hid hA; have A10 := Lib.hid (RowAt.keep A9.out hb10); have P10 := Lib.hid (RowAt.keep P9.out hb10); have B10 := Lib.hid (B9.out.trans (hb10.mono B9.out.size)); clear hA hb10 A9 P9 B9)
    | (refine wp_storeChgW a A10.out (cvals_length _) rfl rfl rfl rfl ?_; intro w11 hA hS; have A11 := Lib.hid hA; have D11 := Lib.hid (hS.row D10.out (by omega)); have P11 := Lib.hid (hS.row P10.out (by omega)); have B11 := Lib.hid (hS.below B10.out (by omega)); clear hA hS A10 D10 P10 B10)
    | (refine wp_storeChgW b D11.out (cvals_length _) rfl rfl rfl rfl ?_; intro w12 hA hS; have D12 := Lib.hid hA; have A12 := Lib.hid (hS.row A11.out (by omega)); have P12 := Lib.hid (hS.row P11.out (by omega)); have B12 := Lib.hid (hS.below B11.out (by omega)); clear hA hS A11 D11 P11 B11))
  obtain ⟨k, hk0, hk1⟩ : ∃ k : Nat, a.slot = k ∧ k < 3 := ⟨a.slot.toNat, by have := HDA.out.2.2.1; omega, by have := HDA.out.2.2.2.1; omega⟩
  obtain ⟨a0, a1, a2, a3, a4, a5⟩ := ChAt.all A12.out
  have i1 := PgAt.setAt P12.out (show k < 16 by omega)
  have i2 := PgAt.dataAt P12.out (show k < 16 by omega)
  have f0 := RowAt.free A12.out 0
  have f2 := RowAt.free A12.out 2
  have f3 := RowAt.free A12.out 3
  rw [hk0] at a1
  have q0 : (0 : Int) ≤ (k : Int) := by omega
  have q1 : (k : Int) < 16 := by omega
  have HK0 := Lib.hid hk0
  clear hk0
  generalize w4.heap.size = xp at *
  generalize w8.heap.size = xa at *
  generalize w9.heap.size = xb at *
  apply wp_one
  · go_region
    · exact ⟨rfl, rfl⟩
    · exact ⟨rfl, rfl⟩
  have hA := (RowAt.set (RowAt.set (RowAt.set A12.out 0 (show 0 < 6 by decide) (.int .i64 1)) 2 (show 2 < 6 by decide) (.bool (p.cell k).set)) 3 (show 3 < 6 by decide) (.string (p.cell k).data)).drew
  have hP := (RowAt.setOther (RowAt.setOther (RowAt.setOther P12.out (a := ⟨xa, 0, none⟩) (by show xa ≠ xp; omega) (.int .i64 1)) (a := ⟨xa, 2, none⟩) (by show xa ≠ xp; omega) (.bool (p.cell k).set)) (a := ⟨xa, 3, none⟩) (by show xa ≠ xp; omega) (.string (p.cell k).data)).drew
  have hD := (RowAt.setOther (RowAt.setOther (RowAt.setOther D12.out (a := ⟨xa, 0, none⟩) (by show xa ≠ xb; omega) (.int .i64 1)) (a := ⟨xa, 2, none⟩) (by show xa ≠ xb; omega) (.bool (p.cell k).set)) (a := ⟨xa, 3, none⟩) (by show xa ≠ xb; omega) (.string (p.cell k).data)).drew
  have hB := (((Below.setCell B12.out (p := ⟨xa, 0, none⟩) (by show w.heap.size ≤ xa; omega) (.int .i64 1)).setCell (p := ⟨xa, 2, none⟩) (by show w.heap.size ≤ xa; omega) (.bool (p.cell k).set)).setCell (p := ⟨xa, 3, none⟩) (by show w.heap.size ≤ xa; omega) (.string (p.cell k).data)).drew
  clear a0 a1 a2 a3 a4 a5 i1 i2 f0 f2 f3 A12 P12 D12 B12
  generalize (((w12.setCell ⟨xa, 0, none⟩ (.int .i64 1)).setCell ⟨xa, 2, none⟩ (.bool (p.cell k).set)).setCell ⟨xa, 3, none⟩ (.string (p.cell k).data)).drew = w13 at *
  have hA2 : ChAt xa ⟨1, a.slot, p.cell k, a.after⟩ w13 := hA
  rw [HK0.out] at hA2
  clear hA
  obtain ⟨_, a1, _, _, a4, a5⟩ := ChAt.all hA2
  obtain ⟨b0, b1, b2, b3, _, _⟩ := ChAt.all hD
  have f0 := RowAt.free hD 0
  have f1 := RowAt.free hD 1
  have f2 := RowAt.free hD 2
  have f3 := RowAt.free hD 3
  simp only at a1 a4 a5
  have A13 := Lib.hid hA2
  have P13 := Lib.hid hP
  have D13 := Lib.hid hD
  have B13 := Lib.hid hB
  clear hA2 hP hD hB
  go_wp2_with fail
  apply wp_one
  · go_region
    · exact ⟨rfl, rfl⟩
  have hD : ChAt xb ⟨1, (k : Int), a.after, b.after⟩ _ := (RowAt.set (RowAt.set (RowAt.set (RowAt.set D13.out 0 (show 0 < 6 by decide) (.int .i64 1)) 1 (show 1 < 6 by decide) (.int .i64 (k : Int))) 2 (show 2 < 6 by decide) (.bool a.after.set)) 3 (show 3 < 6 by decide) (.string a.after.data)).drew
  have hP := (RowAt.setOther (RowAt.setOther (RowAt.setOther (RowAt.setOther P13.out (a := ⟨xb, 0, none⟩) (by show xb ≠ xp; omega) (.int .i64 1)) (a := ⟨xb, 1, none⟩) (by show xb ≠ xp; omega) (.int .i64 (k : Int))) (a := ⟨xb, 2, none⟩) (by show xb ≠ xp; omega) (.bool a.after.set)) (a := ⟨xb, 3, none⟩) (by show xb ≠ xp; omega) (.string a.after.data)).drew
  have hA := (RowAt.setOther (RowAt.setOther (RowAt.setOther (RowAt.setOther A13.out (a := ⟨xb, 0, none⟩) (by show xb ≠ xa; omega) (.int .i64 1)) (a := ⟨xb, 1, none⟩) (by show xb ≠ xa; omega) (.int .i64 (k : Int))) (a := ⟨xb, 2, none⟩) (by show xb ≠ xa; omega) (.bool a.after.set)) (a := ⟨xb, 3, none⟩) (by show xb ≠ xa; omega) (.string a.after.data)).drew
  have hB := ((((Below.setCell B13.out (p := ⟨xb, 0, none⟩) (by show w.heap.size ≤ xb; omega) (.int .i64 1)).setCell (p := ⟨xb, 1, none⟩) (by show w.heap.size ≤ xb; omega) (.int .i64 (k : Int))).setCell (p := ⟨xb, 2, none⟩) (by show w.heap.size ≤ xb; omega) (.bool a.after.set)).setCell (p := ⟨xb, 3, none⟩) (by show w.heap.size ≤ xb; omega) (.string a.after.data)).drew
  clear a1 a4 a5 b0 b1 b2 b3 f0 f1 f2 f3 A13 P13 D13 B13
  generalize ((((w13.setCell ⟨xb, 0, none⟩ (.int .i64 1)).setCell ⟨xb, 1, none⟩ (.int .i64 (k : Int))).setCell ⟨xb, 2, none⟩ (.bool a.after.set)).setCell ⟨xb, 3, none⟩ (.string a.after.data)).drew = w14 at *
  obtain ⟨x, y, z, q, j, m, ia, ib, H1, H2, H3, H4, H5, H6, H7, H8, H9, e1, e2⟩ := back_facts p 1 k a.after b.after (by decide) HPI.out.1 HPI.out.2 (by omega) HDA.out.2.2.2.2.2 HDB.out.2.2.2.2.2
  have S14 := Lib.hid ((((st_nil hB).add hD).add hA).add hP)
  clear hD hP hA hB
  generalize (Chg.mk 1 (k : Int) (p.cell k) a.after) = a2 at *
  generalize (Chg.mk 1 (k : Int) a.after b.after) = b2 at *
  have E1 := page_eql z p
  have E2 := page_eql q y
  have E3 := chg_eql_self m
  rw [e1] at E1
  rw [e2] at E2
  clear e1 e2 lt4 le4 hz5 le8 lp8 le9 hz10 hz9 lp9 hk1 q0 q1
  go_wp2_with (first
    | (refine wp_loadPage p (S14.out.row (b := xp) (vs := p.vals) (by simp)) rfl rfl rfl ?_)
    | (refine wp_loadChg a2 (S14.out.row (b := xa) (vs := a2.vals) (by simp)) rfl rfl rfl ?_)
    | (go_at_call 22; (with_reducible refine (H1.out _).mono ?_); rintro e w15 ⟨rfl, hb⟩; have S15 := Lib.hid (S14.out.keep hb); clear hb S14)
    | (have _t := S15.out; refine wp_newPageW rfl rfl ?_; intro w16 hP hb _; have N16 := Lib.hid hP; have M16 := Lib.hid hb; clear hP hb _t)
    | (refine wp_storePageW x N16.out (vals_length _) rfl rfl rfl rfl ?_; intro w17 hP hS; have S17 := Lib.hid (S15.out.push M16.out hP hS); clear hP hS S15 N16 M16)
    | (refine wp_loadPage x (S17.out.row (b := w15.heap.size) (vs := x.vals) (by simp)) rfl rfl rfl ?_)
    | (refine wp_loadChg b2 (S17.out.row (b := xb) (vs := b2.vals) (by simp)) rfl rfl rfl ?_)
    | (go_at_call 22; (with_reducible refine (H2.out _).mono ?_); rintro e w18 ⟨rfl, hb⟩; have S18 := Lib.hid (S17.out.keep hb); clear hb S17)
    | (have _t := S18.out; refine wp_newPageW rfl rfl ?_; intro w19 hP hb _; have N19 := Lib.hid hP; have M19 := Lib.hid hb; clear hP hb _t)
    | (refine wp_storePageW y N19.out (vals_length _) rfl rfl rfl rfl ?_; intro w20 hP hS; have S20 := Lib.hid (S18.out.push M19.out hP hS); clear hP hS S18 N19 M19))
  generalize w15.heap.size = xx at *
  generalize w18.heap.size = xy at *
  go_cut [11, 12] from 19 (fun s11 s12 wx => ∃ B, s11 = .pointer (some ⟨B, 0, none⟩) ∧ s12 = .int .i64 0 ∧ St [(B, z.vals), (xy, y.vals), (xx, x.vals), (xp, p.vals), (xa, a2.vals), (xb, b2.vals)] w wx)
  case first =>
    refine wp_region_held_drew (S := St [(xy, y.vals), (xx, x.vals), (xp, p.vals), (xa, a2.vals), (xb, b2.vals)] w) (by kernel_rfl) S20.out.drew (fun hHeld => ?_)
    refine wpAnyH_take (i := 0) (v := (.agg (Pg.arr x))) rfl (by kernel_rfl) (by kernel_rfl) (by kernel_rfl) (fun _ _ _ h => h) (yieldsIf_load_mid (by rfl) 27 _ rfl xx 0 rfl x.vals _ (fun W hSw => RowAt.range (hSw.row (b := xx) (vs := x.vals) (by simp)) 0 (fun j v hv => by rw [Nat.zero_add]; exact hv)) Try.underlying27 rfl (by rw [vals_length]; exact info_page)) (by assumption) ?_
    try simp only [Act.put, List.getElem_toArray, List.getElem_cons_zero, List.setIfInBounds_toArray, List.set_cons_zero, List.set_cons_succ]
    refine wpAnyH_take (i := 1) (v := (.agg (Chg.arr a2))) rfl (by kernel_rfl) (by kernel_rfl) (by kernel_rfl) (fun _ _ _ h => h) (yieldsIf_load_mid (by rfl) 29 _ rfl xa 0 rfl a2.vals _ (fun W hSw => RowAt.range (hSw.row (b := xa) (vs := a2.vals) (by simp)) 0 (fun j v hv => by rw [Nat.zero_add]; exact hv)) Try.underlying29 rfl (by rw [cvals_length]; exact info_change)) (by assumption) ?_
    try simp only [Act.put, List.getElem_toArray, List.getElem_cons_zero, List.getElem_cons_succ, List.setIfInBounds_toArray, List.set_cons_zero, List.set_cons_succ]
    refine wpAnyH_ready (rs := [2, 7]) (by kernel_rfl) (by simp) (AllReadyH.cons rfl (fun K hK => ?_) (AllReadyH.cons rfl (fun K hK => ?_) AllReadyH.nil))
    · go_simp
      go_wp2_with (go_at_call 17; (with_reducible refine (H3.out _).mono ?_); rintro e W10_1 ⟨rfl, hb10_3⟩)
      refine hK.out _ _ (hHeld.keep hb10_3) (fun hH10_2 => ?_)
      clear hK K
      try simp only [Act.put, List.getElem_toArray, List.getElem_cons_zero, List.getElem_cons_succ, List.setIfInBounds_toArray, List.set_cons_zero, List.set_cons_succ]
      refine wpAnyH_ready (rs := [3, 7]) (by kernel_rfl) (by simp) (AllReadyH.cons rfl (fun K hK => ?_) (AllReadyH.cons rfl (fun K hK => ?_) AllReadyH.nil))
      · go_simp
        go_wp2_with (go_at_call 22; (with_reducible refine (H4.out _).mono ?_); rintro e W10_4 ⟨rfl, hb10_6⟩)
        refine hK.out _ _ (hH10_2.keep hb10_6) (fun hH10_5 => ?_)
        clear hK K
        try simp only [Act.put, List.getElem_toArray, List.getElem_cons_zero, List.getElem_cons_succ, List.setIfInBounds_toArray, List.set_cons_zero, List.set_cons_succ]
        refine wpAnyH_take (i := 4) (v := ?_) rfl (by kernel_rfl) (by kernel_rfl) (by kernel_rfl) (fun _ _ _ h => h) (Or.inl ⟨by rfl, ?_⟩) (by assumption) ?_
        rotate_left
        · (intro W _; go_simp; try with_reducible rfl)
        try simp only [Act.put, List.getElem_toArray, List.getElem_cons_zero, List.getElem_cons_succ, List.setIfInBounds_toArray, List.set_cons_zero, List.set_cons_succ]
        refine wpAnyH_take (i := 5) (v := ?_) rfl (by kernel_rfl) (by kernel_rfl) (by kernel_rfl) (fun _ _ _ h => h) (Or.inl ⟨by rfl, ?_⟩) (by assumption) ?_
        rotate_left
        · (intro W _; go_simp; try with_reducible rfl)
        try simp only [Act.put, List.getElem_toArray, List.getElem_cons_zero, List.getElem_cons_succ, List.setIfInBounds_toArray, List.set_cons_zero, List.set_cons_succ]
        refine wpAnyH_take (i := 6) (v := ?_) rfl (by kernel_rfl) (by kernel_rfl) (by kernel_rfl) (fun _ _ _ h => h) (Or.inl ⟨by rfl, ?_⟩) (by assumption) ?_
        rotate_left
        · (intro W _; go_simp; try with_reducible rfl)
        try simp only [Act.put, List.getElem_toArray, List.getElem_cons_zero, List.getElem_cons_succ, List.setIfInBounds_toArray, List.set_cons_zero, List.set_cons_succ]
        refine wpAnyH_ready (rs := [7]) (by kernel_rfl) (by simp) (AllReadyH.cons rfl (fun K hK => ?_) AllReadyH.nil)
        · have ne10_11 := Lib.hid hH10_5.ne
          have le10_12 := Lib.hid hH10_5.2.size
          simp only [List.getElem_toArray, List.getElem_cons_zero, List.getElem_cons_succ]
          rw [if_pos (by rfl)]
          with_reducible refine op_newPage (by rfl) (fun W10_7 hP10_9 hb10_10 _ => ?_)
          have r10_13 := Lib.hid hP10_9
          refine hK.out _ _ (hH10_5.keep hb10_10) (fun hH10_8 => ?_)
          clear hK K
          simp only [Act.put, List.setIfInBounds_toArray, List.set_cons_zero, List.set_cons_succ]
          refine wpAnyH_ready (rs := [8]) (by kernel_rfl) (by simp) (AllReadyH.cons rfl (fun K hK => ?_) AllReadyH.nil)
          · simp only [List.getElem_toArray, List.getElem_cons_zero, List.getElem_cons_succ]
            rw [if_pos (by rfl)]
            with_reducible refine op_storePage z r10_13.out (vals_length _) (by rfl) ?_ ?_ (fun W10_14 hP10_16 hS10_17 => ?_)
            · rfl
            · rfl
            have r10_18 := Lib.hid hP10_16
            refine hK.out _ _ (hH10_8.stored ne10_11.out le10_12.out hS10_17) (fun hH10_15 => ?_)
            clear hK K
            simp only [Act.put]
            refine wpAnyH_take (i := 9) (v := ?_) rfl (by kernel_rfl) (by kernel_rfl) (by kernel_rfl) (fun _ _ _ h => h) (Or.inl ⟨by rfl, ?_⟩) (by assumption) ?_
            rotate_left
            · (intro W _; go_simp; try with_reducible rfl)
            try simp only [Act.put, List.getElem_toArray, List.getElem_cons_zero, List.getElem_cons_succ, List.setIfInBounds_toArray, List.set_cons_zero, List.set_cons_succ]
            refine wpAnyH_done (by kernel_rfl) ?_ _
            go_wp2_with fail
            go_meet
            exact ⟨_, rfl, rfl, hH10_15.add r10_18.out⟩
      · have ne10_23 := Lib.hid hH10_2.ne
        have le10_24 := Lib.hid hH10_2.2.size
        simp only [List.getElem_toArray, List.getElem_cons_zero, List.getElem_cons_succ]
        rw [if_pos (by rfl)]
        with_reducible refine op_newPage (by rfl) (fun W10_19 hP10_21 hb10_22 _ => ?_)
        have r10_25 := Lib.hid hP10_21
        refine hK.out _ _ (hH10_2.keep hb10_22) (fun hH10_20 => ?_)
        clear hK K
        simp only [Act.put, List.setIfInBounds_toArray, List.set_cons_zero, List.set_cons_succ]
        refine wpAnyH_ready (rs := [3]) (by kernel_rfl) (by simp) (AllReadyH.cons rfl (fun K hK => ?_) AllReadyH.nil)
        · go_simp
          go_wp2_with (go_at_call 22; (with_reducible refine (H4.out _).mono ?_); rintro e W10_26 ⟨rfl, hb10_28⟩)
          have r10_29 := Lib.hid (RowAt.keep r10_25.out hb10_28)
          refine hK.out _ _ (hH10_20.keep hb10_28) (fun hH10_27 => ?_)
          clear hK K
          try simp only [Act.put, List.getElem_toArray, List.getElem_cons_zero, List.getElem_cons_succ, List.setIfInBounds_toArray, List.set_cons_zero, List.set_cons_succ]
          refine wpAnyH_take (i := 4) (v := ?_) rfl (by kernel_rfl) (by kernel_rfl) (by kernel_rfl) (fun _ _ _ h => h) (Or.inl ⟨by rfl, ?_⟩) (by assumption) ?_
          rotate_left
          · (intro W _; go_simp; try with_reducible rfl)
          try simp only [Act.put, List.getElem_toArray, List.getElem_cons_zero, List.getElem_cons_succ, List.setIfInBounds_toArray, List.set_cons_zero, List.set_cons_succ]
          refine wpAnyH_take (i := 5) (v := ?_) rfl (by kernel_rfl) (by kernel_rfl) (by kernel_rfl) (fun _ _ _ h => h) (Or.inl ⟨by rfl, ?_⟩) (by assumption) ?_
          rotate_left
          · (intro W _; go_simp; try with_reducible rfl)
          try simp only [Act.put, List.getElem_toArray, List.getElem_cons_zero, List.getElem_cons_succ, List.setIfInBounds_toArray, List.set_cons_zero, List.set_cons_succ]
          refine wpAnyH_take (i := 6) (v := ?_) rfl (by kernel_rfl) (by kernel_rfl) (by kernel_rfl) (fun _ _ _ h => h) (Or.inl ⟨by rfl, ?_⟩) (by assumption) ?_
          rotate_left
          · (intro W _; go_simp; try with_reducible rfl)
          try simp only [Act.put, List.getElem_toArray, List.getElem_cons_zero, List.getElem_cons_succ, List.setIfInBounds_toArray, List.set_cons_zero, List.set_cons_succ]
          refine wpAnyH_ready (rs := [8]) (by kernel_rfl) (by simp) (AllReadyH.cons rfl (fun K hK => ?_) AllReadyH.nil)
          · simp only [List.getElem_toArray, List.getElem_cons_zero, List.getElem_cons_succ]
            rw [if_pos (by rfl)]
            with_reducible refine op_storePage z r10_29.out (vals_length _) (by rfl) ?_ ?_ (fun W10_30 hP10_32 hS10_33 => ?_)
            · rfl
            · rfl
            have r10_34 := Lib.hid hP10_32
            refine hK.out _ _ (hH10_27.stored ne10_23.out le10_24.out hS10_33) (fun hH10_31 => ?_)
            clear hK K
            simp only [Act.put]
            refine wpAnyH_take (i := 9) (v := ?_) rfl (by kernel_rfl) (by kernel_rfl) (by kernel_rfl) (fun _ _ _ h => h) (Or.inl ⟨by rfl, ?_⟩) (by assumption) ?_
            rotate_left
            · (intro W _; go_simp; try with_reducible rfl)
            try simp only [Act.put, List.getElem_toArray, List.getElem_cons_zero, List.getElem_cons_succ, List.setIfInBounds_toArray, List.set_cons_zero, List.set_cons_succ]
            refine wpAnyH_done (by kernel_rfl) ?_ _
            go_wp2_with fail
            go_meet
            exact ⟨_, rfl, rfl, hH10_31.add r10_34.out⟩
    · have ne10_39 := Lib.hid hHeld.ne
      have le10_40 := Lib.hid hHeld.2.size
      simp only [List.getElem_toArray, List.getElem_cons_zero, List.getElem_cons_succ]
      rw [if_pos (by rfl)]
      with_reducible refine op_newPage (by rfl) (fun W10_35 hP10_37 hb10_38 _ => ?_)
      have r10_41 := Lib.hid hP10_37
      refine hK.out _ _ (hHeld.keep hb10_38) (fun hH10_36 => ?_)
      clear hK K
      simp only [Act.put, List.setIfInBounds_toArray, List.set_cons_zero, List.set_cons_succ]
      refine wpAnyH_ready (rs := [2]) (by kernel_rfl) (by simp) (AllReadyH.cons rfl (fun K hK => ?_) AllReadyH.nil)
      · go_simp
        go_wp2_with (go_at_call 17; (with_reducible refine (H3.out _).mono ?_); rintro e W10_42 ⟨rfl, hb10_44⟩)
        have r10_45 := Lib.hid (RowAt.keep r10_41.out hb10_44)
        refine hK.out _ _ (hH10_36.keep hb10_44) (fun hH10_43 => ?_)
        clear hK K
        try simp only [Act.put, List.getElem_toArray, List.getElem_cons_zero, List.getElem_cons_succ, List.setIfInBounds_toArray, List.set_cons_zero, List.set_cons_succ]
        refine wpAnyH_ready (rs := [3]) (by kernel_rfl) (by simp) (AllReadyH.cons rfl (fun K hK => ?_) AllReadyH.nil)
        · go_simp
          go_wp2_with (go_at_call 22; (with_reducible refine (H4.out _).mono ?_); rintro e W10_46 ⟨rfl, hb10_48⟩)
          have r10_49 := Lib.hid (RowAt.keep r10_45.out hb10_48)
          refine hK.out _ _ (hH10_43.keep hb10_48) (fun hH10_47 => ?_)
          clear hK K
          try simp only [Act.put, List.getElem_toArray, List.getElem_cons_zero, List.getElem_cons_succ, List.setIfInBounds_toArray, List.set_cons_zero, List.set_cons_succ]
          refine wpAnyH_take (i := 4) (v := ?_) rfl (by kernel_rfl) (by kernel_rfl) (by kernel_rfl) (fun _ _ _ h => h) (Or.inl ⟨by rfl, ?_⟩) (by assumption) ?_
          rotate_left
          · (intro W _; go_simp; try with_reducible rfl)
          try simp only [Act.put, List.getElem_toArray, List.getElem_cons_zero, List.getElem_cons_succ, List.setIfInBounds_toArray, List.set_cons_zero, List.set_cons_succ]
          refine wpAnyH_take (i := 5) (v := ?_) rfl (by kernel_rfl) (by kernel_rfl) (by kernel_rfl) (fun _ _ _ h => h) (Or.inl ⟨by rfl, ?_⟩) (by assumption) ?_
          rotate_left
          · (intro W _; go_simp; try with_reducible rfl)
          try simp only [Act.put, List.getElem_toArray, List.getElem_cons_zero, List.getElem_cons_succ, List.setIfInBounds_toArray, List.set_cons_zero, List.set_cons_succ]
          refine wpAnyH_take (i := 6) (v := ?_) rfl (by kernel_rfl) (by kernel_rfl) (by kernel_rfl) (fun _ _ _ h => h) (Or.inl ⟨by rfl, ?_⟩) (by assumption) ?_
          rotate_left
          · (intro W _; go_simp; try with_reducible rfl)
          try simp only [Act.put, List.getElem_toArray, List.getElem_cons_zero, List.getElem_cons_succ, List.setIfInBounds_toArray, List.set_cons_zero, List.set_cons_succ]
          refine wpAnyH_ready (rs := [8]) (by kernel_rfl) (by simp) (AllReadyH.cons rfl (fun K hK => ?_) AllReadyH.nil)
          · simp only [List.getElem_toArray, List.getElem_cons_zero, List.getElem_cons_succ]
            rw [if_pos (by rfl)]
            with_reducible refine op_storePage z r10_49.out (vals_length _) (by rfl) ?_ ?_ (fun W10_50 hP10_52 hS10_53 => ?_)
            · rfl
            · rfl
            have r10_54 := Lib.hid hP10_52
            refine hK.out _ _ (hH10_47.stored ne10_39.out le10_40.out hS10_53) (fun hH10_51 => ?_)
            clear hK K
            simp only [Act.put]
            refine wpAnyH_take (i := 9) (v := ?_) rfl (by kernel_rfl) (by kernel_rfl) (by kernel_rfl) (fun _ _ _ h => h) (Or.inl ⟨by rfl, ?_⟩) (by assumption) ?_
            rotate_left
            · (intro W _; go_simp; try with_reducible rfl)
            try simp only [Act.put, List.getElem_toArray, List.getElem_cons_zero, List.getElem_cons_succ, List.setIfInBounds_toArray, List.set_cons_zero, List.set_cons_succ]
            refine wpAnyH_done (by kernel_rfl) ?_ _
            go_wp2_with fail
            go_meet
            exact ⟨_, rfl, rfl, hH10_51.add r10_54.out⟩
  case rest =>
  obtain ⟨xz, rfl, rfl, S24⟩ := hcut
  replace S24 := Lib.hid S24
  clear S20
  go_wp2_with (first
    | (refine wp_loadChg a2 (S24.out.row (b := xa) (vs := a2.vals) (by simp)) rfl rfl rfl ?_)
    | (refine wp_loadChg b2 (S24.out.row (b := xb) (vs := b2.vals) (by simp)) rfl rfl rfl ?_)
    | (go_at_call 13; (with_reducible refine (H5.out _).mono ?_); rintro e w25 ⟨rfl, hb⟩; have S25 := Lib.hid (S24.out.keep hb); clear hb S24)
    | (have _t := S25.out; refine wp_newChgW rfl rfl ?_; intro w26 hP hb _; have N26 := Lib.hid hP; have M26 := Lib.hid hb; clear hP hb _t)
    | (refine wp_storeChgW j N26.out (cvals_length _) rfl rfl rfl rfl ?_; intro w27 hP hS; have S27 := Lib.hid (S25.out.push M26.out hP hS); clear hP hS S25 N26 M26)
    | (refine wp_loadPage p (S27.out.row (b := xp) (vs := p.vals) (by simp)) rfl rfl rfl ?_)
    | (refine wp_loadChg j (S27.out.row (b := w25.heap.size) (vs := j.vals) (by simp)) rfl rfl rfl ?_)
    | (go_at_call 22; (with_reducible refine (H6.out _).mono ?_); rintro e w28 ⟨rfl, hb⟩; have S28 := Lib.hid (S27.out.keep hb); clear hb S27)
    | (have _t := S28.out; refine wp_newPageW rfl rfl ?_; intro w29 hP hb _; have N29 := Lib.hid hP; have M29 := Lib.hid hb; clear hP hb _t)
    | (refine wp_storePageW q N29.out (vals_length _) rfl rfl rfl rfl ?_; intro w30 hP hS; have S30 := Lib.hid (S28.out.push M29.out hP hS); clear hP hS S28 N29 M29))
  generalize w25.heap.size = xj at *
  generalize w28.heap.size = xq at *
  go_cut [17, 18] from 19 (fun s17 s18 wx => ∃ B, s17 = .pointer (some ⟨B, 0, none⟩) ∧ s18 = .int .i64 0 ∧ St [(B, m.vals), (xq, q.vals), (xj, j.vals), (xz, z.vals), (xy, y.vals), (xx, x.vals), (xp, p.vals), (xa, a2.vals), (xb, b2.vals)] w wx)
  case first =>
    refine wp_region_held_drew (S := St [(xq, q.vals), (xj, j.vals), (xz, z.vals), (xy, y.vals), (xx, x.vals), (xp, p.vals), (xa, a2.vals), (xb, b2.vals)] w) (by kernel_rfl) S30.out.drew (fun hHeld => ?_)
    refine wpAnyH_take (i := 0) (v := (.agg (Chg.arr b2))) rfl (by kernel_rfl) (by kernel_rfl) (by kernel_rfl) (fun _ _ _ h => h) (yieldsIf_load_mid (by rfl) 29 _ rfl xb 0 rfl b2.vals _ (fun W hSw => RowAt.range (hSw.row (b := xb) (vs := b2.vals) (by simp)) 0 (fun j v hv => by rw [Nat.zero_add]; exact hv)) Try.underlying29 rfl (by rw [cvals_length]; exact info_change)) (by assumption) ?_
    try simp only [Act.put, List.getElem_toArray, List.getElem_cons_zero, List.setIfInBounds_toArray, List.set_cons_zero, List.set_cons_succ]
    refine wpAnyH_take (i := 2) (v := (.agg (Chg.arr a2))) rfl (by kernel_rfl) (by kernel_rfl) (by kernel_rfl) (fun _ _ _ h => h) (yieldsIf_load_mid (by rfl) 29 _ rfl xa 0 rfl a2.vals _ (fun W hSw => RowAt.range (hSw.row (b := xa) (vs := a2.vals) (by simp)) 0 (fun j v hv => by rw [Nat.zero_add]; exact hv)) Try.underlying29 rfl (by rw [cvals_length]; exact info_change)) (by assumption) ?_
    try simp only [Act.put, List.getElem_toArray, List.getElem_cons_zero, List.getElem_cons_succ, List.setIfInBounds_toArray, List.set_cons_zero, List.set_cons_succ]
    refine wpAnyH_ready (rs := [1, 8]) (by kernel_rfl) (by simp) (AllReadyH.cons rfl (fun K hK => ?_) (AllReadyH.cons rfl (fun K hK => ?_) AllReadyH.nil))
    · go_simp
      go_wp2_with (go_at_call 17; (with_reducible refine (H7.out _).mono ?_); rintro e W13_1 ⟨rfl, hb13_3⟩)
      refine hK.out _ _ (hHeld.keep hb13_3) (fun hH13_2 => ?_)
      clear hK K
      try simp only [Act.put, List.getElem_toArray, List.getElem_cons_zero, List.getElem_cons_succ, List.setIfInBounds_toArray, List.set_cons_zero, List.set_cons_succ]
      refine wpAnyH_ready (rs := [3, 8]) (by kernel_rfl) (by simp) (AllReadyH.cons rfl (fun K hK => ?_) (AllReadyH.cons rfl (fun K hK => ?_) AllReadyH.nil))
      · go_simp
        go_wp2_with (go_at_call 17; (with_reducible refine (H3.out _).mono ?_); rintro e W13_4 ⟨rfl, hb13_6⟩)
        refine hK.out _ _ (hH13_2.keep hb13_6) (fun hH13_5 => ?_)
        clear hK K
        try simp only [Act.put, List.getElem_toArray, List.getElem_cons_zero, List.getElem_cons_succ, List.setIfInBounds_toArray, List.set_cons_zero, List.set_cons_succ]
        refine wpAnyH_ready (rs := [4, 8]) (by kernel_rfl) (by simp) (AllReadyH.cons rfl (fun K hK => ?_) (AllReadyH.cons rfl (fun K hK => ?_) AllReadyH.nil))
        · go_simp
          go_wp2_with (go_at_call 13; (with_reducible refine (H8.out _).mono ?_); rintro e W13_7 ⟨rfl, hb13_9⟩)
          refine hK.out _ _ (hH13_5.keep hb13_9) (fun hH13_8 => ?_)
          clear hK K
          try simp only [Act.put, List.getElem_toArray, List.getElem_cons_zero, List.getElem_cons_succ, List.setIfInBounds_toArray, List.set_cons_zero, List.set_cons_succ]
          refine wpAnyH_take (i := 5) (v := ?_) rfl (by kernel_rfl) (by kernel_rfl) (by kernel_rfl) (fun _ _ _ h => h) (Or.inl ⟨by rfl, ?_⟩) (by assumption) ?_
          rotate_left
          · (intro W _; go_simp; try with_reducible rfl)
          try simp only [Act.put, List.getElem_toArray, List.getElem_cons_zero, List.getElem_cons_succ, List.setIfInBounds_toArray, List.set_cons_zero, List.set_cons_succ]
          refine wpAnyH_take (i := 6) (v := ?_) rfl (by kernel_rfl) (by kernel_rfl) (by kernel_rfl) (fun _ _ _ h => h) (Or.inl ⟨by rfl, ?_⟩) (by assumption) ?_
          rotate_left
          · (intro W _; go_simp; try with_reducible rfl)
          try simp only [Act.put, List.getElem_toArray, List.getElem_cons_zero, List.getElem_cons_succ, List.setIfInBounds_toArray, List.set_cons_zero, List.set_cons_succ]
          refine wpAnyH_take (i := 7) (v := ?_) rfl (by kernel_rfl) (by kernel_rfl) (by kernel_rfl) (fun _ _ _ h => h) (Or.inl ⟨by rfl, ?_⟩) (by assumption) ?_
          rotate_left
          · (intro W _; go_simp; try with_reducible rfl)
          try simp only [Act.put, List.getElem_toArray, List.getElem_cons_zero, List.getElem_cons_succ, List.setIfInBounds_toArray, List.set_cons_zero, List.set_cons_succ]
          refine wpAnyH_ready (rs := [8]) (by kernel_rfl) (by simp) (AllReadyH.cons rfl (fun K hK => ?_) AllReadyH.nil)
          · have ne13_14 := Lib.hid hH13_8.ne
            have le13_15 := Lib.hid hH13_8.2.size
            simp only [List.getElem_toArray, List.getElem_cons_zero, List.getElem_cons_succ]
            rw [if_pos (by rfl)]
            with_reducible refine op_newChg (by rfl) (fun W13_10 hP13_12 hb13_13 _ => ?_)
            have r13_16 := Lib.hid hP13_12
            refine hK.out _ _ (hH13_8.keep hb13_13) (fun hH13_11 => ?_)
            clear hK K
            simp only [Act.put, List.setIfInBounds_toArray, List.set_cons_zero, List.set_cons_succ]
            refine wpAnyH_ready (rs := [9]) (by kernel_rfl) (by simp) (AllReadyH.cons rfl (fun K hK => ?_) AllReadyH.nil)
            · simp only [List.getElem_toArray, List.getElem_cons_zero, List.getElem_cons_succ]
              rw [if_pos (by rfl)]
              with_reducible refine op_storeChg m r13_16.out (cvals_length _) (by rfl) ?_ ?_ (fun W13_17 hP13_19 hS13_20 => ?_)
              · rfl
              · rfl
              have r13_21 := Lib.hid hP13_19
              refine hK.out _ _ (hH13_11.stored ne13_14.out le13_15.out hS13_20) (fun hH13_18 => ?_)
              clear hK K
              simp only [Act.put]
              refine wpAnyH_take (i := 10) (v := ?_) rfl (by kernel_rfl) (by kernel_rfl) (by kernel_rfl) (fun _ _ _ h => h) (Or.inl ⟨by rfl, ?_⟩) (by assumption) ?_
              rotate_left
              · (intro W _; go_simp; try with_reducible rfl)
              try simp only [Act.put, List.getElem_toArray, List.getElem_cons_zero, List.getElem_cons_succ, List.setIfInBounds_toArray, List.set_cons_zero, List.set_cons_succ]
              refine wpAnyH_done (by kernel_rfl) ?_ _
              go_wp2_with fail
              go_meet
              exact ⟨_, rfl, rfl, hH13_18.add r13_21.out⟩
        · have ne13_26 := Lib.hid hH13_5.ne
          have le13_27 := Lib.hid hH13_5.2.size
          simp only [List.getElem_toArray, List.getElem_cons_zero, List.getElem_cons_succ]
          rw [if_pos (by rfl)]
          with_reducible refine op_newChg (by rfl) (fun W13_22 hP13_24 hb13_25 _ => ?_)
          have r13_28 := Lib.hid hP13_24
          refine hK.out _ _ (hH13_5.keep hb13_25) (fun hH13_23 => ?_)
          clear hK K
          simp only [Act.put, List.setIfInBounds_toArray, List.set_cons_zero, List.set_cons_succ]
          refine wpAnyH_ready (rs := [4]) (by kernel_rfl) (by simp) (AllReadyH.cons rfl (fun K hK => ?_) AllReadyH.nil)
          · go_simp
            go_wp2_with (go_at_call 13; (with_reducible refine (H8.out _).mono ?_); rintro e W13_29 ⟨rfl, hb13_31⟩)
            have r13_32 := Lib.hid (RowAt.keep r13_28.out hb13_31)
            refine hK.out _ _ (hH13_23.keep hb13_31) (fun hH13_30 => ?_)
            clear hK K
            try simp only [Act.put, List.getElem_toArray, List.getElem_cons_zero, List.getElem_cons_succ, List.setIfInBounds_toArray, List.set_cons_zero, List.set_cons_succ]
            refine wpAnyH_take (i := 5) (v := ?_) rfl (by kernel_rfl) (by kernel_rfl) (by kernel_rfl) (fun _ _ _ h => h) (Or.inl ⟨by rfl, ?_⟩) (by assumption) ?_
            rotate_left
            · (intro W _; go_simp; try with_reducible rfl)
            try simp only [Act.put, List.getElem_toArray, List.getElem_cons_zero, List.getElem_cons_succ, List.setIfInBounds_toArray, List.set_cons_zero, List.set_cons_succ]
            refine wpAnyH_take (i := 6) (v := ?_) rfl (by kernel_rfl) (by kernel_rfl) (by kernel_rfl) (fun _ _ _ h => h) (Or.inl ⟨by rfl, ?_⟩) (by assumption) ?_
            rotate_left
            · (intro W _; go_simp; try with_reducible rfl)
            try simp only [Act.put, List.getElem_toArray, List.getElem_cons_zero, List.getElem_cons_succ, List.setIfInBounds_toArray, List.set_cons_zero, List.set_cons_succ]
            refine wpAnyH_take (i := 7) (v := ?_) rfl (by kernel_rfl) (by kernel_rfl) (by kernel_rfl) (fun _ _ _ h => h) (Or.inl ⟨by rfl, ?_⟩) (by assumption) ?_
            rotate_left
            · (intro W _; go_simp; try with_reducible rfl)
            try simp only [Act.put, List.getElem_toArray, List.getElem_cons_zero, List.getElem_cons_succ, List.setIfInBounds_toArray, List.set_cons_zero, List.set_cons_succ]
            refine wpAnyH_ready (rs := [9]) (by kernel_rfl) (by simp) (AllReadyH.cons rfl (fun K hK => ?_) AllReadyH.nil)
            · simp only [List.getElem_toArray, List.getElem_cons_zero, List.getElem_cons_succ]
              rw [if_pos (by rfl)]
              with_reducible refine op_storeChg m r13_32.out (cvals_length _) (by rfl) ?_ ?_ (fun W13_33 hP13_35 hS13_36 => ?_)
              · rfl
              · rfl
              have r13_37 := Lib.hid hP13_35
              refine hK.out _ _ (hH13_30.stored ne13_26.out le13_27.out hS13_36) (fun hH13_34 => ?_)
              clear hK K
              simp only [Act.put]
              refine wpAnyH_take (i := 10) (v := ?_) rfl (by kernel_rfl) (by kernel_rfl) (by kernel_rfl) (fun _ _ _ h => h) (Or.inl ⟨by rfl, ?_⟩) (by assumption) ?_
              rotate_left
              · (intro W _; go_simp; try with_reducible rfl)
              try simp only [Act.put, List.getElem_toArray, List.getElem_cons_zero, List.getElem_cons_succ, List.setIfInBounds_toArray, List.set_cons_zero, List.set_cons_succ]
              refine wpAnyH_done (by kernel_rfl) ?_ _
              go_wp2_with fail
              go_meet
              exact ⟨_, rfl, rfl, hH13_34.add r13_37.out⟩
      · have ne13_42 := Lib.hid hH13_2.ne
        have le13_43 := Lib.hid hH13_2.2.size
        simp only [List.getElem_toArray, List.getElem_cons_zero, List.getElem_cons_succ]
        rw [if_pos (by rfl)]
        with_reducible refine op_newChg (by rfl) (fun W13_38 hP13_40 hb13_41 _ => ?_)
        have r13_44 := Lib.hid hP13_40
        refine hK.out _ _ (hH13_2.keep hb13_41) (fun hH13_39 => ?_)
        clear hK K
        simp only [Act.put, List.setIfInBounds_toArray, List.set_cons_zero, List.set_cons_succ]
        refine wpAnyH_ready (rs := [3]) (by kernel_rfl) (by simp) (AllReadyH.cons rfl (fun K hK => ?_) AllReadyH.nil)
        · go_simp
          go_wp2_with (go_at_call 17; (with_reducible refine (H3.out _).mono ?_); rintro e W13_45 ⟨rfl, hb13_47⟩)
          have r13_48 := Lib.hid (RowAt.keep r13_44.out hb13_47)
          refine hK.out _ _ (hH13_39.keep hb13_47) (fun hH13_46 => ?_)
          clear hK K
          try simp only [Act.put, List.getElem_toArray, List.getElem_cons_zero, List.getElem_cons_succ, List.setIfInBounds_toArray, List.set_cons_zero, List.set_cons_succ]
          refine wpAnyH_ready (rs := [4]) (by kernel_rfl) (by simp) (AllReadyH.cons rfl (fun K hK => ?_) AllReadyH.nil)
          · go_simp
            go_wp2_with (go_at_call 13; (with_reducible refine (H8.out _).mono ?_); rintro e W13_49 ⟨rfl, hb13_51⟩)
            have r13_52 := Lib.hid (RowAt.keep r13_48.out hb13_51)
            refine hK.out _ _ (hH13_46.keep hb13_51) (fun hH13_50 => ?_)
            clear hK K
            try simp only [Act.put, List.getElem_toArray, List.getElem_cons_zero, List.getElem_cons_succ, List.setIfInBounds_toArray, List.set_cons_zero, List.set_cons_succ]
            refine wpAnyH_take (i := 5) (v := ?_) rfl (by kernel_rfl) (by kernel_rfl) (by kernel_rfl) (fun _ _ _ h => h) (Or.inl ⟨by rfl, ?_⟩) (by assumption) ?_
            rotate_left
            · (intro W _; go_simp; try with_reducible rfl)
            try simp only [Act.put, List.getElem_toArray, List.getElem_cons_zero, List.getElem_cons_succ, List.setIfInBounds_toArray, List.set_cons_zero, List.set_cons_succ]
            refine wpAnyH_take (i := 6) (v := ?_) rfl (by kernel_rfl) (by kernel_rfl) (by kernel_rfl) (fun _ _ _ h => h) (Or.inl ⟨by rfl, ?_⟩) (by assumption) ?_
            rotate_left
            · (intro W _; go_simp; try with_reducible rfl)
            try simp only [Act.put, List.getElem_toArray, List.getElem_cons_zero, List.getElem_cons_succ, List.setIfInBounds_toArray, List.set_cons_zero, List.set_cons_succ]
            refine wpAnyH_take (i := 7) (v := ?_) rfl (by kernel_rfl) (by kernel_rfl) (by kernel_rfl) (fun _ _ _ h => h) (Or.inl ⟨by rfl, ?_⟩) (by assumption) ?_
            rotate_left
            · (intro W _; go_simp; try with_reducible rfl)
            try simp only [Act.put, List.getElem_toArray, List.getElem_cons_zero, List.getElem_cons_succ, List.setIfInBounds_toArray, List.set_cons_zero, List.set_cons_succ]
            refine wpAnyH_ready (rs := [9]) (by kernel_rfl) (by simp) (AllReadyH.cons rfl (fun K hK => ?_) AllReadyH.nil)
            · simp only [List.getElem_toArray, List.getElem_cons_zero, List.getElem_cons_succ]
              rw [if_pos (by rfl)]
              with_reducible refine op_storeChg m r13_52.out (cvals_length _) (by rfl) ?_ ?_ (fun W13_53 hP13_55 hS13_56 => ?_)
              · rfl
              · rfl
              have r13_57 := Lib.hid hP13_55
              refine hK.out _ _ (hH13_50.stored ne13_42.out le13_43.out hS13_56) (fun hH13_54 => ?_)
              clear hK K
              simp only [Act.put]
              refine wpAnyH_take (i := 10) (v := ?_) rfl (by kernel_rfl) (by kernel_rfl) (by kernel_rfl) (fun _ _ _ h => h) (Or.inl ⟨by rfl, ?_⟩) (by assumption) ?_
              rotate_left
              · (intro W _; go_simp; try with_reducible rfl)
              try simp only [Act.put, List.getElem_toArray, List.getElem_cons_zero, List.getElem_cons_succ, List.setIfInBounds_toArray, List.set_cons_zero, List.set_cons_succ]
              refine wpAnyH_done (by kernel_rfl) ?_ _
              go_wp2_with fail
              go_meet
              exact ⟨_, rfl, rfl, hH13_54.add r13_57.out⟩
    · have ne13_62 := Lib.hid hHeld.ne
      have le13_63 := Lib.hid hHeld.2.size
      simp only [List.getElem_toArray, List.getElem_cons_zero, List.getElem_cons_succ]
      rw [if_pos (by rfl)]
      with_reducible refine op_newChg (by rfl) (fun W13_58 hP13_60 hb13_61 _ => ?_)
      have r13_64 := Lib.hid hP13_60
      refine hK.out _ _ (hHeld.keep hb13_61) (fun hH13_59 => ?_)
      clear hK K
      simp only [Act.put, List.setIfInBounds_toArray, List.set_cons_zero, List.set_cons_succ]
      refine wpAnyH_ready (rs := [1]) (by kernel_rfl) (by simp) (AllReadyH.cons rfl (fun K hK => ?_) AllReadyH.nil)
      · go_simp
        go_wp2_with (go_at_call 17; (with_reducible refine (H7.out _).mono ?_); rintro e W13_65 ⟨rfl, hb13_67⟩)
        have r13_68 := Lib.hid (RowAt.keep r13_64.out hb13_67)
        refine hK.out _ _ (hH13_59.keep hb13_67) (fun hH13_66 => ?_)
        clear hK K
        try simp only [Act.put, List.getElem_toArray, List.getElem_cons_zero, List.getElem_cons_succ, List.setIfInBounds_toArray, List.set_cons_zero, List.set_cons_succ]
        refine wpAnyH_ready (rs := [3]) (by kernel_rfl) (by simp) (AllReadyH.cons rfl (fun K hK => ?_) AllReadyH.nil)
        · go_simp
          go_wp2_with (go_at_call 17; (with_reducible refine (H3.out _).mono ?_); rintro e W13_69 ⟨rfl, hb13_71⟩)
          have r13_72 := Lib.hid (RowAt.keep r13_68.out hb13_71)
          refine hK.out _ _ (hH13_66.keep hb13_71) (fun hH13_70 => ?_)
          clear hK K
          try simp only [Act.put, List.getElem_toArray, List.getElem_cons_zero, List.getElem_cons_succ, List.setIfInBounds_toArray, List.set_cons_zero, List.set_cons_succ]
          refine wpAnyH_ready (rs := [4]) (by kernel_rfl) (by simp) (AllReadyH.cons rfl (fun K hK => ?_) AllReadyH.nil)
          · go_simp
            go_wp2_with (go_at_call 13; (with_reducible refine (H8.out _).mono ?_); rintro e W13_73 ⟨rfl, hb13_75⟩)
            have r13_76 := Lib.hid (RowAt.keep r13_72.out hb13_75)
            refine hK.out _ _ (hH13_70.keep hb13_75) (fun hH13_74 => ?_)
            clear hK K
            try simp only [Act.put, List.getElem_toArray, List.getElem_cons_zero, List.getElem_cons_succ, List.setIfInBounds_toArray, List.set_cons_zero, List.set_cons_succ]
            refine wpAnyH_take (i := 5) (v := ?_) rfl (by kernel_rfl) (by kernel_rfl) (by kernel_rfl) (fun _ _ _ h => h) (Or.inl ⟨by rfl, ?_⟩) (by assumption) ?_
            rotate_left
            · (intro W _; go_simp; try with_reducible rfl)
            try simp only [Act.put, List.getElem_toArray, List.getElem_cons_zero, List.getElem_cons_succ, List.setIfInBounds_toArray, List.set_cons_zero, List.set_cons_succ]
            refine wpAnyH_take (i := 6) (v := ?_) rfl (by kernel_rfl) (by kernel_rfl) (by kernel_rfl) (fun _ _ _ h => h) (Or.inl ⟨by rfl, ?_⟩) (by assumption) ?_
            rotate_left
            · (intro W _; go_simp; try with_reducible rfl)
            try simp only [Act.put, List.getElem_toArray, List.getElem_cons_zero, List.getElem_cons_succ, List.setIfInBounds_toArray, List.set_cons_zero, List.set_cons_succ]
            refine wpAnyH_take (i := 7) (v := ?_) rfl (by kernel_rfl) (by kernel_rfl) (by kernel_rfl) (fun _ _ _ h => h) (Or.inl ⟨by rfl, ?_⟩) (by assumption) ?_
            rotate_left
            · (intro W _; go_simp; try with_reducible rfl)
            try simp only [Act.put, List.getElem_toArray, List.getElem_cons_zero, List.getElem_cons_succ, List.setIfInBounds_toArray, List.set_cons_zero, List.set_cons_succ]
            refine wpAnyH_ready (rs := [9]) (by kernel_rfl) (by simp) (AllReadyH.cons rfl (fun K hK => ?_) AllReadyH.nil)
            · simp only [List.getElem_toArray, List.getElem_cons_zero, List.getElem_cons_succ]
              rw [if_pos (by rfl)]
              with_reducible refine op_storeChg m r13_76.out (cvals_length _) (by rfl) ?_ ?_ (fun W13_77 hP13_79 hS13_80 => ?_)
              · rfl
              · rfl
              have r13_81 := Lib.hid hP13_79
              refine hK.out _ _ (hH13_74.stored ne13_62.out le13_63.out hS13_80) (fun hH13_78 => ?_)
              clear hK K
              simp only [Act.put]
              refine wpAnyH_take (i := 10) (v := ?_) rfl (by kernel_rfl) (by kernel_rfl) (by kernel_rfl) (fun _ _ _ h => h) (Or.inl ⟨by rfl, ?_⟩) (by assumption) ?_
              rotate_left
              · (intro W _; go_simp; try with_reducible rfl)
              try simp only [Act.put, List.getElem_toArray, List.getElem_cons_zero, List.getElem_cons_succ, List.setIfInBounds_toArray, List.set_cons_zero, List.set_cons_succ]
              refine wpAnyH_done (by kernel_rfl) ?_ _
              go_wp2_with fail
              go_meet
              exact ⟨_, rfl, rfl, hH13_78.add r13_81.out⟩
  case rest =>
  obtain ⟨xm, rfl, rfl, S34⟩ := hcut
  replace S34 := Lib.hid S34
  clear S30
  go_wp2_with fail
  refine wp_region_held_drew (S := St [(xm, m.vals), (xq, q.vals), (xj, j.vals), (xz, z.vals), (xy, y.vals), (xx, x.vals), (xp, p.vals), (xa, a2.vals), (xb, b2.vals)] w) (by kernel_rfl) S34.out.drew (fun hHeld => ?_)
  refine wpAnyH_take (i := 0) (v := ?_) rfl (by kernel_rfl) (by kernel_rfl) (by kernel_rfl) (fun _ _ _ h => h) (Or.inl ⟨by rfl, ?_⟩) (by assumption) ?_
  rotate_left
  · (intro W _; go_simp; try with_reducible rfl)
  try simp only [Act.put, List.getElem_toArray, List.getElem_cons_zero, List.setIfInBounds_toArray, List.set_cons_zero, List.set_cons_succ]
  refine wpAnyH_take (i := 1) (v := ?_) rfl (by kernel_rfl) (by kernel_rfl) (by kernel_rfl) (fun _ _ _ h => h) (Or.inl ⟨by rfl, ?_⟩) (by assumption) ?_
  rotate_left
  · (intro W _; go_simp; try with_reducible rfl)
  try simp only [Act.put, List.getElem_toArray, List.getElem_cons_zero, List.getElem_cons_succ, List.setIfInBounds_toArray, List.set_cons_zero, List.set_cons_succ]
  refine wpAnyH_take (i := 2) (v := ?_) rfl (by kernel_rfl) (by kernel_rfl) (by kernel_rfl) (fun _ _ _ h => h) (Or.inl ⟨by rfl, ?_⟩) (by assumption) ?_
  rotate_left
  · (intro W _; go_simp; try with_reducible rfl)
  try simp only [Act.put, List.getElem_toArray, List.getElem_cons_zero, List.getElem_cons_succ, List.setIfInBounds_toArray, List.set_cons_zero, List.set_cons_succ]
  refine wpAnyH_take (i := 3) (v := ?_) rfl (by kernel_rfl) (by kernel_rfl) (by kernel_rfl) (fun _ _ _ h => h) (Or.inl ⟨by rfl, ?_⟩) (by assumption) ?_
  rotate_left
  · (intro W _; go_simp; try with_reducible rfl)
  try simp only [Act.put, List.getElem_toArray, List.getElem_cons_zero, List.getElem_cons_succ, List.setIfInBounds_toArray, List.set_cons_zero, List.set_cons_succ]
  refine wpAnyH_take (i := 4) (v := ?_) rfl (by kernel_rfl) (by kernel_rfl) (by kernel_rfl) (fun _ _ _ h => h) (Or.inl ⟨by rfl, ?_⟩) (by assumption) ?_
  rotate_left
  · (intro W _; go_simp; try with_reducible rfl)
  try simp only [Act.put, List.getElem_toArray, List.getElem_cons_zero, List.getElem_cons_succ, List.setIfInBounds_toArray, List.set_cons_zero, List.set_cons_succ]
  refine wpAnyH_take (i := 5) (v := ?_) rfl (by kernel_rfl) (by kernel_rfl) (by kernel_rfl) (fun _ _ _ h => h) (Or.inl ⟨by rfl, ?_⟩) (by assumption) ?_
  rotate_left
  · (intro W _; go_simp; try with_reducible rfl)
  try simp only [Act.put, List.getElem_toArray, List.getElem_cons_zero, List.getElem_cons_succ, List.setIfInBounds_toArray, List.set_cons_zero, List.set_cons_succ]
  refine wpAnyH_take (i := 6) (v := ?_) rfl (by kernel_rfl) (by kernel_rfl) (by kernel_rfl) (fun _ _ _ h => h) (Or.inl ⟨by rfl, ?_⟩) (by assumption) ?_
  rotate_left
  · (intro W _; go_simp; try with_reducible rfl)
  try simp only [Act.put, List.getElem_toArray, List.getElem_cons_zero, List.getElem_cons_succ, List.setIfInBounds_toArray, List.set_cons_zero, List.set_cons_succ]
  refine wpAnyH_take (i := 7) (v := ?_) rfl (by kernel_rfl) (by kernel_rfl) (by kernel_rfl) (fun _ _ _ h => h) (Or.inl ⟨by rfl, ?_⟩) (by assumption) ?_
  rotate_left
  · (intro W _; go_simp; try with_reducible rfl)
  try simp only [Act.put, List.getElem_toArray, List.getElem_cons_zero, List.getElem_cons_succ, List.setIfInBounds_toArray, List.set_cons_zero, List.set_cons_succ]
  refine wpAnyH_take (i := 8) (v := ?_) rfl (by kernel_rfl) (by kernel_rfl) (by kernel_rfl) (fun _ _ _ h => h) (Or.inl ⟨by rfl, ?_⟩) (by assumption) ?_
  rotate_left
  · (intro W _; go_simp; try with_reducible rfl)
  try simp only [Act.put, List.getElem_toArray, List.getElem_cons_zero, List.getElem_cons_succ, List.setIfInBounds_toArray, List.set_cons_zero, List.set_cons_succ]
  refine wpAnyH_take (i := 9) (v := ?_) rfl (by kernel_rfl) (by kernel_rfl) (by kernel_rfl) (fun _ _ _ h => h) (Or.inl ⟨by rfl, ?_⟩) (by assumption) ?_
  rotate_left
  · (intro W _; go_simp; try with_reducible rfl)
  try simp only [Act.put, List.getElem_toArray, List.getElem_cons_zero, List.getElem_cons_succ, List.setIfInBounds_toArray, List.set_cons_zero, List.set_cons_succ]
  refine wpAnyH_take (i := 10) (v := ?_) rfl (by kernel_rfl) (by kernel_rfl) (by kernel_rfl) (fun _ _ _ h => h) (Or.inl ⟨by rfl, ?_⟩) (by assumption) ?_
  rotate_left
  · (intro W _; go_simp; try with_reducible rfl)
  try simp only [Act.put, List.getElem_toArray, List.getElem_cons_zero, List.getElem_cons_succ, List.setIfInBounds_toArray, List.set_cons_zero, List.set_cons_succ]
  refine wpAnyH_take (i := 11) (v := ?_) rfl (by kernel_rfl) (by kernel_rfl) (by kernel_rfl) (fun _ _ _ h => h) (Or.inl ⟨by rfl, ?_⟩) (by assumption) ?_
  rotate_left
  · (intro W _; go_simp; try with_reducible rfl)
  try simp only [Act.put, List.getElem_toArray, List.getElem_cons_zero, List.getElem_cons_succ, List.setIfInBounds_toArray, List.set_cons_zero, List.set_cons_succ]
  refine wpAnyH_take (i := 12) (v := ?_) rfl (by kernel_rfl) (by kernel_rfl) (by kernel_rfl) (fun _ _ _ h => h) (Or.inl ⟨by rfl, ?_⟩) (by assumption) ?_
  rotate_left
  · (intro W _; go_simp; try with_reducible rfl)
  try simp only [Act.put, List.getElem_toArray, List.getElem_cons_zero, List.getElem_cons_succ, List.setIfInBounds_toArray, List.set_cons_zero, List.set_cons_succ]
  refine wpAnyH_take (i := 13) (v := ?_) rfl (by kernel_rfl) (by kernel_rfl) (by kernel_rfl) (fun _ _ _ h => h) (Or.inl ⟨by rfl, ?_⟩) (by assumption) ?_
  rotate_left
  · (intro W _; go_simp; try with_reducible rfl)
  try simp only [Act.put, List.getElem_toArray, List.getElem_cons_zero, List.getElem_cons_succ, List.setIfInBounds_toArray, List.set_cons_zero, List.set_cons_succ]
  refine wpAnyH_take (i := 14) (v := ?_) rfl (by kernel_rfl) (by kernel_rfl) (by kernel_rfl) (fun _ _ _ h => h) (Or.inl ⟨by rfl, ?_⟩) (by assumption) ?_
  rotate_left
  · (intro W _; go_simp; try with_reducible rfl)
  try simp only [Act.put, List.getElem_toArray, List.getElem_cons_zero, List.getElem_cons_succ, List.setIfInBounds_toArray, List.set_cons_zero, List.set_cons_succ]
  refine wpAnyH_take (i := 15) (v := ?_) rfl (by kernel_rfl) (by kernel_rfl) (by kernel_rfl) (fun _ _ _ h => h) (Or.inl ⟨by rfl, ?_⟩) (by assumption) ?_
  rotate_left
  · (intro W _; go_simp; try with_reducible rfl)
  try simp only [Act.put, List.getElem_toArray, List.getElem_cons_zero, List.getElem_cons_succ, List.setIfInBounds_toArray, List.set_cons_zero, List.set_cons_succ]
  refine wpAnyH_take (i := 16) (v := ?_) rfl (by kernel_rfl) (by kernel_rfl) (by kernel_rfl) (fun _ _ _ h => h) (Or.inl ⟨by rfl, ?_⟩) (by assumption) ?_
  rotate_left
  · (intro W _; go_simp; try with_reducible rfl)
  try simp only [Act.put, List.getElem_toArray, List.getElem_cons_zero, List.getElem_cons_succ, List.setIfInBounds_toArray, List.set_cons_zero, List.set_cons_succ]
  refine wpAnyH_take (i := 17) (v := ?_) rfl (by kernel_rfl) (by kernel_rfl) (by kernel_rfl) (fun _ _ _ h => h) (Or.inl ⟨by rfl, ?_⟩) (by assumption) ?_
  rotate_left
  · (intro W _; go_simp; try with_reducible rfl)
  try simp only [Act.put, List.getElem_toArray, List.getElem_cons_zero, List.getElem_cons_succ, List.setIfInBounds_toArray, List.set_cons_zero, List.set_cons_succ]
  refine wpAnyH_take (i := 18) (v := ?_) rfl (by kernel_rfl) (by kernel_rfl) (by kernel_rfl) (fun _ _ _ h => h) (Or.inl ⟨by rfl, ?_⟩) (by assumption) ?_
  rotate_left
  · (intro W _; go_simp; try with_reducible rfl)
  try simp only [Act.put, List.getElem_toArray, List.getElem_cons_zero, List.getElem_cons_succ, List.setIfInBounds_toArray, List.set_cons_zero, List.set_cons_succ]
  refine wpAnyH_take (i := 19) (v := ?_) rfl (by kernel_rfl) (by kernel_rfl) (by kernel_rfl) (fun _ _ _ h => h) (Or.inl ⟨by rfl, ?_⟩) (by assumption) ?_
  rotate_left
  · (intro W _; go_simp; try with_reducible rfl)
  try simp only [Act.put, List.getElem_toArray, List.getElem_cons_zero, List.getElem_cons_succ, List.setIfInBounds_toArray, List.set_cons_zero, List.set_cons_succ]
  refine wpAnyH_take (i := 20) (v := ?_) rfl (by kernel_rfl) (by kernel_rfl) (by kernel_rfl) (fun _ _ _ h => h) (Or.inl ⟨by rfl, ?_⟩) (by assumption) ?_
  rotate_left
  · (intro W _; go_simp; try with_reducible rfl)
  try simp only [Act.put, List.getElem_toArray, List.getElem_cons_zero, List.getElem_cons_succ, List.setIfInBounds_toArray, List.set_cons_zero, List.set_cons_succ]
  refine wpAnyH_take (i := 21) (v := ?_) rfl (by kernel_rfl) (by kernel_rfl) (by kernel_rfl) (fun _ _ _ h => h) (Or.inl ⟨by rfl, ?_⟩) (by assumption) ?_
  rotate_left
  · (intro W _; go_simp; try with_reducible rfl)
  try simp only [Act.put, List.getElem_toArray, List.getElem_cons_zero, List.getElem_cons_succ, List.setIfInBounds_toArray, List.set_cons_zero, List.set_cons_succ]
  refine wpAnyH_take (i := 22) (v := ?_) rfl (by kernel_rfl) (by kernel_rfl) (by kernel_rfl) (fun _ _ _ h => h) (Or.inl ⟨by rfl, ?_⟩) (by assumption) ?_
  rotate_left
  · (intro W _; go_simp; try with_reducible rfl)
  try simp only [Act.put, List.getElem_toArray, List.getElem_cons_zero, List.getElem_cons_succ, List.setIfInBounds_toArray, List.set_cons_zero, List.set_cons_succ]
  refine wpAnyH_take (i := 23) (v := (.agg (Pg.arr z))) rfl (by kernel_rfl) (by kernel_rfl) (by kernel_rfl) (fun _ _ _ h => h) (yieldsIf_load_mid (by rfl) 27 _ rfl xz 0 rfl z.vals _ (fun W hSw => RowAt.range (hSw.row (b := xz) (vs := z.vals) (by simp)) 0 (fun j v hv => by rw [Nat.zero_add]; exact hv)) Try.underlying27 rfl (by rw [vals_length]; exact info_page)) (by assumption) ?_
  try simp only [Act.put, List.getElem_toArray, List.getElem_cons_zero, List.getElem_cons_succ, List.setIfInBounds_toArray, List.set_cons_zero, List.set_cons_succ]
  refine wpAnyH_take (i := 24) (v := (.agg (Pg.arr p))) rfl (by kernel_rfl) (by kernel_rfl) (by kernel_rfl) (fun _ _ _ h => h) (yieldsIf_load_mid (by rfl) 27 _ rfl xp 0 rfl p.vals _ (fun W hSw => RowAt.range (hSw.row (b := xp) (vs := p.vals) (by simp)) 0 (fun j v hv => by rw [Nat.zero_add]; exact hv)) Try.underlying27 rfl (by rw [vals_length]; exact info_page)) (by assumption) ?_
  try simp only [Act.put, List.getElem_toArray, List.getElem_cons_zero, List.getElem_cons_succ, List.setIfInBounds_toArray, List.set_cons_zero, List.set_cons_succ]
  refine wpAnyH_take (i := 25) (v := ?_) rfl (by kernel_rfl) (by kernel_rfl) (by kernel_rfl) (fun _ _ _ h => h) (Or.inl ⟨by rfl, ?_⟩) (by assumption) ?_
  rotate_left
  · (intro W _; go_simp; try with_reducible rfl)
  try simp only [Act.put, List.getElem_toArray, List.getElem_cons_zero, List.getElem_cons_succ, List.setIfInBounds_toArray, List.set_cons_zero, List.set_cons_succ]
  refine wpAnyH_take (i := 26) (v := ?_) rfl (by kernel_rfl) (by kernel_rfl) (by kernel_rfl) (fun _ _ _ h => h) (Or.inl ⟨by rfl, ?_⟩) (by assumption) ?_
  rotate_left
  · (intro W _; go_simp; try with_reducible rfl)
  try simp only [Act.put, List.getElem_toArray, List.getElem_cons_zero, List.getElem_cons_succ, List.setIfInBounds_toArray, List.set_cons_zero, List.set_cons_succ]
  refine wpAnyH_take (i := 27) (v := ?_) rfl (by kernel_rfl) (by kernel_rfl) (by kernel_rfl) (fun _ _ _ h => h) (Or.inl ⟨by rfl, ?_⟩) (by assumption) ?_
  rotate_left
  · (intro W _; go_simp; try with_reducible rfl)
  try simp only [Act.put, List.getElem_toArray, List.getElem_cons_zero, List.getElem_cons_succ, List.setIfInBounds_toArray, List.set_cons_zero, List.set_cons_succ]
  refine wpAnyH_take (i := 28) (v := (.agg (Pg.arr q))) rfl (by kernel_rfl) (by kernel_rfl) (by kernel_rfl) (fun _ _ _ h => h) (yieldsIf_load_mid (by rfl) 27 _ rfl xq 0 rfl q.vals _ (fun W hSw => RowAt.range (hSw.row (b := xq) (vs := q.vals) (by simp)) 0 (fun j v hv => by rw [Nat.zero_add]; exact hv)) Try.underlying27 rfl (by rw [vals_length]; exact info_page)) (by assumption) ?_
  try simp only [Act.put, List.getElem_toArray, List.getElem_cons_zero, List.getElem_cons_succ, List.setIfInBounds_toArray, List.set_cons_zero, List.set_cons_succ]
  refine wpAnyH_take (i := 29) (v := (.agg (Pg.arr y))) rfl (by kernel_rfl) (by kernel_rfl) (by kernel_rfl) (fun _ _ _ h => h) (yieldsIf_load_mid (by rfl) 27 _ rfl xy 0 rfl y.vals _ (fun W hSw => RowAt.range (hSw.row (b := xy) (vs := y.vals) (by simp)) 0 (fun j v hv => by rw [Nat.zero_add]; exact hv)) Try.underlying27 rfl (by rw [vals_length]; exact info_page)) (by assumption) ?_
  try simp only [Act.put, List.getElem_toArray, List.getElem_cons_zero, List.getElem_cons_succ, List.setIfInBounds_toArray, List.set_cons_zero, List.set_cons_succ]
  refine wpAnyH_take (i := 30) (v := ?_) rfl (by kernel_rfl) (by kernel_rfl) (by kernel_rfl) (fun _ _ _ h => h) (Or.inl ⟨by rfl, ?_⟩) (by assumption) ?_
  rotate_left
  · (intro W _; go_simp; try with_reducible rfl)
  try simp only [Act.put, List.getElem_toArray, List.getElem_cons_zero, List.getElem_cons_succ, List.setIfInBounds_toArray, List.set_cons_zero, List.set_cons_succ]
  refine wpAnyH_take (i := 31) (v := ?_) rfl (by kernel_rfl) (by kernel_rfl) (by kernel_rfl) (fun _ _ _ h => h) (Or.inl ⟨by rfl, ?_⟩) (by assumption) ?_
  rotate_left
  · (intro W _; go_simp; try with_reducible rfl)
  try simp only [Act.put, List.getElem_toArray, List.getElem_cons_zero, List.getElem_cons_succ, List.setIfInBounds_toArray, List.set_cons_zero, List.set_cons_succ]
  refine wpAnyH_take (i := 32) (v := ?_) rfl (by kernel_rfl) (by kernel_rfl) (by kernel_rfl) (fun _ _ _ h => h) (Or.inl ⟨by rfl, ?_⟩) (by assumption) ?_
  rotate_left
  · (intro W _; go_simp; try with_reducible rfl)
  try simp only [Act.put, List.getElem_toArray, List.getElem_cons_zero, List.getElem_cons_succ, List.setIfInBounds_toArray, List.set_cons_zero, List.set_cons_succ]
  refine wpAnyH_take (i := 33) (v := (.agg (Chg.arr m))) rfl (by kernel_rfl) (by kernel_rfl) (by kernel_rfl) (fun _ _ _ h => h) (yieldsIf_load_mid (by rfl) 29 _ rfl xm 0 rfl m.vals _ (fun W hSw => RowAt.range (hSw.row (b := xm) (vs := m.vals) (by simp)) 0 (fun j v hv => by rw [Nat.zero_add]; exact hv)) Try.underlying29 rfl (by rw [cvals_length]; exact info_change)) (by assumption) ?_
  try simp only [Act.put, List.getElem_toArray, List.getElem_cons_zero, List.getElem_cons_succ, List.setIfInBounds_toArray, List.set_cons_zero, List.set_cons_succ]
  refine wpAnyH_take (i := 34) (v := (.agg (Chg.arr j))) rfl (by kernel_rfl) (by kernel_rfl) (by kernel_rfl) (fun _ _ _ h => h) (yieldsIf_load_mid (by rfl) 29 _ rfl xj 0 rfl j.vals _ (fun W hSw => RowAt.range (hSw.row (b := xj) (vs := j.vals) (by simp)) 0 (fun j v hv => by rw [Nat.zero_add]; exact hv)) Try.underlying29 rfl (by rw [cvals_length]; exact info_change)) (by assumption) ?_
  try simp only [Act.put, List.getElem_toArray, List.getElem_cons_zero, List.getElem_cons_succ, List.setIfInBounds_toArray, List.set_cons_zero, List.set_cons_succ]
  refine wpAnyH_ready (rs := [35]) (by kernel_rfl) (by simp) (AllReadyH.cons rfl (fun K hK => ?_) AllReadyH.nil)
  · go_simp
    go_wp2_with (go_at_call 17; (with_reducible refine (H9.out _).mono ?_); rintro e W14_1 ⟨rfl, hb14_3⟩)
    refine hK.out _ _ (hHeld.keep hb14_3) (fun hH14_2 => ?_)
    clear hK K
    try simp only [Act.put, List.getElem_toArray, List.getElem_cons_zero, List.getElem_cons_succ, List.setIfInBounds_toArray, List.set_cons_zero, List.set_cons_succ]
    refine wpAnyH_take (i := 36) (v := ?_) rfl (by kernel_rfl) (by kernel_rfl) (by kernel_rfl) (fun _ _ _ h => h) (Or.inl ⟨by rfl, ?_⟩) (by assumption) ?_
    rotate_left
    · (intro W _; go_simp; try with_reducible rfl)
    try simp only [Act.put, List.getElem_toArray, List.getElem_cons_zero, List.getElem_cons_succ, List.setIfInBounds_toArray, List.set_cons_zero, List.set_cons_succ]
    refine wpAnyH_take (i := 37) (v := ?_) rfl (by kernel_rfl) (by kernel_rfl) (by kernel_rfl) (fun _ _ _ h => h) (Or.inl ⟨by rfl, ?_⟩) (by assumption) ?_
    rotate_left
    · (intro W _; go_simp; try with_reducible rfl)
    try simp only [Act.put, List.getElem_toArray, List.getElem_cons_zero, List.getElem_cons_succ, List.setIfInBounds_toArray, List.set_cons_zero, List.set_cons_succ]
    refine wpAnyH_take (i := 38) (v := ?_) rfl (by kernel_rfl) (by kernel_rfl) (by kernel_rfl) (fun _ _ _ h => h) (Or.inl ⟨by rfl, ?_⟩) (by assumption) ?_
    rotate_left
    · (intro W _; go_simp; try with_reducible rfl)
    try simp only [Act.put, List.getElem_toArray, List.getElem_cons_zero, List.getElem_cons_succ, List.setIfInBounds_toArray, List.set_cons_zero, List.set_cons_succ]
    refine wpAnyH_done (by kernel_rfl) ?_ _
    go_wp2_with fail
    go_ret
    exact ⟨rfl, hH14_2.2⟩
end Go.Proofs.Ytkcgcddpgfcgiaa.kh
