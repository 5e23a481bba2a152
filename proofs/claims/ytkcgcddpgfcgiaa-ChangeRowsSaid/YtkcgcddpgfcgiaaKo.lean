/- ChangeRows: the walk. -/
import Derived.Test.YtkcgcddpgfcgiaaKn
import Derived.Deep.CutRange
namespace Go.Proofs.Ytkcgcddpgfcgiaa.ko
open Go.ChangeShapes Go.WideShapes Go.ChangeAt Go.RowKit Go.Proofs.Ytkcgcddpgfcgiaa.cx Go.Proofs.Ytkcgcddpgfcgiaa.ra Go.Proofs.Ytkcgcddpgfcgiaa.rc Go.Proofs.Ytkcgcddpgfcgiaa.da Go.Proofs.Ytkcgcddpgfcgiaa.di Go.Proofs.Ytkcgcddpgfcgiaa.ea Go.Proofs.Ytkcgcddpgfcgiaa.eb Go.Proofs.Ytkcgcddpgfcgiaa.ec Go.Proofs.Ytkcgcddpgfcgiaa.ed Go.Proofs.Ytkcgcddpgfcgiaa.fb Go.Proofs.Ytkcgcddpgfcgiaa.ka Go.Proofs.Ytkcgcddpgfcgiaa.kb Go.Proofs.Ytkcgcddpgfcgiaa.kc Go.Proofs.Ytkcgcddpgfcgiaa.kd Go.Proofs.Ytkcgcddpgfcgiaa.ke Go.Proofs.Ytkcgcddpgfcgiaa.kf Go.Proofs.Ytkcgcddpgfcgiaa.kg Go.Proofs.Ytkcgcddpgfcgiaa.ki Go.Proofs.Ytkcgcddpgfcgiaa.kj Go.Proofs.Ytkcgcddpgfcgiaa.kk Go.Proofs.Ytkcgcddpgfcgiaa.km Go.Proofs.Ytkcgcddpgfcgiaa.kn

theorem cut_is (an n0 : Nat) (h1 : 2 ≤ n0) (h2 : n0 ≤ 9) : wrap64 (1 + (an : Int) % ((n0 : Int) - 1)) = ((1 + an % (n0 - 1) : Nat) : Int) ∧ 0 < 1 + an % (n0 - 1) ∧ 1 + an % (n0 - 1) < n0 := by
  obtain ⟨n1, rfl⟩ : ∃ n1, n0 = n1 + 1 := ⟨n0 - 1, by omega⟩
  have e1 : ((n1 + 1 : Nat) : Int) - 1 = (n1 : Int) := by omega
  have e2 : n1 + 1 - 1 = n1 := by omega
  have e3 : (an : Int) % (n1 : Int) = ((an % n1 : Nat) : Int) := (Int.natCast_emod an n1).symm
  rw [e1, e2, e3]
  have hlt : an % n1 < n1 := Nat.mod_lt _ (by omega)
  generalize an % n1 = r at *
  refine ⟨?_, by omega, by omega⟩
  have e4 : (1 : Int) + (r : Int) = ((1 + r : Nat) : Int) := by omega
  rw [e4]
  unfold wrap64
  omega

set_option maxRecDepth 4000 in
set_option maxHeartbeats 8000000 in
theorem rows_walk (so : Option Addr) (len cap : Nat) (a : Int) (w : World) (ha0 : 0 ≤ a) (ha1 : a ≤ 255) (hin : BytesIn so len w) (hl : len ≤ 9223372036854775807) (hc : len ≤ cap) :
    Calls Try.prog 6 #[.slice so len cap, .int .u8 a] w fun e w' => e = .returned (.bool true) ∧ Below w.heap.size w w' := by
  have HIN := Lib.hid hin
  clear hin
  go_enter Try.func6, Try.ntmps6
  go_wp2_with fail
  go_at_call 7
  refine (awake_any _).mono ?_
  rintro e w1 ⟨rfl, hb1⟩
  have S1 := Lib.hid (st_nil hb1)
  clear hb1
  go_wp2_with fail
  go_at_call 8
  refine (new_is so len cap 200 _ (by decide) _ (bytesIn_below HIN.out S1.out.2) hl hc (by decide)).mono ?_
  rintro e w2 ⟨rfl, hC2, hb2, hz2⟩
  have C2 := Lib.hid hC2
  have HLE : Hid (w.heap.size ≤ w1.heap.size) := Lib.hid S1.out.2.size
  have S2 := Lib.hid (S1.out.keep hb2)
  clear hC2 hb2 hz2 S1 HIN
  generalize w1.heap.size = c at *
  go_wp2_with fail
  go_at_call 9
  refine (page_any c 2 _ C2.out).mono ?_
  rintro e w4 ⟨p, rfl, hp1, hp2, hp3, hp4, hC4, hg4⟩
  have C4 := Lib.hid hC4
  have lt4 := cod_lt hC4
  have S4 := Lib.hid (S2.out.grown hg4 HLE.out (fun x hx => by cases hx))
  have HPI : Hid (p.id = 2 ∧ cellsB p = true) := Lib.hid ⟨hp1, hp4⟩
  clear hC4 hg4 hp1 hp2 hp3 hp4 C2 S2
  go_wp2_with (first
    | (have _t := S4.out; refine wp_newPageW rfl rfl ?_; intro w5 hP hb _; have N5 := Lib.hid hP; have M5 := Lib.hid hb; have C5 := Lib.hid (cod_keep C4.out hb); clear hP hb _t C4)
    | (refine wp_storePageW p N5.out (vals_length _) rfl rfl rfl rfl ?_; intro w6 hP hS; have S6 := Lib.hid (S4.out.push M5.out hP hS); have C6 := Lib.hid (hS.cod C5.out lt4); clear hP hS S4 N5 M5 C5))
  go_at_call 10
  refine (next_any c 16 _ C6.out (by decide)).mono ?_
  rintro e w7 ⟨k0, rfl, hk0, hk1, _, hC, hg⟩
  have hk2 := hk1 (by decide)
  obtain ⟨k, rfl⟩ := Int.eq_ofNat_of_zero_le hk0
  have hk : k < 16 := by omega
  have HPC : Hid (∀ x ∈ [(w4.heap.size, p.vals)], c ≠ x.1) := Lib.hid (by simp; omega)
  have S7 := Lib.hid (S6.out.grown hg HLE.out HPC.out)
  have C7 := Lib.hid hC
  have i1 := PgAt.setAt (S7.out.row (b := w4.heap.size) (vs := p.vals) (by simp)) hk
  have i2 := PgAt.dataAt (S7.out.row (b := w4.heap.size) (vs := p.vals) (by simp)) hk
  have q0 : (0 : Int) ≤ (k : Int) := by omega
  have q1 : (k : Int) < 16 := by omega
  clear hC hg hk0 hk1 hk2 S6 C6
  have LTP : Hid (w4.heap.size < w7.heap.size) := Lib.hid (S7.out.row (b := w4.heap.size) (vs := p.vals) (by simp)).lt
  generalize w4.heap.size = xp at *
  go_wp2_with (first
    | (have NE7 := Lib.hid S7.out.ne; have LE7 := Lib.hid S7.out.2.size; have lt7 := cod_lt C7.out; refine wp_newCellW rfl rfl ?_; intro w8 hP hb _; have N8 := Lib.hid hP; have S8 := Lib.hid (S7.out.keep hb); have C8 := Lib.hid (cod_keep C7.out hb); clear hP hb S7 C7 i1 i2)
    | (refine wp_storeCellW (p.cell k) N8.out (show 0 + 2 ≤ 2 by decide) rfl rfl rfl rfl ?_; intro w9 hP hS; have hrow : RowAt w7.heap.size (p.cell k).vals w9 := hP; have S9 : Hid (St [(w7.heap.size, (p.cell k).vals), (xp, p.vals)] w w9) := Lib.hid (St.add ⟨fun x hx => hS.row (S8.out.1 x hx) (NE7.out x hx), hS.below S8.out.2 LE7.out⟩ hrow); have C9 := Lib.hid (storedAt_cod hS C8.out lt7); clear hP hS hrow N8 S8 C8))
  have hxa : c < w7.heap.size := lt7
  have hxpa : xp < w7.heap.size := by exact LTP.out
  generalize w7.heap.size = xa at *
  go_at_call 10
  refine (next_any c 8 _ C9.out (by decide)).mono ?_
  rintro e w10 ⟨m0, rfl, hm0, hm1, _, hC, hg⟩
  have hm2 := hm1 (by decide)
  obtain ⟨m, rfl⟩ := Int.eq_ofNat_of_zero_le hm0
  have HN2 : Hid (∀ x ∈ [(xa, (p.cell k).vals), (xp, p.vals)], c ≠ x.1) := Lib.hid (by simp; omega)
  have S10 := Lib.hid (S9.out.grown hg HLE.out HN2.out)
  have C10 := Lib.hid hC
  have OWN0 := Lib.hid (World.ownsRow_nil w10 (xa + 1) 29 6)
  clear hC hg hm0 hm1 S9 C9
  go_wp2_with fail
  obtain ⟨n0, hn0⟩ : ∃ n0 : Nat, n0 = m + 2 := ⟨_, rfl⟩
  have e0 : (2 : Int) + (m : Int) = (n0 : Int) := by omega
  rw [e0]
  have hn1 : 2 ≤ n0 ∧ n0 ≤ 9 := by omega
  clear e0 hn0 hm2
  have HXA : Hid (c < xa ∧ xp < xa ∧ w.heap.size ≤ xa ∧ c < xp) := Lib.hid ⟨hxa, hxpa, LE7.out, lt4⟩
  have HCB : Hid (cellB (p.cell k) = true) := Lib.hid (cellB_at HPI.out.2 hk)
  clear hxa hxpa lt7 lt4
  go_loopw [8, 10] (fun v i wr => ∃ (kk : Nat) (cs : List Chg) (y : CellM), i = .int .i64 kk ∧ kk + cs.length = n0 ∧ Chained k (p.cell k) cs y ∧ cellB y = true ∧ St [(xa, y.vals), (xp, p.vals)] w wr ∧ wr.ownsRow (xa + 1) 29 6 v cs.length (flat cs) ∧ Cod c wr) (fun _ i _ => (intOf i).toNat)
  case atStart => exact ⟨n0, [], p.cell k, rfl, by simp, rfl, HCB.out, S10.out, OWN0.out, C10.out⟩
  case round =>
    obtain ⟨kk, cs, y, rfl, hks, h1, h2, h3, h4, h5⟩ := hrel
    have HCH := Lib.hid h1
    have HY := Lib.hid h2
    have S20 := Lib.hid h3
    have O20 := Lib.hid h4
    have C20 := Lib.hid h5
    clear S10 OWN0 C10 h1 h2 h3 h4 h5
    by_cases hk0 : 0 < kk
    · have q2 : (kk : Int) > 0 := by omega
      go_wp2_with fail
      have CA := Lib.hid C20.out.drew
      have OA := Lib.hid (own_drew O20.out)
      have HN3 : Hid (∀ x ∈ [(xa, y.vals), (xp, p.vals)], c ≠ x.1) := Lib.hid (by have h := HXA.out; simp; omega)
      go_cut [11] from 43 to 57 (fun s11 wx => ∃ (B : Nat) (u : CellM), s11 = .pointer (some ⟨B, 0, none⟩) ∧ cellB u = true ∧ xa < B ∧ (∀ g, Value.ownBlock u8 = some g → g ≠ B) ∧ St [(B, Chg.vals ⟨2, (k : Int), y, u⟩), (xa, y.vals), (xp, p.vals)] w wx ∧ wx.ownsRow (xa + 1) 29 6 u8 cs.length (flat cs) ∧ Cod c wx)
      case first =>
        refine wp_region_held_drew (S := St [(xa, y.vals), (xp, p.vals)] w) (by kernel_rfl) S20.out.drew (fun hHeld => ?_)
        refine wpAnyH_take (i := 0) (v := ?_) rfl (by kernel_rfl) (by kernel_rfl) (by kernel_rfl) (fun _ _ _ h => h) (Or.inl ⟨by rfl, ?_⟩) (by assumption) ?_
        rotate_left
        · (intro W _; go_simp; try with_reducible rfl)
        try simp only [Act.put, List.getElem_toArray, List.getElem_cons_zero, List.setIfInBounds_toArray, List.set_cons_zero, List.set_cons_succ]
        refine wpAnyH_take (i := 1) (v := (.agg #[.bool y.set, .string y.data])) rfl (by kernel_rfl) (by kernel_rfl) (by kernel_rfl) (fun _ _ _ h => h) (yieldsIf_load_mid (by rfl) 24 _ rfl xa 0 rfl y.vals _ (fun W hSw => RowAt.range (hSw.row (b := xa) (vs := y.vals) (by simp)) 0 (fun j v hv => by rw [Nat.zero_add]; exact hv)) Try.underlying24 rfl info_cell) (by assumption) ?_
        try simp only [Act.put, List.getElem_toArray, List.getElem_cons_zero, List.getElem_cons_succ, List.setIfInBounds_toArray, List.set_cons_zero, List.set_cons_succ]
        refine wpAnyH_take (i := 2) (v := ?_) rfl (by kernel_rfl) (by kernel_rfl) (by kernel_rfl) (fun _ _ _ h => h) (Or.inl ⟨by rfl, ?_⟩) (by assumption) ?_
        rotate_left
        · (intro W _; go_simp; try with_reducible rfl)
        try simp only [Act.put, List.getElem_toArray, List.getElem_cons_zero, List.getElem_cons_succ, List.setIfInBounds_toArray, List.set_cons_zero, List.set_cons_succ]
        refine wpAnyH_ready (rs := [3, 5]) (by kernel_rfl) (by simp) (AllReadyH.cons rfl (fun K hK => ?_) (AllReadyH.cons rfl (fun K hK => ?_) AllReadyH.nil))
        · go_simp
          go_wp2_with (go_at_call 27; (with_reducible refine (cell_any c _ CA.out).mono ?_); rintro e W11_1 ⟨u, rfl, hu, hCc, hgc⟩)
          have C11_3 := Lib.hid (hCc)
          have O11_4 := Lib.hid (own_grown OA.out hgc (by have h := HXA.out; omega))
          refine hK.out _ _ (hHeld.grown hgc HLE.out HN3.out) (fun hH11_2 => ?_)
          clear hK K
          try simp only [Act.put, List.getElem_toArray, List.getElem_cons_zero, List.getElem_cons_succ, List.setIfInBounds_toArray, List.set_cons_zero, List.set_cons_succ]
          refine wpAnyH_take (i := 4) (v := ?_) rfl (by kernel_rfl) (by kernel_rfl) (by kernel_rfl) (fun _ _ _ h => h) (Or.inl ⟨by rfl, ?_⟩) (by assumption) ?_
          rotate_left
          · (intro W _; go_simp; try with_reducible rfl)
          try simp only [Act.put, List.getElem_toArray, List.getElem_cons_zero, List.getElem_cons_succ, List.setIfInBounds_toArray, List.set_cons_zero, List.set_cons_succ]
          refine wpAnyH_ready (rs := [5]) (by kernel_rfl) (by simp) (AllReadyH.cons rfl (fun K hK => ?_) AllReadyH.nil)
          · have ne11_9 := Lib.hid hH11_2.ne
            have le11_10 := Lib.hid hH11_2.2.size
            simp only [List.getElem_toArray, List.getElem_cons_zero, List.getElem_cons_succ]
            rw [if_pos (by rfl)]
            with_reducible refine op_newChg (by rfl) (fun W11_5 hP11_7 hb11_8 _ => ?_)
            have r11_11 := Lib.hid hP11_7
            have q11_14 := Lib.hid (own_less O11_4.out)
            have l11_15 := Lib.hid (cod_lt C11_3.out)
            have z11_16 := Lib.hid ((hH11_2.1 (xa, y.vals) (List.mem_cons_self ..)).lt)
            have C11_12 := Lib.hid (cod_keep C11_3.out hb11_8)
            have O11_13 := Lib.hid (own_keep O11_4.out hb11_8)
            refine hK.out _ _ (hH11_2.keep hb11_8) (fun hH11_6 => ?_)
            clear hK K
            simp only [Act.put, List.setIfInBounds_toArray, List.set_cons_zero, List.set_cons_succ]
            refine wpAnyH_ready (rs := [6]) (by kernel_rfl) (by simp) (AllReadyH.cons rfl (fun K hK => ?_) AllReadyH.nil)
            · simp only [List.getElem_toArray, List.getElem_cons_zero, List.getElem_cons_succ]
              rw [if_pos (by rfl)]
              with_reducible refine op_storeChg ⟨2, (k : Int), y, u⟩ r11_11.out (cvals_length _) (by rfl) ?_ ?_ (fun W11_17 hP11_19 hS11_20 => ?_)
              · rfl
              · rfl
              have r11_21 := Lib.hid hP11_19
              have C11_22 := Lib.hid (hS11_20.cod C11_12.out l11_15.out)
              have O11_23 := Lib.hid (own_stored O11_13.out hS11_20 q11_14.out)
              refine hK.out _ _ (hH11_6.stored ne11_9.out le11_10.out hS11_20) (fun hH11_18 => ?_)
              clear hK K
              simp only [Act.put]
              refine wpAnyH_done (by kernel_rfl) ?_ _
              go_wp2_with fail
              go_meet
              exact ⟨_, u, rfl, hu, z11_16.out, q11_14.out, hH11_18.add r11_21.out, O11_23.out, C11_22.out⟩
        · have ne11_28 := Lib.hid hHeld.ne
          have le11_29 := Lib.hid hHeld.2.size
          simp only [List.getElem_toArray, List.getElem_cons_zero, List.getElem_cons_succ]
          rw [if_pos (by rfl)]
          with_reducible refine op_newChg (by rfl) (fun W11_24 hP11_26 hb11_27 _ => ?_)
          have r11_30 := Lib.hid hP11_26
          have q11_33 := Lib.hid (own_less OA.out)
          have l11_34 := Lib.hid (cod_lt CA.out)
          have z11_35 := Lib.hid ((hHeld.1 (xa, y.vals) (List.mem_cons_self ..)).lt)
          have C11_31 := Lib.hid (cod_keep CA.out hb11_27)
          have O11_32 := Lib.hid (own_keep OA.out hb11_27)
          refine hK.out _ _ (hHeld.keep hb11_27) (fun hH11_25 => ?_)
          clear hK K
          simp only [Act.put, List.setIfInBounds_toArray, List.set_cons_zero, List.set_cons_succ]
          refine wpAnyH_ready (rs := [3]) (by kernel_rfl) (by simp) (AllReadyH.cons rfl (fun K hK => ?_) AllReadyH.nil)
          · go_simp
            go_wp2_with (go_at_call 27; (with_reducible refine (cell_any c _ C11_31.out).mono ?_); rintro e W11_36 ⟨u, rfl, hu, hCc, hgc⟩)
            have C11_38 := Lib.hid (hCc)
            have O11_39 := Lib.hid (own_grown O11_32.out hgc (by have h := HXA.out; omega))
            have r11_40 := Lib.hid (RowAt.grown r11_30.out hgc (row_ne l11_34.out))
            refine hK.out _ _ (hH11_25.grown hgc HLE.out HN3.out) (fun hH11_37 => ?_)
            clear hK K
            try simp only [Act.put, List.getElem_toArray, List.getElem_cons_zero, List.getElem_cons_succ, List.setIfInBounds_toArray, List.set_cons_zero, List.set_cons_succ]
            refine wpAnyH_take (i := 4) (v := ?_) rfl (by kernel_rfl) (by kernel_rfl) (by kernel_rfl) (fun _ _ _ h => h) (Or.inl ⟨by rfl, ?_⟩) (by assumption) ?_
            rotate_left
            · (intro W _; go_simp; try with_reducible rfl)
            try simp only [Act.put, List.getElem_toArray, List.getElem_cons_zero, List.getElem_cons_succ, List.setIfInBounds_toArray, List.set_cons_zero, List.set_cons_succ]
            refine wpAnyH_ready (rs := [6]) (by kernel_rfl) (by simp) (AllReadyH.cons rfl (fun K hK => ?_) AllReadyH.nil)
            · simp only [List.getElem_toArray, List.getElem_cons_zero, List.getElem_cons_succ]
              rw [if_pos (by rfl)]
              with_reducible refine op_storeChg ⟨2, (k : Int), y, u⟩ r11_40.out (cvals_length _) (by rfl) ?_ ?_ (fun W11_41 hP11_43 hS11_44 => ?_)
              · rfl
              · rfl
              have r11_45 := Lib.hid hP11_43
              have C11_46 := Lib.hid (hS11_44.cod C11_38.out l11_34.out)
              have O11_47 := Lib.hid (own_stored O11_39.out hS11_44 q11_33.out)
              refine hK.out _ _ (hH11_37.stored ne11_28.out le11_29.out hS11_44) (fun hH11_42 => ?_)
              clear hK K
              simp only [Act.put]
              refine wpAnyH_done (by kernel_rfl) ?_ _
              go_wp2_with fail
              go_meet
              exact ⟨_, u, rfl, hu, z11_35.out, q11_33.out, hH11_42.add r11_45.out, O11_47.out, C11_46.out⟩
      case rest =>
      obtain ⟨B, u, rfl, hu, hB, hq, hS, hO, hC⟩ := hcut
      have XS := Lib.hid (hS.sub (l' := [(B, Chg.vals ⟨2, (k : Int), y, u⟩), (xp, p.vals)]) (by simp))
      have XC := Lib.hid hC.drew
      have XO := Lib.hid (own_drew hO)
      have XA := Lib.hid (hS.row (b := xa) (vs := y.vals) (by simp)).drew
      have HB := Lib.hid hB
      have HU := Lib.hid hu
      have NEX : Hid (∀ g, Value.ownBlock u8 = some g → g ≠ B ∧ xa + 1 ≤ g) := Lib.hid fun g hg => ⟨hq g hg, (hO.lt g hg).1⟩
      have NEQ : Hid (∀ x ∈ [(B, Chg.vals ⟨2, (k : Int), y, u⟩), (xp, p.vals)], Value.ownBlock u8 ≠ some x.1) := Lib.hid (List.forall_mem_cons.2 ⟨fun e => (NEX.out _ e).1 rfl, List.forall_mem_cons.2 ⟨fun e => by have h1 := (NEX.out _ e).2; have h2 := HXA.out.2.1; simp only at h1; omega, fun x hx => by cases hx⟩⟩)
      have NEA : Hid (∀ x ∈ [(B, Chg.vals ⟨2, (k : Int), y, u⟩), (xp, p.vals)], xa ≠ x.1) := Lib.hid (List.forall_mem_cons.2 ⟨Nat.ne_of_lt hB, List.forall_mem_cons.2 ⟨Nat.ne_of_gt HXA.out.2.1, fun x hx => by cases hx⟩⟩)
      clear hu hB hq hS hO hC S20 O20 C20 CA OA
      go_wp2_with fail
      refine wp_region_held_drew (S := St [(B, Chg.vals ⟨2, (k : Int), y, u⟩), (xp, p.vals)] w) (by kernel_rfl) XS.out.drew (fun hHeld => ?_)
      refine wpAnyH_take (i := 0) (v := ?_) rfl (by kernel_rfl) (by kernel_rfl) (by kernel_rfl) (fun _ _ _ h => h) (Or.inl ⟨by rfl, ?_⟩) (by assumption) ?_
      rotate_left
      · (intro W _; go_simp; try with_reducible rfl)
      try simp only [Act.put, List.getElem_toArray, List.getElem_cons_zero, List.setIfInBounds_toArray, List.set_cons_zero, List.set_cons_succ]
      refine wpAnyH_take (i := 1) (v := (.agg (Chg.arr ⟨2, (k : Int), y, u⟩))) rfl (by kernel_rfl) (by kernel_rfl) (by kernel_rfl) (fun _ _ _ h => h) (yieldsIf_load_mid (by rfl) 29 _ rfl B 0 rfl (Chg.vals ⟨2, (k : Int), y, u⟩) _ (fun W hSw => RowAt.range (hSw.row (b := B) (vs := (Chg.vals ⟨2, (k : Int), y, u⟩)) (by simp)) 0 (fun j v hv => by rw [Nat.zero_add]; exact hv)) Try.underlying29 rfl (by rw [cvals_length]; exact info_change)) (by assumption) ?_
      try simp only [Act.put, List.getElem_toArray, List.getElem_cons_zero, List.getElem_cons_succ, List.setIfInBounds_toArray, List.set_cons_zero, List.set_cons_succ]
      refine wpAnyH_take (i := 4) (v := ?_) rfl (by kernel_rfl) (by kernel_rfl) (by kernel_rfl) (fun _ _ _ h => h) (Or.inl ⟨by rfl, ?_⟩) (by assumption) ?_
      rotate_left
      · (intro W _; go_simp; try with_reducible rfl)
      try simp only [Act.put, List.getElem_toArray, List.getElem_cons_zero, List.getElem_cons_succ, List.setIfInBounds_toArray, List.set_cons_zero, List.set_cons_succ]
      refine wpAnyH_take (i := 5) (v := (.agg #[.bool u.set, .string u.data])) rfl (by kernel_rfl) (by kernel_rfl) (by kernel_rfl) (fun _ _ _ h => h) (yieldsIf_load_mid (by rfl) 24 _ rfl B 4 rfl u.vals _ (fun W hSw => RowAt.range (hSw.row (b := B) (vs := (Chg.vals ⟨2, (k : Int), y, u⟩)) (by simp)) 4 (fun j v hv => chgC hv)) Try.underlying24 rfl info_cell) (by assumption) ?_
      try simp only [Act.put, List.getElem_toArray, List.getElem_cons_zero, List.getElem_cons_succ, List.setIfInBounds_toArray, List.set_cons_zero, List.set_cons_succ]
      refine wpAnyH_ready (rs := [2]) (by kernel_rfl) (by simp) (AllReadyH.cons rfl (fun K hK => ?_) AllReadyH.nil)
      · simp only [List.getElem_toArray, List.getElem_cons_zero, List.getElem_cons_succ]
        rw [if_pos (by rfl)]
        with_reducible refine op_one ⟨2, (k : Int), y, u⟩ (by rfl) ?_ (fun w12a hT hbT => ?_)
        · rfl
        have C12_3 := Lib.hid (cod_keep XC.out hbT)
        have O12_4 := Lib.hid (own_keep XO.out hbT)
        have A12_5 := Lib.hid (RowAt.keep XA.out hbT)
        have HT := Lib.hid (hT)
        refine hK.out _ _ (hHeld.keep hbT) (fun hH12_2 => ?_)
        clear hK K
        simp only [Act.put, List.setIfInBounds_toArray, List.set_cons_zero, List.set_cons_succ]
        refine wpAnyH_ready (rs := [3]) (by kernel_rfl) (by simp) (AllReadyH.cons rfl (fun K hK => ?_) AllReadyH.nil)
        · simp only [List.getElem_toArray, List.getElem_cons_zero, List.getElem_cons_succ]
          rw [if_pos (by rfl)]
          have hbs : xa + 1 ≤ w12a.heap.size := by have h1 := (hH12_2.1 (B, Chg.vals ⟨2, (k : Int), y, u⟩) (List.mem_cons_self ..)).lt; have h2 := HB.out; simp only at h1; omega
          with_reducible refine op_append (xa + 1) u8 cs.length (flat cs) ⟨2, (k : Int), y, u⟩ _ (by rfl) ?_ ?_ O12_4.out HT.out (by omega) hbs (fun g' cap' w12b hO2 hg2 hgl => ?_)
          · rfl
          · rfl
          have C12_8 := Lib.hid (cod_row C12_3.out hg2 (fun k' e => by have h1 := (NEX.out k' e).2; have h2 := HXA.out.1; omega))
          have O12_9 := Lib.hid (hO2)
          have A12_10 := Lib.hid (RowAt.grown A12_5.out hg2 (fun e => by have h1 := (NEX.out _ e).2; omega))
          refine hK.out _ _ (hH12_2.grownRow hg2 NEQ.out (fun k' e => by have h1 := (NEX.out k' e).2; have h2 := HXA.out.2.2.1; omega)) (fun hH12_7 => ?_)
          clear hK K
          simp only [Act.put, List.setIfInBounds_toArray, List.set_cons_zero, List.set_cons_succ]
          refine wpAnyH_take (i := 6) (v := ?_) rfl (by kernel_rfl) (by kernel_rfl) (by kernel_rfl) (fun _ _ _ h => h) (Or.inl ⟨by rfl, ?_⟩) (by assumption) ?_
          rotate_left
          · (intro W _; go_simp; try with_reducible rfl)
          try simp only [Act.put, List.getElem_toArray, List.getElem_cons_zero, List.getElem_cons_succ, List.setIfInBounds_toArray, List.set_cons_zero, List.set_cons_succ]
          refine wpAnyH_ready (rs := [7]) (by kernel_rfl) (by simp) (AllReadyH.cons rfl (fun K hK => ?_) AllReadyH.nil)
          · simp only [List.getElem_toArray, List.getElem_cons_zero, List.getElem_cons_succ]
            rw [if_pos (by rfl)]
            with_reducible refine op_storeCell u A12_10.out (cv_length _) (by rfl) ?_ ?_ (fun w12c hA2 hS2 => ?_)
            · rfl
            · rfl
            have C12_13 := Lib.hid (storedAt_cod hS2 C12_8.out HXA.out.1)
            have O12_14 := Lib.hid (own_storedAt O12_9.out hS2 (Nat.lt_succ_self xa))
            have A12_15 := Lib.hid (hA2)
            refine hK.out _ _ (⟨fun x hx => hS2.row (hH12_7.1 x hx) (NEA.out x hx), hS2.below hH12_7.2 HXA.out.2.2.1⟩) (fun hH12_12 => ?_)
            clear hK K
            simp only [Act.put]
            refine wpAnyH_done (by kernel_rfl) ?_ _
            go_wp2_with fail
            go_roundw
            case rel => exact ⟨kk - 1, cs ++ [⟨2, (k : Int), y, u⟩], u, by go_num, by rw [List.length_append]; show kk - 1 + (cs.length + 1) = n0; omega, chained_snoc HCH.out HU.out, HU.out, (hH12_12.sub (l' := [(xp, p.vals)]) (by simp)).add A12_15.out, by rw [List.length_append, flat_snoc]; exact O12_14.out, C12_13.out⟩
            case measure => simp [intOf]; omega
    · obtain rfl : kk = 0 := by omega
      have hcl : cs.length = n0 := by omega
      obtain ⟨_, ho⟩ := O20.out
      rcases ho with ⟨_, h0⟩ | ⟨g, cp, cur, hu8, _, hheap, hncap, hcapm, _, htake⟩
      · exfalso; omega
      rw [hcl] at hu8 hncap htake
      unfold maxLen at hcapm
      have HAT : Hid (∀ j c t v, cs[j]? = some c → c.vals[t]? = some v → cur.toList[0 + (j * 6 + t)]? = some v) := Lib.hid fun j c t v hc hv => by
        have h := flat_at cs j c t v hc hv
        rw [← htake, List.getElem?_take] at h
        rw [Nat.zero_add]
        split at h
        · exact h
        · cases h
      have SG := Lib.hid ((S20.out.sub (l' := [(xp, p.vals)]) (by simp)).add (row_cells hheap))
      have HN := Lib.hid hcl
      subst hu8
      clear O20 S20 C20 htake hheap hks hcl
      generalize cur.toList = cl at *
      have q3 : ¬ ((0 : Int) > 0) := by decide
      go_wp2_with (first
        | (refine wp_loadPage p (SG.out.row (b := xp) (vs := p.vals) (by simp)) rfl rfl rfl ?_)
        | (have _t := SG.out; refine wp_newPageW rfl rfl ?_; intro w21 hP hb _; have N21 := Lib.hid hP; have M21 := Lib.hid hb; clear hP hb _t)
        | (refine wp_storePageW p N21.out (vals_length _) rfl rfl rfl rfl ?_; intro w22 hP hS; have S22 := Lib.hid (SG.out.push M21.out hP hS); have NEQ := Lib.hid SG.out.ne; have LEQ := Lib.hid SG.out.2.size; clear hP hS SG N21 M21))
      generalize wr.heap.size = xq at *
      go_loopw [61] (fun i wx => ∃ j : Nat, j ≤ n0 ∧ i = .int .i64 j ∧ ∃ (u : CellM) (q : Pg), Chained k (p.cell k) (cs.take j) u ∧ cellB u = true ∧ sameP q (putCell p k u) = true ∧ St [(xq, q.vals), (g, cl), (xp, p.vals)] w wx) (fun i _ => n0 - (intOf i).toNat)
      case atStart => exact ⟨0, by omega, rfl, p.cell k, p, by rw [List.take_zero]; exact rfl, HCB.out, sameP_symm (put_back p k), S22.out⟩
      case round =>
        obtain ⟨j, hj, rfl, u, q, h1, h2, h3, h4⟩ := hrel
        have HU1 := Lib.hid h1
        have HU2 := Lib.hid h2
        have HQ := Lib.hid h3
        have S0 := Lib.hid h4
        clear S22 h1 h2 h3 h4
        by_cases hjn : j < n0
        · obtain ⟨u', v, hc, ht, hv, ht2⟩ := chained_at HCH.out (j := j) (by rw [HN.out]; omega)
          obtain rfl := chained_fun HU1.out ht
          have h1 := apply_step hk HPI.out.1 HQ.out HU2.out hv
          have h2 := same_put HQ.out v
          obtain ⟨z, hz⟩ : ∃ z, putCell q k v = z := ⟨_, rfl⟩
          rw [hz] at h1 h2
          have HAP := Lib.hid h1
          have HQ2 := Lib.hid h2
          have HT2 := Lib.hid ht2
          have HVV := Lib.hid hv
          have HL : Hid (∀ t z, (Chg.mk 2 (k : Int) u v).vals[t]? = some z → cl[j * 6 + t]? = some z) := Lib.hid fun t z h => by have := HAT.out j _ t z hc h; rwa [Nat.zero_add] at this
          have q4 : (0 : Int) ≤ (j : Int) := by omega
          have q5 : (j : Int) < (n0 : Int) := by omega
          clear hc ht hv ht2 h1 h2 hz
          go_wp2_with (first
            | (refine wp_loadChgAt ⟨2, (k : Int), u, v⟩ (j * 6) (S0.out.row (b := g) (vs := cl) (by simp)) HL.out rfl rfl rfl ?_)
            | (have _t := S0.out; refine wp_newChgW rfl rfl ?_; intro w25 hP hb _; have N25 := Lib.hid hP; have M25 := Lib.hid hb; clear hP hb _t)
            | (refine wp_storeChgW ⟨2, (k : Int), u, v⟩ N25.out (cvals_length _) rfl rfl rfl rfl ?_; intro w26 hP hS; have S26 := Lib.hid (S0.out.push M25.out hP hS); clear hP hS S0 N25 M25)
            | (refine wp_loadPage q (S26.out.row (b := xq) (vs := q.vals) (by simp)) rfl rfl rfl ?_)
            | (refine wp_loadChg ⟨2, (k : Int), u, v⟩ (S26.out.row (vs := Chg.vals ⟨2, (k : Int), u, v⟩) (List.mem_cons_self ..)) rfl rfl rfl ?_)
            | (go_at_call 22; (with_reducible refine (HAP.out _).mono ?_); rintro e w27 ⟨rfl, hb⟩; have S27 := Lib.hid (S26.out.keep hb); clear hb S26)
            | (have _t := S27.out; refine wp_newPageW rfl rfl ?_; intro w28 hP hb _; have N28 := Lib.hid hP; have M28 := Lib.hid hb; clear hP hb _t)
            | (refine wp_storePageW z N28.out (vals_length _) rfl rfl rfl rfl ?_; intro w29 hP hS; have S29 := Lib.hid (S27.out.push M28.out hP hS); clear hP hS S27 N28 M28)
            | (refine wp_loadPage z (S29.out.row (vs := z.vals) (List.mem_cons_self ..)) rfl rfl rfl ?_)
            | (refine wp_storePageW z (S29.out.row (b := xq) (vs := q.vals) (by simp)) (vals_length _) rfl rfl rfl rfl ?_; intro w30 hP hS; have S30 : Hid (St [(xq, z.vals), (g, cl), (xp, p.vals)] w w30) := Lib.hid (((S29.out.sub (l' := [(g, cl), (xp, p.vals)]) (by simp)).stored NEQ.out LEQ.out hS).add hP); clear hP hS S29))
          go_roundw
          case rel => exact ⟨j + 1, by omega, by go_num, v, z, HT2.out, HVV.out, HQ2.out, S30.out⟩
          case measure => simp [intOf]; omega
        · have hjn2 : n0 = j := by omega
          subst hjn2
          have huy : y = u := chained_fun HCH.out (by have := HU1.out; rwa [List.take_of_length_le (by rw [HN.out]; exact Nat.le_refl _)] at this)
          subst huy
          clear HU1 HU2 hj hjn
          obtain ⟨an, rfl⟩ := Int.eq_ofNat_of_zero_le ha0
          obtain ⟨ekc, hk1, hk2⟩ := cut_is an n0 hn1.1 hn1.2
          generalize 1 + an % (n0 - 1) = kc at *
          obtain ⟨u, hu1, hu2⟩ := (chained_append k (cs.take kc) (cs.drop kc) (p.cell k) y).1 (by rw [List.take_append_drop]; exact HCH.out)
          have hub := chained_end hu1 HCB.out
          have HJ1 : Hid (∀ W, RowAt g cl W → Calls Try.prog 28 #[.slice (some ⟨g, 0, none⟩) kc cp] W fun e w' => e = .returned (.tuple #[.agg (Chg.arr ⟨2, (k : Int), p.cell k, u⟩), .bool true]) ∧ Below W.heap.size W w') := Lib.hid fun W hr => by
            have hl1 : (cs.take kc).length = kc := by rw [List.length_take, HN.out]; omega
            have h := joined_any g 0 cp cl k hk (cs.take kc) (p.cell k) u W (by omega) (by omega) (by omega) HCB.out hu1 hr (fun j c t v hc hv => HAT.out j c t v (by rw [List.getElem?_take] at hc; split at hc; exact hc; cases hc) hv)
            rwa [hl1] at h
          have HJ2 : Hid (∀ W, RowAt g cl W → Calls Try.prog 28 #[.slice (some ⟨g, kc * 6, none⟩) (n0 - kc) (cp - kc)] W fun e w' => e = .returned (.tuple #[.agg (Chg.arr ⟨2, (k : Int), u, y⟩), .bool true]) ∧ Below W.heap.size W w') := Lib.hid fun W hr => by
            have hl1 : (cs.drop kc).length = n0 - kc := by rw [List.length_drop, HN.out]
            have h := joined_any g (kc * 6) (cp - kc) cl k hk (cs.drop kc) u y W (by omega) (by omega) (by omega) hub hu2 hr (fun j c t v hc hv => by have := HAT.out (kc + j) c t v (by rwa [List.getElem?_drop] at hc) hv; rwa [show 0 + ((kc + j) * 6 + t) = kc * 6 + (j * 6 + t) by omega] at this)
            rwa [hl1] at h
          have HJ3 : Hid (∀ W, RowAt g cl W → Calls Try.prog 28 #[.slice (some ⟨g, 0, none⟩) n0 cp] W fun e w' => e = .returned (.tuple #[.agg (Chg.arr ⟨2, (k : Int), p.cell k, y⟩), .bool true]) ∧ Below W.heap.size W w') := Lib.hid fun W hr => by
            have h := joined_any g 0 cp cl k hk cs (p.cell k) y W (by rw [HN.out]; omega) (by rw [HN.out]; omega) (by omega) HCB.out HCH.out hr HAT.out
            rwa [HN.out] at h
          have HJN := Lib.hid (join_step hk HCB.out hub HY.out)
          have h1 := apply_step hk HPI.out.1 (sameP_symm (put_back p k)) HCB.out HY.out
          have h2 := sameP_symm HQ.out
          have hv3 := valid_is (n := 2) (by decide) hk HCB.out HY.out
          obtain ⟨z, hz⟩ : ∃ z, putCell p k y = z := ⟨_, rfl⟩
          rw [hz] at h1 h2
          have HAP := Lib.hid h1
          have HV3 := Lib.hid hv3
          have CEQ := chg_eql_self ⟨2, (k : Int), p.cell k, y⟩
          have PEQ : ∀ W, (binOp .eql 27 (.agg z.arr) (.agg q.arr)).run Try.prog W = .ok (.bool true) W := fun W => by rw [page_eql, h2]
          have q6 : (0 : Int) ≤ (kc : Int) := by omega
          have q7 : (kc : Int) ≤ (n0 : Int) := by omega
          have q8 : (kc : Int) ≤ (cp : Int) := by omega
          have q9 : ¬ cp = kc := by omega
          have q10 : (n0 : Int) ≤ (cp : Int) := by omega
          clear hu1 hu2 hub h1 h2 hv3 hz HAT HN HQ HCH
          go_wp2_with (first
            | (go_at_call 28; (with_reducible refine (HJ1.out _ (S0.out.row (b := g) (vs := cl) (by simp))).mono ?_); rintro e w31 ⟨rfl, hb⟩; have S31 := Lib.hid (S0.out.keep hb); clear hb S0 HJ1)
            | (have _t := S31.out; refine wp_newChgW rfl rfl ?_; intro w32 hP hb _; have N32 := Lib.hid hP; have M32 := Lib.hid hb; clear hP hb _t)
            | (refine wp_storeChgW ⟨2, (k : Int), p.cell k, u⟩ N32.out (cvals_length _) rfl rfl rfl rfl ?_; intro w33 hP hS; have S33 := Lib.hid (S31.out.push M32.out hP hS); clear hP hS S31 N32 M32)
            | (go_at_call 28; (with_reducible refine (HJ2.out _ (S33.out.row (b := g) (vs := cl) (by simp))).mono ?_); rintro e w34 ⟨rfl, hb⟩; have S34 := Lib.hid (S33.out.keep hb); clear hb S33 HJ2)
            | (have _t := S34.out; refine wp_newChgW rfl rfl ?_; intro w35 hP hb _; have N35 := Lib.hid hP; have M35 := Lib.hid hb; clear hP hb _t)
            | (refine wp_storeChgW ⟨2, (k : Int), u, y⟩ N35.out (cvals_length _) rfl rfl rfl rfl ?_; intro w36 hP hS; have S36 := Lib.hid (S34.out.push M35.out hP hS); clear hP hS S34 N35 M35)
            | (refine wp_loadChg ⟨2, (k : Int), p.cell k, u⟩ (S36.out.row (vs := Chg.vals ⟨2, (k : Int), p.cell k, u⟩) (List.mem_cons_of_mem _ (List.mem_cons_self ..))) rfl rfl rfl ?_)
            | (refine wp_loadChg ⟨2, (k : Int), u, y⟩ (S36.out.row (vs := Chg.vals ⟨2, (k : Int), u, y⟩) (List.mem_cons_self ..)) rfl rfl rfl ?_)
            | (go_at_call 13; (with_reducible refine (HJN.out _).mono ?_); rintro e w37 ⟨rfl, hb⟩; have S37 := Lib.hid (S36.out.keep hb); clear hb S36)
            | (have _t := S37.out; refine wp_newChgW rfl rfl ?_; intro w38 hP hb _; have N38 := Lib.hid hP; have M38 := Lib.hid hb; clear hP hb _t)
            | (refine wp_storeChgW ⟨2, (k : Int), p.cell k, y⟩ N38.out (cvals_length _) rfl rfl rfl rfl ?_; intro w39 hP hS; have S39 := Lib.hid (S37.out.push M38.out hP hS); clear hP hS S37 N38 M38)
            | (go_at_call 28; (with_reducible refine (HJ3.out _ (S39.out.row (b := g) (vs := cl) (by simp))).mono ?_); rintro e w40 ⟨rfl, hb⟩; have S40 := Lib.hid (S39.out.keep hb); clear hb S39 HJ3)
            | (have _t := S40.out; refine wp_newChgW rfl rfl ?_; intro w41 hP hb _; have N41 := Lib.hid hP; have M41 := Lib.hid hb; clear hP hb _t)
            | (refine wp_storeChgW ⟨2, (k : Int), p.cell k, y⟩ N41.out (cvals_length _) rfl rfl rfl rfl ?_; intro w42 hP hS; have S42 := Lib.hid (S40.out.push M41.out hP hS); clear hP hS S40 N41 M41)
            | (refine wp_loadPage p (S42.out.row (b := xp) (vs := p.vals) (by simp)) rfl rfl rfl ?_)
            | (refine wp_loadChg ⟨2, (k : Int), p.cell k, y⟩ (S42.out.row (vs := Chg.vals ⟨2, (k : Int), p.cell k, y⟩) (List.mem_cons_of_mem _ (List.mem_cons_self ..))) rfl rfl rfl ?_)
            | (go_at_call 22; (with_reducible refine (HAP.out _).mono ?_); rintro e w43 ⟨rfl, hb⟩; have S43 := Lib.hid (S42.out.keep hb); clear hb S42)
            | (have _t := S43.out; refine wp_newPageW rfl rfl ?_; intro w44 hP hb _; have N44 := Lib.hid hP; have M44 := Lib.hid hb; clear hP hb _t)
            | (refine wp_storePageW z N44.out (vals_length _) rfl rfl rfl rfl ?_; intro w45 hP hS; have S45 := Lib.hid (S43.out.push M44.out hP hS); clear hP hS S43 N44 M44)
            | (refine wp_loadChg ⟨2, (k : Int), p.cell k, y⟩ (S45.out.row (vs := Chg.vals ⟨2, (k : Int), p.cell k, y⟩) (List.mem_cons_of_mem _ (List.mem_cons_self ..))) rfl rfl rfl ?_)
            | (refine wp_loadChg ⟨2, (k : Int), p.cell k, y⟩ (S45.out.row (vs := Chg.vals ⟨2, (k : Int), p.cell k, y⟩) (List.mem_cons_of_mem _ (List.mem_cons_of_mem _ (List.mem_cons_self ..)))) rfl rfl rfl ?_)
            | (refine wp_loadPage z (S45.out.row (vs := z.vals) (List.mem_cons_self ..)) rfl rfl rfl ?_)
            | (refine wp_loadPage q (S45.out.row (b := xq) (vs := q.vals) (by simp)) rfl rfl rfl ?_)
            | (go_at_call 16; (with_reducible refine (refValid_b ⟨2, (k : Int), p.cell k, y⟩ true HV3.out.1 _ HV3.out.2).mono ?_); rintro e w46 ⟨rfl, hb⟩; have S46 := Lib.hid (S45.out.keep hb); clear hb S45))
          go_ret
          exact ⟨rfl, S46.out.2⟩
end Go.Proofs.Ytkcgcddpgfcgiaa.ko
