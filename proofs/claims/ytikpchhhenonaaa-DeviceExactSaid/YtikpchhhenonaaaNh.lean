/- The reference's Write: the first loop. -/
import Derived.Test.YtikpchhhenonaaaNg
import Derived.Deep.CutBlock
namespace Go.Proofs.Ytikpchhhenonaaa.nh
open Go.ChangeShapes Go.WideShapes Go.ChangeAt Go.RowKit Go.Proofs.Ytikpchhhenonaaa.cx Go.Proofs.Ytikpchhhenonaaa.ra Go.Proofs.Ytikpchhhenonaaa.la Go.Proofs.Ytikpchhhenonaaa.lb Go.Proofs.Ytikpchhhenonaaa.lc Go.Proofs.Ytikpchhhenonaaa.ld Go.Proofs.Ytikpchhhenonaaa.le Go.Proofs.Ytikpchhhenonaaa.lf Go.Proofs.Ytikpchhhenonaaa.lg Go.Proofs.Ytikpchhhenonaaa.lh Go.Proofs.Ytikpchhhenonaaa.li Go.Proofs.Ytikpchhhenonaaa.lj Go.Proofs.Ytikpchhhenonaaa.lk Go.Proofs.Ytikpchhhenonaaa.ll Go.Proofs.Ytikpchhhenonaaa.lm Go.Proofs.Ytikpchhhenonaaa.ln Go.Proofs.Ytikpchhhenonaaa.lo Go.Proofs.Ytikpchhhenonaaa.lp Go.Proofs.Ytikpchhhenonaaa.lq Go.Proofs.Ytikpchhhenonaaa.lr Go.Proofs.Ytikpchhhenonaaa.ls Go.Proofs.Ytikpchhhenonaaa.lt Go.Proofs.Ytikpchhhenonaaa.lu Go.Proofs.Ytikpchhhenonaaa.lv Go.Proofs.Ytikpchhhenonaaa.lw Go.Proofs.Ytikpchhhenonaaa.lx Go.Proofs.Ytikpchhhenonaaa.ly Go.Proofs.Ytikpchhhenonaaa.na Go.Proofs.Ytikpchhhenonaaa.nb Go.Proofs.Ytikpchhhenonaaa.nc Go.Proofs.Ytikpchhhenonaaa.nd Go.Proofs.Ytikpchhhenonaaa.ne Go.Proofs.Ytikpchhhenonaaa.nf Go.Proofs.Ytikpchhhenonaaa.ng
open Go.Lib (bytesWorld bytesCells bytesWorld_at_old bytesWorld_at_new bytesWorld_size bytesWorld_cell)
set_option linter.unusedSimpArgs false
/-- place, its last argument a number that is named. -/
theorem refPlace_b (base : Nat) (vp vu vf : Value) (d : Dev) (k n : Nat) (kz nz : Int) (hkz : kz = (k : Int)) (hnz : nz = (n : Int)) (s old : ByteArray) (w : World) (OP : w.ownsRow base 9 1 vp d.pages.length (strL d.pages)) (U : Sl vu 1 d.unr.length (intL d.unr) w) (F : Sl vf 6 d.faults.length (fltL d.faults) w)
    (apf : Apart vp vf) (apu : Apart vp vu) (hk : d.pages[k]? = some old) (hold : old.size = 256) (hs : s.size = 256) (hn : n ≤ 256) (hul : d.unr.length ≤ 1000) :
    Calls Try.prog 46 #[.agg (dvals vp d.writes vu d.dead vf).toArray, .int .i64 kz, .string s, .int .i64 nz] w fun e w' => ∃ vu', e = .returned (.agg (dvals vp d.writes vu' d.dead vf).toArray) ∧
      w'.ownsRow base 9 1 vp (owrD d k s n).pages.length (strL (owrD d k s n).pages) ∧ w'.ownsRow w.heap.size 3 1 vu' (owrD d k s n).unr.length (intL (owrD d k s n).unr) ∧ w.grownBy w' vp.ownBlock := by
  subst hkz hnz
  obtain ⟨su, cu, rfl, _⟩ := U.form
  obtain ⟨sf, cf, rfl, _⟩ := F.form
  exact refPlace_any base vp su sf cu cf d k n s old w OP U F apf apu hk hold hs hn hul
theorem n2_cell {base B : Nat} {vp : Value} {g off n c : Nat} {l : List Flt} {w : World} (h : N2 base B vp (.slice (some ⟨g, off, none⟩) n c) l w) (hn : n = l.length) {i t : Nat} {x : Flt} {u : Value} (hx : l[i]? = some x) (hu : x.vals[t]? = some u) : w.cell? ⟨g, off + i * 6 + t, none⟩ = some u := by
  subst hn
  obtain ⟨g', off', e, hg, hc⟩ := nc.sl_block (Sl.of_own h.own) (by have := (List.getElem?_eq_some_iff.1 hx).1; omega)
  simp only [Option.some.injEq, Addr.mk.injEq, and_true] at e
  obtain ⟨rfl, rfl⟩ := e
  rw [Nat.add_assoc]
  exact hc _ _ (fltL_at l i x t u hx hu)
set_option maxHeartbeats 16000000 in
set_option maxRecDepth 4000 in
theorem refWrite_ok (vs : List Value) (d : Dev) (k : Nat) (s : ByteArray) (c1 : writeE d (k : Int) s = 0) (w : World) (h : DevV vs d w) (hf : FitsD d) :
    Calls Try.prog 21 #[.agg vs.toArray, .int .i64 (k : Int), .string s] w fun e w' => ∃ vs', e = .returned (.tuple #[.agg vs'.toArray, .int .i64 0]) ∧ DevV vs' (writeD d (k : Int) s) w' ∧ (∀ b, b ≤ w.heap.size → Lo b vs') ∧ Below w.heap.size w w' := by
  obtain ⟨sp, cp, su, cu, sf, cf, rfl, P, U, F⟩ := h.form
  have DV := Lib.hid h
  have HF := Lib.hid hf
  obtain ⟨ha, hss, hw9⟩ := write_in c1
  obtain ⟨hv, _, hp0, hp1⟩ := access_in ha
  have IV := Lib.hid (valid_is hv)
  have hkl : k < d.pages.length := by omega
  have hw0 := IV.out.writes.1
  have hw1 : d.writes < 1099511627776 := by have := IV.out.writes.2; omega
  have HN := Lib.hid ha
  have SS := Lib.hid hss
  have L1 := Lib.hid (show d.pages.length ≤ 1000 by have := IV.out.pages.1.2; omega)
  have L2 := Lib.hid (show d.unr.length ≤ 1000 by have := IV.out.unrLen; omega)
  have L3 := Lib.hid (show d.faults.length ≤ 1000 by have := IV.out.faults.1; omega)
  have hz : ((s.size : Int) != 256) = false := by simp; omega
  have hy : (d.writes == 1099511627776) = false := by simp; omega
  clear h U P hf c1 hss hv ha hw9
  rename_i hdead
  clear hdead
  go_enter Try.func21, Try.ntmps21
  go_upto_block 0 with (first
    | (refine wp_boxW (dvals (.slice sp d.pages.length cp) d.writes (.slice su d.unr.length cu) d.dead (.slice sf d.faults.length cf)) _ rfl rfl rfl ?_; intro w0 hP hb0 hz0; have HB0 := Lib.hid hb0; have HD0 := Lib.hid hP; clear hP hb0)
    | (refine wp_newW dev0 _ zero_dev rfl rfl ?_; intro w1 hP hb1 hz1; have HB1 := Lib.hid (HB0.out.trans (hb1.mono HB0.out.size)); have HD1 := Lib.hid (HD0.out.keep hb1); have HR1 := Lib.hid hP; have HV1 := Lib.hid (DV.out.keep HB1.out); clear hP hb1 HD0 HB0)
    | (refine wp_loadDev _ _ _ _ _ HD1.out rfl rfl rfl ?_)
    | (go_at_call 45; (with_reducible refine (refUsable_b _ d _ 0 HN.out _ HV1.out HF.out).mono ?_); rintro e w2 ⟨rfl, hb2⟩; have hz2 := hb2.size; have HB2 := Lib.hid (HB1.out.trans (hb2.mono HB1.out.size)); have HD2 := Lib.hid (HD1.out.keep hb2); have HR2 := Lib.hid (HR1.out.keep hb2); have HV2 := Lib.hid (HV1.out.keep hb2); obtain ⟨a0, a1, a2, a3, a4⟩ := HD2.out.all5; clear hb2 HB1 HD1 HR1 HV1)
    | (refine wp_loadDev _ _ _ _ _ HD2.out rfl rfl rfl ?_)
    | (go_at_call 37; refine (refCopy_any _ d _ HV2.out L1.out L2.out L3.out).mono ?_; rintro e w3 ⟨vp, vu, vf, rfl, o1, o2, o3, p1, p2, p3, hb3⟩; have hz3 := hb3.size; have BB3 := Lib.hid hb3; have O1 := Lib.hid o1; have O2 := Lib.hid o2; have O3 := Lib.hid o3; have A1 := Lib.hid p1; have A2 := Lib.hid p2; have A3 := Lib.hid p3; clear hb3 o1 o2 o3 p1 p2 p3 a0 a1 a2 a3 a4 HV2)
    | (refine wp_newW dev0 _ zero_dev rfl rfl ?_; intro w4 hP hb4 hz4; have N4 := Lib.hid hP; have P1 := Lib.hid (own_keep O1.out hb4); have P2 := Lib.hid (own_keep O2.out hb4); have P3 := Lib.hid (own_keep O3.out hb4); have Q1 := Lib.hid (fun g e => O1.out.lt g e); have Q2 := Lib.hid (fun g e => O2.out.lt g e); have Q3 := Lib.hid (fun g e => O3.out.lt g e); have BB4 := Lib.hid (BB3.out.trans (hb4.mono hz3)); clear hP hb4 O1 O2 O3 BB3)
    | (refine wp_storeDevW vp d.writes vu d.dead vf (one_own P1.out) (one_own P2.out) (one_own P3.out) N4.out rfl rfl rfl rfl rfl ?_; intro w5 hP hS; have hz5 := Nat.le_of_eq hS.size.symm; have R5 : Hid (RO w2.heap.size w3.heap.size vp vu vf d w5) := Lib.hid ⟨hP, own_storedNe P1.out hS (fun g e => by have := (Q1.out g e).2; omega), own_storedNe P2.out hS (fun g e => by have := (Q2.out g e).2; omega), own_storedNe P3.out hS (fun g e => by have := (Q3.out g e).2; omega), fun e => by have := (Q1.out _ e).2; omega, fun e => by have := (Q2.out _ e).2; omega, fun e => by have := (Q3.out _ e).2; omega, A1.out, A2.out, A3.out, hz3⟩; have BB5 := Lib.hid (hS.below BB4.out hz3); obtain ⟨a0, a1, a2, a3, a4⟩ := R5.out.row.all5; clear hP hS P1 P2 P3 N4 BB4)
    | (refine wp_storeFieldW 3 (.int .i64 (d.writes + 1)) rfl rfl info_int1 R5.out.row (show 1 < 5 by decide) rfl rfl rfl rfl ?_; intro w6 hP hS; have R6 : Hid (RO w2.heap.size w3.heap.size vp vu vf (countD d) w6) := Lib.hid (R5.out.setRow (n := d.writes + 1) (b := d.dead) (d' := countD d) hS hP rfl); have BB6 := Lib.hid (hS.below BB5.out hz3); clear hP hS a0 a1 a2 a3 a4 R5 BB5)
    | (refine wp_storeFieldW 25 nil3 rfl rfl info_flts1 R6.out.row (show 4 < 5 by decide) rfl rfl rfl rfl ?_; intro w7 hP hS; have R7 : Hid (RO w2.heap.size w3.heap.size vp vu nil3 { countD d with faults := restJ d 0 } w7) := Lib.hid (R6.out.noFlt hS hP); have BB7 := Lib.hid (hS.below BB6.out hz3); clear hP hS R6 BB6))
  have HB7 := Lib.hid (HB2.out.trans (BB7.out.mono HB2.out.size))
  have F2 := Lib.hid (F.out.keep HB2.out)
  have Z01 := Lib.hid (And.intro hz0 (And.intro hz1 (And.intro hz2 HB2.out.size)))
  clear Q1 Q2 Q3 A1 A2 A3 hz0 hz1 hz2 hz4 hz5 F
  generalize w3.heap.size = B at *
  go_cut [10] from 39 to 72 (fun s10 wx => ∃ (vf : Value), Hid (RO w2.heap.size B vp vu vf { countD d with faults := restF (countD d) } wx) ∧ Hid (N2 w2.heap.size B vp s10 (dueF (countD d)) wx) ∧ Hid (Below w2.heap.size w2 wx))
  case first =>
    go_wp2_with fail
    go_loopw [10, 11] (fun s10 s11 wr => ∃ (j : Nat) (vf : Value), j ≤ d.faults.length ∧ s11 = .int .i64 j ∧ Hid (RO w2.heap.size B vp vu vf { countD d with faults := restJ d j } wr) ∧ Hid (NV w2.heap.size B vp vu vf s10 (dueJ d j) wr) ∧ Hid (Below w2.heap.size w2 wr)) (fun _ s11 _ => d.faults.length - (intOf s11).toNat)
    case atStart => exact ⟨0, _, Nat.zero_le _, rfl, R7, Lib.hid (nv_nil _), BB7⟩
    case round =>
      clear R7 BB7 HB7
      obtain ⟨j, vf, hj, rfl, R, N, BB⟩ := hrel
      have HDW := Lib.hid (HD2.out.below BB.out (Nat.lt_of_lt_of_le (Nat.lt_trans Z01.out.1 Z01.out.2.1) Z01.out.2.2.1))
      obtain ⟨a0, a1, a2, a3, a4⟩ := HDW.out.all5
      by_cases hj2 : j < d.faults.length
      · have q0 : (0 : Int) ≤ (j : Int) := by omega
        have q1 : (j : Int) < (d.faults.length : Int) := by omega
        have q2 : (d.faults.length : Int) ≤ 1000 := by have := L3.out; omega
        obtain ⟨x, hx⟩ : ∃ x, d.faults[j]? = some x := ⟨_, List.getElem?_eq_getElem hj2⟩
        obtain ⟨g, off, rfl, hg, hcc⟩ := nc.sl_block F2.out (by omega)
        have HC : Hid (∀ W, Below w2.heap.size w2 W → ∀ i u, x.vals[i]? = some u → W.cell? ⟨g, off + j * 6 + i, none⟩ = some u) := Lib.hid (fun W hb i u hu => by
          rw [hb.cell (p := ⟨g, off + j * 6 + i, none⟩) hg, Nat.add_assoc]
          exact hcc _ _ (fltL_at d.faults j x i u hx hu))
        have HX := Lib.hid hx
        clear hcc hx
        cases hzx : (x.at' == d.writes + 1)
        all_goals
          have HZX := Lib.hid hzx
          clear hzx
          have cat := HC.out _ BB.out 1 _ rfl
          have r1 := R.out.row.cells 1 _ rfl
          have BQ : Hid (∀ n, Below wr.heap.size wr (wr.drewN n)) := Lib.hid (fun n => la.below_drewN (Below.refl _ _) n)
          go_upto_region 15 with fail
        · go_cut [10, 54] from 39 to 72 (fun s10 s54 wx => s54 = .bool false ∧ Hid (RO w2.heap.size B vp vu vf { countD d with faults := restJ d j } wx) ∧ Hid (NV w2.heap.size B vp vu vf s10 (dueJ d j) wx) ∧ Hid (Below w2.heap.size w2 wx))
          case first =>
            have HZ2 := HZX.out
            go_quiet (fail)
            go_wp2_with fail
            go_meet
            exact ⟨by (show Value.bool (x.at' == d.writes + 1) = _; rw [HZ2]), Lib.hid (R.out.keep (BQ.out _)), Lib.hid (N.out.keep (BQ.out _)), Lib.hid (BB.out.trans ((BQ.out _).mono BB.out.size))⟩
          case rest =>
          obtain ⟨rfl, R1, N1, B1⟩ := hcut
          clear R N BB HDW a0 a1 a2 a3 a4 cat r1 BQ
          have HDX := Lib.hid (HD2.out.below B1.out (Nat.lt_of_lt_of_le (Nat.lt_trans Z01.out.1 Z01.out.2.1) Z01.out.2.2.1))
          obtain ⟨a0, a1, a2, a3, a4⟩ := HDX.out.all5
          have LC := Lib.hid (HC.out _ B1.out)
          go_upto_region 17 with fail
          refine wp_region_held_drew (S := fun W => Below w2.heap.size w2 W) (by kernel_rfl) B1.out.drew (fun hHeld => ?_)
          refine wpAnyH_take (i := 0) (v := ?_) rfl (by kernel_rfl) (by kernel_rfl) (by kernel_rfl) (fun _ _ _ h => h) (Or.inl ⟨by rfl, ?_⟩) (by assumption) ?_
          rotate_left
          · (intro W hSW; go_simp; try with_reducible rfl)
          try simp only [Act.put, List.getElem_toArray, List.getElem_cons_zero, List.getElem_cons_succ, List.setIfInBounds_toArray, List.set_cons_zero, List.set_cons_succ]
          refine wpAnyH_take (i := 2) (v := ?_) rfl (by kernel_rfl) (by kernel_rfl) (by kernel_rfl) (fun _ _ _ h => h) (Or.inl ⟨by rfl, ?_⟩) (by assumption) ?_
          rotate_left
          · (intro W hSW; go_simp; try with_reducible rfl)
          try simp only [Act.put, List.getElem_toArray, List.getElem_cons_zero, List.getElem_cons_succ, List.setIfInBounds_toArray, List.set_cons_zero, List.set_cons_succ]
          refine wpAnyH_take (i := 3) (v := ?_) rfl (by kernel_rfl) (by kernel_rfl) (by kernel_rfl) (fun _ _ _ h => h) (Or.inl ⟨by rfl, ?_⟩) (by assumption) ?_
          rotate_left
          · (intro W hSW; have hb' := (HD2.out.below hSW (Nat.lt_of_lt_of_le (Nat.lt_trans Z01.out.1 Z01.out.2.1) Z01.out.2.2.1)).cells 4 _ rfl; go_simp; try with_reducible rfl)
          try simp only [Act.put, List.getElem_toArray, List.getElem_cons_zero, List.getElem_cons_succ, List.setIfInBounds_toArray, List.set_cons_zero, List.set_cons_succ]
          refine wpAnyH_take (i := 4) (v := ?_) rfl (by kernel_rfl) (by kernel_rfl) (by kernel_rfl) (fun _ _ _ h => h) (Or.inl ⟨by rfl, ?_⟩) (by assumption) ?_
          rotate_left
          · (intro W hSW; go_simp; try with_reducible rfl)
          try simp only [Act.put, List.getElem_toArray, List.getElem_cons_zero, List.getElem_cons_succ, List.setIfInBounds_toArray, List.set_cons_zero, List.set_cons_succ]
          refine wpAnyH_take (i := 5) (v := ?_) rfl (by kernel_rfl) (by kernel_rfl) (by kernel_rfl) (fun _ _ _ h => h) (Or.inl ⟨by rfl, ?_⟩) (by assumption) ?_
          rotate_left
          · (intro W hSW; go_simp; try with_reducible rfl)
          try simp only [Act.put, List.getElem_toArray, List.getElem_cons_zero, List.getElem_cons_succ, List.setIfInBounds_toArray, List.set_cons_zero, List.set_cons_succ]
          refine wpAnyH_take (i := 6) (v := .agg x.arr) rfl (by kernel_rfl) (by kernel_rfl) (by kernel_rfl) (fun _ _ _ h => h) (yieldsIf_load_mid (by rfl) 29 _ rfl g (off + j * 6) rfl x.vals _ (fun W hSw => fun j v hv => HC.out _ hSw j v hv) Try.underlying29 rfl info_flt) (by assumption) ?_
          try simp only [Act.put, List.getElem_toArray, List.getElem_cons_zero, List.getElem_cons_succ, List.setIfInBounds_toArray, List.set_cons_zero, List.set_cons_succ]
          have R1d := Lib.hid (R1.out.keep (Below.refl _ _).drew)
          have N1d := Lib.hid (N1.out.keep (Below.refl _ _).drew)
          refine wpAnyH_ready (rs := [1, 7]) (by kernel_rfl) (by simp) (AllReadyH.cons rfl (fun K hK => ?_) (AllReadyH.cons rfl (fun K hK => ?_) AllReadyH.nil))
          · have v4 := R1d.out.row.cells 4 _ rfl
            go_simp
            refine hK.out _ _ hHeld (fun hA => ?_)
            clear hK K
            try simp only [Act.put, List.getElem_toArray, List.getElem_cons_zero, List.getElem_cons_succ, List.setIfInBounds_toArray, List.set_cons_zero, List.set_cons_succ]
            clear v4
            refine wpAnyH_ready (rs := [7]) (by kernel_rfl) (by simp) (AllReadyH.cons rfl (fun K hK => ?_) AllReadyH.nil)
            simp only [List.getElem_toArray, List.getElem_cons_zero, List.getElem_cons_succ]
            rw [if_pos (by rfl)]
            with_reducible refine op_buildF1 x (by rfl) ?_ (fun W7 hP hb hz => ?_)
            · rfl
            have T8 := Lib.hid hP
            have R8 := Lib.hid (R1d.out.keep hb)
            have N8 := Lib.hid (N1d.out.keep hb)
            refine hK.out _ _ (hA.trans (hb.mono hA.size)) (fun hBd => ?_)
            clear hK K
            try simp only [Act.put, List.getElem_toArray, List.getElem_cons_zero, List.getElem_cons_succ, List.setIfInBounds_toArray, List.set_cons_zero, List.set_cons_succ]
            refine wpAnyH_ready (rs := [8]) (by kernel_rfl) (by simp) (AllReadyH.cons rfl (fun K hK => ?_) AllReadyH.nil)
            simp only [List.getElem_toArray, List.getElem_cons_zero, List.getElem_cons_succ]
            rw [if_pos (by rfl)]
            with_reducible refine op_appendF w2.heap.size _ (restJ d j) x _ (by rfl) ?_ ?_ R8.out.faults T8.out (Nat.le_trans (restJ_len d j) L3.out) hBd.size (fun v9 W9 hO hg hb => ?_)
            · rfl
            · rfl
            have OC : v9.oneCell' = true := one_own hO
            have ST := Lib.hid (R8.out.fltStep (l := restJ d j ++ [x]) hg hO hb)
            have O9 := Lib.hid hO
            have NG := Lib.hid (And.intro hg hb)
            refine hK.out _ _ (nf.below_grown hBd hg (fun g e => (R8.out.faults.lt g e).1) hBd.size) (fun hAp => ?_)
            clear hK K
            try simp only [Act.put, List.getElem_toArray, List.getElem_cons_zero, List.getElem_cons_succ, List.setIfInBounds_toArray, List.set_cons_zero, List.set_cons_succ]
            refine wpAnyH_take (i := 9) (v := ?_) rfl (by kernel_rfl) (by kernel_rfl) (by kernel_rfl) (fun _ _ _ h => h) (Or.inl ⟨by rfl, ?_⟩) (by assumption) ?_
            rotate_left
            · (intro W hSW; go_simp; try with_reducible rfl)
            try simp only [Act.put, List.getElem_toArray, List.getElem_cons_zero, List.getElem_cons_succ, List.setIfInBounds_toArray, List.set_cons_zero, List.set_cons_succ]
            refine wpAnyH_ready (rs := [10]) (by kernel_rfl) (by simp) (AllReadyH.cons rfl (fun K hK => ?_) AllReadyH.nil)
            simp only [List.getElem_toArray, List.getElem_cons_zero, List.getElem_cons_succ]
            rw [if_pos (by rfl)]
            with_reducible refine op_storeField (i := 4) 25 v9 (cells_own O9.out) OC info_flts1 ST.out.1 (by rw [dvals_length]; decide) (by rfl) ?_ ?_ (fun Wa hP hS => ?_)
            · rfl
            · rfl
            have RA := Lib.hid (ST.out.2 Wa hS hP)
            have NA := Lib.hid (N8.out.flt NG.out.1 NG.out.2 hS)
            refine hK.out _ _ (hS.below hAp R8.out.bB) (fun hFin => ?_)
            clear hK K
            try simp only [Act.put, List.getElem_toArray, List.getElem_cons_zero, List.getElem_cons_succ, List.setIfInBounds_toArray, List.set_cons_zero, List.set_cons_succ]
            refine wpAnyH_done (by kernel_rfl) ?_ _
            clear a0 a1 a2 a3 a4
            go_wp2_with fail
            go_roundw
            case measure => simp [intOf]; omega
            case rel =>
              have EA : Hid (restJ d (j + 1) = restJ d j ++ [x]) := Lib.hid (by rw [restJ_succ HX.out, HZX.out, if_neg (by decide)])
              have EB : Hid (dueJ d (j + 1) = dueJ d j) := Lib.hid (by rw [dueJ_succ HX.out, HZX.out, if_neg (by decide), List.append_nil])
              have RZ : Hid (RO w2.heap.size B vp vu v9 { countD d with faults := restJ d (j + 1) } Wa) := Lib.hid (by rw [EA.out]; exact RA.out)
              have NZ : Hid (NV w2.heap.size B vp vu v9 _ (dueJ d (j + 1)) Wa) := Lib.hid (by rw [EB.out]; exact NA.out)
              have BZ := Lib.hid hFin
              first | exact ⟨j + 1, v9, by omega, by go_num, RZ, NZ, BZ⟩ | ((repeat apply Exists.intro); exact ⟨⟨j + 1, v9, by omega, by go_num, RZ, NZ, BZ⟩, rfl⟩)
          · simp only [List.getElem_toArray, List.getElem_cons_zero, List.getElem_cons_succ]
            rw [if_pos (by rfl)]
            with_reducible refine op_buildF1 x (by rfl) ?_ (fun W7 hP hb hz => ?_)
            · rfl
            have T8 := Lib.hid hP
            have R8 := Lib.hid (R1d.out.keep hb)
            have N8 := Lib.hid (N1d.out.keep hb)
            refine hK.out _ _ (hHeld.trans (hb.mono hHeld.size)) (fun hBd => ?_)
            clear hK K
            try simp only [Act.put, List.getElem_toArray, List.getElem_cons_zero, List.getElem_cons_succ, List.setIfInBounds_toArray, List.set_cons_zero, List.set_cons_succ]
            refine wpAnyH_ready (rs := [1]) (by kernel_rfl) (by simp) (AllReadyH.cons rfl (fun K hK => ?_) AllReadyH.nil)
            have v4 := R8.out.row.cells 4 _ rfl
            go_simp
            refine hK.out _ _ hBd (fun hA => ?_)
            clear hK K
            try simp only [Act.put, List.getElem_toArray, List.getElem_cons_zero, List.getElem_cons_succ, List.setIfInBounds_toArray, List.set_cons_zero, List.set_cons_succ]
            clear v4
            refine wpAnyH_ready (rs := [8]) (by kernel_rfl) (by simp) (AllReadyH.cons rfl (fun K hK => ?_) AllReadyH.nil)
            simp only [List.getElem_toArray, List.getElem_cons_zero, List.getElem_cons_succ]
            rw [if_pos (by rfl)]
            with_reducible refine op_appendF w2.heap.size _ (restJ d j) x _ (by rfl) ?_ ?_ R8.out.faults T8.out (Nat.le_trans (restJ_len d j) L3.out) hA.size (fun v9 W9 hO hg hb => ?_)
            · rfl
            · rfl
            have OC : v9.oneCell' = true := one_own hO
            have ST := Lib.hid (R8.out.fltStep (l := restJ d j ++ [x]) hg hO hb)
            have O9 := Lib.hid hO
            have NG := Lib.hid (And.intro hg hb)
            refine hK.out _ _ (nf.below_grown hA hg (fun g e => (R8.out.faults.lt g e).1) hA.size) (fun hAp => ?_)
            clear hK K
            try simp only [Act.put, List.getElem_toArray, List.getElem_cons_zero, List.getElem_cons_succ, List.setIfInBounds_toArray, List.set_cons_zero, List.set_cons_succ]
            refine wpAnyH_take (i := 9) (v := ?_) rfl (by kernel_rfl) (by kernel_rfl) (by kernel_rfl) (fun _ _ _ h => h) (Or.inl ⟨by rfl, ?_⟩) (by assumption) ?_
            rotate_left
            · (intro W hSW; go_simp; try with_reducible rfl)
            try simp only [Act.put, List.getElem_toArray, List.getElem_cons_zero, List.getElem_cons_succ, List.setIfInBounds_toArray, List.set_cons_zero, List.set_cons_succ]
            refine wpAnyH_ready (rs := [10]) (by kernel_rfl) (by simp) (AllReadyH.cons rfl (fun K hK => ?_) AllReadyH.nil)
            simp only [List.getElem_toArray, List.getElem_cons_zero, List.getElem_cons_succ]
            rw [if_pos (by rfl)]
            with_reducible refine op_storeField (i := 4) 25 v9 (cells_own O9.out) OC info_flts1 ST.out.1 (by rw [dvals_length]; decide) (by rfl) ?_ ?_ (fun Wa hP hS => ?_)
            · rfl
            · rfl
            have RA := Lib.hid (ST.out.2 Wa hS hP)
            have NA := Lib.hid (N8.out.flt NG.out.1 NG.out.2 hS)
            refine hK.out _ _ (hS.below hAp R8.out.bB) (fun hFin => ?_)
            clear hK K
            try simp only [Act.put, List.getElem_toArray, List.getElem_cons_zero, List.getElem_cons_succ, List.setIfInBounds_toArray, List.set_cons_zero, List.set_cons_succ]
            refine wpAnyH_done (by kernel_rfl) ?_ _
            clear a0 a1 a2 a3 a4
            go_wp2_with fail
            go_roundw
            case measure => simp [intOf]; omega
            case rel =>
              have EA : Hid (restJ d (j + 1) = restJ d j ++ [x]) := Lib.hid (by rw [restJ_succ HX.out, HZX.out, if_neg (by decide)])
              have EB : Hid (dueJ d (j + 1) = dueJ d j) := Lib.hid (by rw [dueJ_succ HX.out, HZX.out, if_neg (by decide), List.append_nil])
              have RZ : Hid (RO w2.heap.size B vp vu v9 { countD d with faults := restJ d (j + 1) } Wa) := Lib.hid (by rw [EA.out]; exact RA.out)
              have NZ : Hid (NV w2.heap.size B vp vu v9 _ (dueJ d (j + 1)) Wa) := Lib.hid (by rw [EB.out]; exact NA.out)
              have BZ := Lib.hid hFin
              first | exact ⟨j + 1, v9, by omega, by go_num, RZ, NZ, BZ⟩ | ((repeat apply Exists.intro); exact ⟨⟨j + 1, v9, by omega, by go_num, RZ, NZ, BZ⟩, rfl⟩)
        · go_cut [10, 54] from 39 to 72 (fun s10 s54 wx => s54 = .bool true ∧ Hid (RO w2.heap.size B vp vu vf { countD d with faults := restJ d j } wx) ∧ Hid (NV w2.heap.size B vp vu vf s10 (dueJ d j) wx) ∧ Hid (Below w2.heap.size w2 wx))
          case first =>
            have HZ2 := HZX.out
            go_quiet (fail)
            go_wp2_with fail
            go_meet
            exact ⟨by (show Value.bool (x.at' == d.writes + 1) = _; rw [HZ2]), Lib.hid (R.out.keep (BQ.out _)), Lib.hid (N.out.keep (BQ.out _)), Lib.hid (BB.out.trans ((BQ.out _).mono BB.out.size))⟩
          case rest =>
          obtain ⟨rfl, R1, N1, B1⟩ := hcut
          clear R N BB HDW a0 a1 a2 a3 a4 cat r1 BQ
          have HDX := Lib.hid (HD2.out.below B1.out (Nat.lt_of_lt_of_le (Nat.lt_trans Z01.out.1 Z01.out.2.1) Z01.out.2.2.1))
          obtain ⟨a0, a1, a2, a3, a4⟩ := HDX.out.all5
          have LC := Lib.hid (HC.out _ B1.out)
          go_wp2_with (first
            | (refine wp_loadFltAt x (off + j * 6) LC.out rfl rfl rfl ?_)
            | (refine wp_buildF1W x rfl rfl rfl ?_; intro w8 hP hb hz8; have T8 := Lib.hid hP; have R8 := Lib.hid (R1.out.keep hb); have N8 := Lib.hid (N1.out.keep hb); have B8 := Lib.hid (B1.out.trans (hb.mono B1.out.size)); clear hP hb R1 N1 B1 LC HDX)
            | (refine wp_appendF w2.heap.size _ (dueJ d j) x _ rfl rfl rfl rfl N8.out.own T8.out (Nat.le_trans (dueJ_len d j) L3.out) B8.out.size ?_; intro v9 w9 hO hg hb; have NN := N8.out.step R8.out hg hO hb; have N9 := Lib.hid NN.1; have R9 := Lib.hid NN.2; have B9 := Lib.hid (nf.below_grown B8.out hg (fun g e => (N8.out.own.lt g e).1) B8.out.size); clear NN hO hg hb))
          clear a0 a1 a2 a3 a4
          go_roundw
          case measure => simp [intOf]; omega
          case rel =>
            have EA : Hid (restJ d (j + 1) = restJ d j) := Lib.hid (by rw [restJ_succ HX.out, HZX.out, if_pos rfl, List.append_nil])
            have EB : Hid (dueJ d (j + 1) = dueJ d j ++ [x]) := Lib.hid (by rw [dueJ_succ HX.out, HZX.out, if_pos rfl])
            have RZ : Hid (RO w2.heap.size B vp vu vf { countD d with faults := restJ d (j + 1) } w9) := Lib.hid (by rw [EA.out]; exact R9.out)
            have NZ : Hid (NV w2.heap.size B vp vu vf _ (dueJ d (j + 1)) w9) := Lib.hid (by rw [EB.out]; exact N9.out)
            first | exact ⟨j + 1, vf, by omega, by go_num, RZ, NZ, B9⟩ | ((repeat apply Exists.intro); exact ⟨⟨j + 1, vf, by omega, by go_num, RZ, NZ, B9⟩, rfl⟩)
      · have hj3 : ¬ (j : Int) < (d.faults.length : Int) := by omega
        have EJ : Hid (j = d.faults.length) := Lib.hid (by omega)
        go_wp2_with fail
        go_meet
        refine ⟨vf, ?_, ?_, BB⟩
        · have := R.out
          rw [EJ.out, restJ_all] at this
          exact Lib.hid this
        · have := N.out
          rw [EJ.out, dueJ_all] at this
          exact Lib.hid ⟨this.own, this.nB, this.np⟩
  case rest =>
    obtain ⟨vf, R, N, BB⟩ := hcut
    clear R7 BB7
    obtain ⟨sn, cn, e, _⟩ := (Sl.of_own N.out.own).form
    subst e
    have DL := Lib.hid (show (dueF (countD d)).length ≤ 64 from Nat.le_trans (due_len _) IV.out.faults.1)
    have FM := Lib.hid (show ∀ f ∈ dueF (countD d), okFault d f = true from fun f hf => IV.out.faults.2 f (due_mem (d := countD d) hf))
    have FT := Lib.hid (fate_of (m := d.pages.length) (dueF (countD d)) fun f hf => by have := okFault_in (FM.out f hf); exact ⟨this.2.2.1, this.2.2.2⟩)
    have G0 : Hid (Goes d.pages.length { countD d with faults := restF (countD d) }) := Lib.hid ⟨rfl, IV.out.pages.2, IV.out.unr.1⟩
    have G1 := Lib.hid (goes_carry (k := k) (s := s) G0.out hkl SS.out FT.out)
    have U1 : Hid ((carryD { countD d with faults := restF (countD d) } k s (becomeF (dueF (countD d)))).unr.length ≤ 64) := Lib.hid (Nat.le_trans (carry_unr_len ..) IV.out.unrLen)
    have UL : Hid (({ countD d with faults := restF (countD d) } : Dev).unr.length ≤ 1000) := Lib.hid L2.out
    have hdl : ((dueF (countD d)).length : Int) ≤ 1000 := by have := DL.out; omega
    go_upto_block 2 with fail
    go_cut [12] from 73 to 110 (fun s12 wx => ∃ (dn : Bool) (vu : Value) (D : Dev), s12 = .bool dn ∧ Hid (RO w2.heap.size B vp vu vf D wx) ∧ Hid (N2 w2.heap.size B vp (.slice sn (dueF (countD d)).length cn) (dueF (countD d)) wx) ∧ Hid (Below w2.heap.size w2 wx) ∧ Hid ((dn = true → D = carryD { countD d with faults := restF (countD d) } k s (becomeF (dueF (countD d)))) ∧ (dn = false → D = { countD d with faults := restF (countD d) } ∧ becomeF (dueF (countD d)) = .done)))
    case first =>
      go_wp2_with fail
      go_loopw [12, 13] (fun s12 s13 wr => ∃ (dn : Bool) (i : Nat) (vu : Value) (D : Dev), s12 = .bool dn ∧ s13 = .int .i64 i ∧ i ≤ (dueF (countD d)).length ∧ Hid (RO w2.heap.size B vp vu vf D wr) ∧ Hid (N2 w2.heap.size B vp (.slice sn (dueF (countD d)).length cn) (dueF (countD d)) wr) ∧ Hid (Below w2.heap.size w2 wr) ∧ Hid ((dn = true → D = carryD { countD d with faults := restF (countD d) } k s (becomeF (dueF (countD d)))) ∧ (dn = false → D = { countD d with faults := restF (countD d) } ∧ ∀ (j : Nat) (g : Flt), j < i → (dueF (countD d))[j]? = some g → whatF g = none))) (fun _ s13 _ => (dueF (countD d)).length - (intOf s13).toNat)
      case atStart => exact ⟨false, 0, _, _, rfl, rfl, Nat.zero_le _, R, N, BB, Lib.hid ⟨fun h => absurd h (by decide), fun _ => ⟨rfl, fun j g hj _ => absurd hj (Nat.not_lt_zero _)⟩⟩⟩
      case round =>
        clear R N BB
        obtain ⟨dn, i, vu3, D, rfl, rfl, hi, R, N, BB, HL⟩ := hrel
        by_cases hi2 : i < (dueF (countD d)).length
        · have q0 : (0 : Int) ≤ (i : Int) := by omega
          have q1 : (i : Int) < ((dueF (countD d)).length : Int) := by omega
          cases dn
          · obtain ⟨rfl, hno⟩ := HL.out.2 rfl
            have NO := Lib.hid hno
            obtain ⟨x, hx⟩ : ∃ x, (dueF (countD d))[i]? = some x := ⟨_, List.getElem?_eq_getElem hi2⟩
            have HX := Lib.hid hx
            have XF := Lib.hid (okFault_in (FM.out x (List.mem_of_getElem? hx)))
            obtain ⟨g, off, rfl, hg, _⟩ := nc.sl_block (Sl.of_own N.out.own) (by omega)
            have ck : wr.cell? ⟨g, off + i * 6, none⟩ = some (.int .i64 x.kind) := n2_cell N.out rfl hx (t := 0) rfl
            clear hno hx
            by_cases k1 : x.kind = 1
            · have BC : Hid ((carryD { countD d with faults := restF (countD d) } k s (becomeF (dueF (countD d)))) = { countD d with faults := restF (countD d) }) := Lib.hid (by rw [become_at _ i x .lost NO.out HX.out (by unfold whatF; rw [if_pos k1])]; rfl)
              rw [k1] at ck
              go_wp2_with fail
              go_roundw
              case measure => simp [intOf]; omega
              case rel =>
                have FZ : Hid ((true = true → { countD d with faults := restF (countD d) } = (carryD { countD d with faults := restF (countD d) } k s (becomeF (dueF (countD d))))) ∧ (true = false → { countD d with faults := restF (countD d) } = { countD d with faults := restF (countD d) } ∧ ∀ (j : Nat) (g : Flt), j < i + 1 → (dueF (countD d))[j]? = some g → whatF g = none)) := Lib.hid ⟨fun _ => BC.out.symm, fun h => absurd h (by decide)⟩
                first | exact ⟨true, i + 1, vu3, _, rfl, by go_num, by omega, R, N, BB, FZ⟩ | ((repeat apply Exists.intro); exact ⟨⟨true, i + 1, vu3, _, rfl, by go_num, by omega, R, N, BB, FZ⟩, rfl⟩)
            by_cases k2 : x.kind = 2
            · obtain ⟨t, ht⟩ := Int.eq_ofNat_of_zero_le XF.out.2.2.1.1
              have htl : t < d.pages.length := by have := XF.out.2.2.1.2; omega
              obtain ⟨old, hold⟩ : ∃ old, d.pages[t]? = some old := ⟨_, List.getElem?_eq_getElem htl⟩
              have OS := Lib.hid (And.intro (show ({ countD d with faults := restF (countD d) } : Dev).pages[t]? = some old from hold) (IV.out.pages.2 old (List.mem_of_getElem? hold)))
              have BC : Hid ((carryD { countD d with faults := restF (countD d) } k s (becomeF (dueF (countD d)))) = owrD { countD d with faults := restF (countD d) } t s 256) := Lib.hid (by rw [become_at _ i x (.misdirected x.target) NO.out HX.out (by unfold whatF; rw [if_neg k1, if_pos k2])]; show owrD _ x.target.toNat s 256 = _; rw [ht, Int.toNat_natCast])
              have cc := n2_cell N.out rfl HX.out (t := 3) rfl
              rw [k2] at ck
              rw [ht] at cc
              have HT := Lib.hid ht
              clear ht htl hold
              go_upto_region 26 with fail
              refine wp_region_held_drew (S := fun W => Below w2.heap.size w2 W ∧ W.cell? ⟨g, off + i * 6 + 3, none⟩ = some (.int .i64 (t : Int))) (by kernel_rfl) ⟨BB.out.drew, cc⟩ (fun hHeld => ?_)
              have Rd := Lib.hid (R.out.keep (Below.refl _ _).drew)
              have Nd := Lib.hid (N.out.keep (Below.refl _ _).drew)
              refine wpAnyH_take (i := 1) (v := ?_) rfl (by kernel_rfl) (by kernel_rfl) (by kernel_rfl) (fun _ _ _ h => h) (Or.inl ⟨by rfl, ?_⟩) (by assumption) ?_
              rotate_left
              · (intro W hSW; obtain ⟨_, hsw⟩ := hSW; go_simp; try with_reducible rfl)
              try simp only [Act.put, List.getElem_toArray, List.getElem_cons_zero, List.getElem_cons_succ, List.setIfInBounds_toArray, List.set_cons_zero, List.set_cons_succ]
              refine wpAnyH_take (i := 2) (v := ?_) rfl (by kernel_rfl) (by kernel_rfl) (by kernel_rfl) (fun _ _ _ h => h) (Or.inl ⟨by rfl, ?_⟩) (by assumption) ?_
              rotate_left
              · (intro W hSW; obtain ⟨_, hsw⟩ := hSW; go_simp; try with_reducible rfl)
              try simp only [Act.put, List.getElem_toArray, List.getElem_cons_zero, List.getElem_cons_succ, List.setIfInBounds_toArray, List.set_cons_zero, List.set_cons_succ]
              refine wpAnyH_take (i := 3) (v := ?_) rfl (by kernel_rfl) (by kernel_rfl) (by kernel_rfl) (fun _ _ _ h => h) (Or.inl ⟨by rfl, ?_⟩) (by assumption) ?_
              rotate_left
              · (intro W hSW; obtain ⟨_, hsw⟩ := hSW; go_simp; try with_reducible rfl)
              try simp only [Act.put, List.getElem_toArray, List.getElem_cons_zero, List.getElem_cons_succ, List.setIfInBounds_toArray, List.set_cons_zero, List.set_cons_succ]
              refine wpAnyH_take (i := 4) (v := ?_) rfl (by kernel_rfl) (by kernel_rfl) (by kernel_rfl) (fun _ _ _ h => h) (Or.inl ⟨by rfl, ?_⟩) (by assumption) ?_
              rotate_left
              · (intro W hSW; obtain ⟨_, hsw⟩ := hSW; go_simp; try with_reducible rfl)
              try simp only [Act.put, List.getElem_toArray, List.getElem_cons_zero, List.getElem_cons_succ, List.setIfInBounds_toArray, List.set_cons_zero, List.set_cons_succ]
              refine wpAnyH_take (i := 5) (v := ?_) rfl (by kernel_rfl) (by kernel_rfl) (by kernel_rfl) (fun _ _ _ h => h) (Or.inl ⟨by rfl, ?_⟩) (by assumption) ?_
              rotate_left
              · (intro W hSW; obtain ⟨_, hsw⟩ := hSW; go_simp; try with_reducible rfl)
              try simp only [Act.put, List.getElem_toArray, List.getElem_cons_zero, List.getElem_cons_succ, List.setIfInBounds_toArray, List.set_cons_zero, List.set_cons_succ]
              refine wpAnyH_take (i := 6) (v := ?_) rfl (by kernel_rfl) (by kernel_rfl) (by kernel_rfl) (fun _ _ _ h => h) (Or.inl ⟨by rfl, ?_⟩) (by assumption) ?_
              rotate_left
              · (intro W hSW; obtain ⟨_, hsw⟩ := hSW; go_simp; try with_reducible rfl)
              try simp only [Act.put, List.getElem_toArray, List.getElem_cons_zero, List.getElem_cons_succ, List.setIfInBounds_toArray, List.set_cons_zero, List.set_cons_succ]
              refine wpAnyH_ready (rs := [0]) (by kernel_rfl) (by simp) (AllReadyH.cons rfl (fun K hK => ?_) AllReadyH.nil)
              simp only [List.getElem_toArray, List.getElem_cons_zero, List.getElem_cons_succ]
              rw [if_pos (by rfl)]
              with_reducible refine op_loadRow _ Rd.out.row (dvals_length _ _ _ _ _) (by rfl) ?_ ?_
              · rfl
              refine hK.out _ _ hHeld (fun hA => ?_)
              clear hK K
              try simp only [Act.put, List.getElem_toArray, List.getElem_cons_zero, List.getElem_cons_succ, List.setIfInBounds_toArray, List.set_cons_zero, List.set_cons_succ]
              refine wpAnyH_ready (rs := [7]) (by kernel_rfl) (by simp) (AllReadyH.cons rfl (fun K hK => ?_) AllReadyH.nil)
              go_simp
              go_wp2_with (go_at_call 46; (with_reducible refine (refPlace_b w2.heap.size vp _ vf { countD d with faults := restF (countD d) } t 256 (t : Int) 256 rfl rfl s old _ Rd.out.pages (Sl.of_own Rd.out.unr) (Sl.of_own Rd.out.faults) Rd.out.pf Rd.out.pu OS.out.1 OS.out.2 SS.out (Nat.le_refl 256) UL.out).mono ?_); rintro e W3 ⟨vu', rfl, hP, hU, hg⟩)
              have N3 := Lib.hid (Nd.out.grown hg)
              have RW := Lib.hid (Rd.out.row.grown hg Rd.out.pB)
              have OU := Lib.hid hU
              have PG := Lib.hid (And.intro hg hP)
              refine hK.out _ _ ⟨nf.below_grown hA.1 hg (fun g e => (Rd.out.pages.lt g e).1) hA.1.size, n2_cell N3.out rfl HX.out (by rw [← HT.out]; rfl)⟩ (fun hBp => ?_)
              clear hK K
              try simp only [Act.put, List.getElem_toArray, List.getElem_cons_zero, List.getElem_cons_succ, List.setIfInBounds_toArray, List.set_cons_zero, List.set_cons_succ]
              refine wpAnyH_ready (rs := [8]) (by kernel_rfl) (by simp) (AllReadyH.cons rfl (fun K hK => ?_) AllReadyH.nil)
              simp only [List.getElem_toArray, List.getElem_cons_zero, List.getElem_cons_succ]
              rw [if_pos (by rfl)]
              with_reducible refine op_storeRow (n := ({ countD d with faults := restF (countD d) } : Dev).writes) (dd := ({ countD d with faults := restF (countD d) } : Dev).dead) (one_own Rd.out.pages) (one_own OU.out) (one_own Rd.out.faults) RW.out (dvals_length _ _ _ _ _) (by rfl) ?_ ?_ (fun W4 hPr hS => ?_)
              · rfl
              · rfl
              have R4 := Lib.hid (Rd.out.placed PG.out.1 PG.out.2 OU.out hS hPr)
              have N4 := Lib.hid (N3.out.stored hS)
              refine hK.out _ _ ⟨hS.below hBp.1 Rd.out.bB, n2_cell N4.out rfl HX.out (by rw [← HT.out]; rfl)⟩ (fun hFin => ?_)
              clear hK K
              try simp only [Act.put, List.getElem_toArray, List.getElem_cons_zero, List.getElem_cons_succ, List.setIfInBounds_toArray, List.set_cons_zero, List.set_cons_succ]
              refine wpAnyH_done (by kernel_rfl) ?_ _
              go_wp2_with fail
              go_roundw
              case measure => simp [intOf]; omega
              case rel =>
                have RZ : Hid (RO w2.heap.size B vp vu' vf (carryD { countD d with faults := restF (countD d) } k s (becomeF (dueF (countD d)))) W4) := Lib.hid (by rw [BC.out]; exact R4.out)
                have BZ := Lib.hid hFin.1
                have FZ : Hid ((true = true → (carryD { countD d with faults := restF (countD d) } k s (becomeF (dueF (countD d)))) = (carryD { countD d with faults := restF (countD d) } k s (becomeF (dueF (countD d))))) ∧ (true = false → (carryD { countD d with faults := restF (countD d) } k s (becomeF (dueF (countD d)))) = { countD d with faults := restF (countD d) } ∧ ∀ (j : Nat) (g : Flt), j < i + 1 → (dueF (countD d))[j]? = some g → whatF g = none)) := Lib.hid ⟨fun _ => rfl, fun h => by cases h⟩
                first | exact ⟨true, i + 1, vu', _, rfl, by go_num, by omega, RZ, N4, BZ, FZ⟩ | ((repeat apply Exists.intro); exact ⟨⟨true, i + 1, vu', _, rfl, by go_num, by omega, RZ, N4, BZ, FZ⟩, rfl⟩)
            by_cases k3 : x.kind = 3
            · obtain ⟨t, ht⟩ := Int.eq_ofNat_of_zero_le XF.out.2.2.2.1
              have htl : t < 256 := by have := XF.out.2.2.2.2; omega
              obtain ⟨old, hold⟩ : ∃ old, d.pages[k]? = some old := ⟨_, List.getElem?_eq_getElem hkl⟩
              have OS := Lib.hid (And.intro (show ({ countD d with faults := restF (countD d) } : Dev).pages[k]? = some old from hold) (IV.out.pages.2 old (List.mem_of_getElem? hold)))
              have BC : Hid ((carryD { countD d with faults := restF (countD d) } k s (becomeF (dueF (countD d)))) = owrD { countD d with faults := restF (countD d) } k s t) := Lib.hid (by rw [become_at _ i x (.torn x.byte) NO.out HX.out (by unfold whatF; rw [if_neg k1, if_neg k2, if_pos k3])]; show owrD _ k s x.byte.toNat = _; rw [ht, Int.toNat_natCast])
              have cc := n2_cell N.out rfl HX.out (t := 4) rfl
              rw [k3] at ck
              rw [ht] at cc
              have HT := Lib.hid ht
              have TL := Lib.hid (Nat.le_of_lt htl)
              clear ht htl hold
              go_upto_region 29 with fail
              refine wp_region_held_drew (S := fun W => Below w2.heap.size w2 W ∧ W.cell? ⟨g, off + i * 6 + 4, none⟩ = some (.int .i64 (t : Int))) (by kernel_rfl) ⟨BB.out.drew, cc⟩ (fun hHeld => ?_)
              have Rd := Lib.hid (R.out.keep (Below.refl _ _).drew)
              have Nd := Lib.hid (N.out.keep (Below.refl _ _).drew)
              refine wpAnyH_take (i := 1) (v := ?_) rfl (by kernel_rfl) (by kernel_rfl) (by kernel_rfl) (fun _ _ _ h => h) (Or.inl ⟨by rfl, ?_⟩) (by assumption) ?_
              rotate_left
              · (intro W hSW; obtain ⟨_, hsw⟩ := hSW; go_simp; try with_reducible rfl)
              try simp only [Act.put, List.getElem_toArray, List.getElem_cons_zero, List.getElem_cons_succ, List.setIfInBounds_toArray, List.set_cons_zero, List.set_cons_succ]
              refine wpAnyH_take (i := 2) (v := ?_) rfl (by kernel_rfl) (by kernel_rfl) (by kernel_rfl) (fun _ _ _ h => h) (Or.inl ⟨by rfl, ?_⟩) (by assumption) ?_
              rotate_left
              · (intro W hSW; obtain ⟨_, hsw⟩ := hSW; go_simp; try with_reducible rfl)
              try simp only [Act.put, List.getElem_toArray, List.getElem_cons_zero, List.getElem_cons_succ, List.setIfInBounds_toArray, List.set_cons_zero, List.set_cons_succ]
              refine wpAnyH_take (i := 3) (v := ?_) rfl (by kernel_rfl) (by kernel_rfl) (by kernel_rfl) (fun _ _ _ h => h) (Or.inl ⟨by rfl, ?_⟩) (by assumption) ?_
              rotate_left
              · (intro W hSW; obtain ⟨_, hsw⟩ := hSW; go_simp; try with_reducible rfl)
              try simp only [Act.put, List.getElem_toArray, List.getElem_cons_zero, List.getElem_cons_succ, List.setIfInBounds_toArray, List.set_cons_zero, List.set_cons_succ]
              refine wpAnyH_take (i := 4) (v := ?_) rfl (by kernel_rfl) (by kernel_rfl) (by kernel_rfl) (fun _ _ _ h => h) (Or.inl ⟨by rfl, ?_⟩) (by assumption) ?_
              rotate_left
              · (intro W hSW; obtain ⟨_, hsw⟩ := hSW; go_simp; try with_reducible rfl)
              try simp only [Act.put, List.getElem_toArray, List.getElem_cons_zero, List.getElem_cons_succ, List.setIfInBounds_toArray, List.set_cons_zero, List.set_cons_succ]
              refine wpAnyH_take (i := 5) (v := ?_) rfl (by kernel_rfl) (by kernel_rfl) (by kernel_rfl) (fun _ _ _ h => h) (Or.inl ⟨by rfl, ?_⟩) (by assumption) ?_
              rotate_left
              · (intro W hSW; obtain ⟨_, hsw⟩ := hSW; go_simp; try with_reducible rfl)
              try simp only [Act.put, List.getElem_toArray, List.getElem_cons_zero, List.getElem_cons_succ, List.setIfInBounds_toArray, List.set_cons_zero, List.set_cons_succ]
              refine wpAnyH_take (i := 6) (v := ?_) rfl (by kernel_rfl) (by kernel_rfl) (by kernel_rfl) (fun _ _ _ h => h) (Or.inl ⟨by rfl, ?_⟩) (by assumption) ?_
              rotate_left
              · (intro W hSW; obtain ⟨_, hsw⟩ := hSW; go_simp; try with_reducible rfl)
              try simp only [Act.put, List.getElem_toArray, List.getElem_cons_zero, List.getElem_cons_succ, List.setIfInBounds_toArray, List.set_cons_zero, List.set_cons_succ]
              refine wpAnyH_take (i := 7) (v := ?_) rfl (by kernel_rfl) (by kernel_rfl) (by kernel_rfl) (fun _ _ _ h => h) (Or.inl ⟨by rfl, ?_⟩) (by assumption) ?_
              rotate_left
              · (intro W hSW; obtain ⟨_, hsw⟩ := hSW; go_simp; try with_reducible rfl)
              try simp only [Act.put, List.getElem_toArray, List.getElem_cons_zero, List.getElem_cons_succ, List.setIfInBounds_toArray, List.set_cons_zero, List.set_cons_succ]
              refine wpAnyH_ready (rs := [0]) (by kernel_rfl) (by simp) (AllReadyH.cons rfl (fun K hK => ?_) AllReadyH.nil)
              simp only [List.getElem_toArray, List.getElem_cons_zero, List.getElem_cons_succ]
              rw [if_pos (by rfl)]
              with_reducible refine op_loadRow _ Rd.out.row (dvals_length _ _ _ _ _) (by rfl) ?_ ?_
              · rfl
              refine hK.out _ _ hHeld (fun hA => ?_)
              clear hK K
              try simp only [Act.put, List.getElem_toArray, List.getElem_cons_zero, List.getElem_cons_succ, List.setIfInBounds_toArray, List.set_cons_zero, List.set_cons_succ]
              refine wpAnyH_ready (rs := [8]) (by kernel_rfl) (by simp) (AllReadyH.cons rfl (fun K hK => ?_) AllReadyH.nil)
              go_simp
              go_wp2_with (go_at_call 46; (with_reducible refine (refPlace_b w2.heap.size vp _ vf { countD d with faults := restF (countD d) } k t (k : Int) (t : Int) rfl rfl s old _ Rd.out.pages (Sl.of_own Rd.out.unr) (Sl.of_own Rd.out.faults) Rd.out.pf Rd.out.pu OS.out.1 OS.out.2 SS.out TL.out UL.out).mono ?_); rintro e W3 ⟨vu', rfl, hP, hU, hg⟩)
              have N3 := Lib.hid (Nd.out.grown hg)
              have RW := Lib.hid (Rd.out.row.grown hg Rd.out.pB)
              have OU := Lib.hid hU
              have PG := Lib.hid (And.intro hg hP)
              refine hK.out _ _ ⟨nf.below_grown hA.1 hg (fun g e => (Rd.out.pages.lt g e).1) hA.1.size, n2_cell N3.out rfl HX.out (by rw [← HT.out]; rfl)⟩ (fun hBp => ?_)
              clear hK K
              try simp only [Act.put, List.getElem_toArray, List.getElem_cons_zero, List.getElem_cons_succ, List.setIfInBounds_toArray, List.set_cons_zero, List.set_cons_succ]
              refine wpAnyH_ready (rs := [9]) (by kernel_rfl) (by simp) (AllReadyH.cons rfl (fun K hK => ?_) AllReadyH.nil)
              simp only [List.getElem_toArray, List.getElem_cons_zero, List.getElem_cons_succ]
              rw [if_pos (by rfl)]
              with_reducible refine op_storeRow (n := ({ countD d with faults := restF (countD d) } : Dev).writes) (dd := ({ countD d with faults := restF (countD d) } : Dev).dead) (one_own Rd.out.pages) (one_own OU.out) (one_own Rd.out.faults) RW.out (dvals_length _ _ _ _ _) (by rfl) ?_ ?_ (fun W4 hPr hS => ?_)
              · rfl
              · rfl
              have R4 := Lib.hid (Rd.out.placed PG.out.1 PG.out.2 OU.out hS hPr)
              have N4 := Lib.hid (N3.out.stored hS)
              refine hK.out _ _ ⟨hS.below hBp.1 Rd.out.bB, n2_cell N4.out rfl HX.out (by rw [← HT.out]; rfl)⟩ (fun hFin => ?_)
              clear hK K
              try simp only [Act.put, List.getElem_toArray, List.getElem_cons_zero, List.getElem_cons_succ, List.setIfInBounds_toArray, List.set_cons_zero, List.set_cons_succ]
              refine wpAnyH_done (by kernel_rfl) ?_ _
              go_wp2_with fail
              go_roundw
              case measure => simp [intOf]; omega
              case rel =>
                have RZ : Hid (RO w2.heap.size B vp vu' vf (carryD { countD d with faults := restF (countD d) } k s (becomeF (dueF (countD d)))) W4) := Lib.hid (by rw [BC.out]; exact R4.out)
                have BZ := Lib.hid hFin.1
                have FZ : Hid ((true = true → (carryD { countD d with faults := restF (countD d) } k s (becomeF (dueF (countD d)))) = (carryD { countD d with faults := restF (countD d) } k s (becomeF (dueF (countD d))))) ∧ (true = false → (carryD { countD d with faults := restF (countD d) } k s (becomeF (dueF (countD d)))) = { countD d with faults := restF (countD d) } ∧ ∀ (j : Nat) (g : Flt), j < i + 1 → (dueF (countD d))[j]? = some g → whatF g = none)) := Lib.hid ⟨fun _ => rfl, fun h => by cases h⟩
                first | exact ⟨true, i + 1, vu', _, rfl, by go_num, by omega, RZ, N4, BZ, FZ⟩ | ((repeat apply Exists.intro); exact ⟨⟨true, i + 1, vu', _, rfl, by go_num, by omega, RZ, N4, BZ, FZ⟩, rfl⟩)
            have f1 : (x.kind == 1) = false := by simpa using k1
            have f2 : (x.kind == 2) = false := by simpa using k2
            have f3 : (x.kind == 3) = false := by simpa using k3
            have NX : Hid (∀ (j : Nat) (g : Flt), j < i + 1 → (dueF (countD d))[j]? = some g → whatF g = none) := Lib.hid (fun j g' hj hgj => by
              by_cases e : j = i
              · subst e
                rw [HX.out] at hgj
                injection hgj with hgj
                rw [← hgj]
                unfold whatF
                rw [if_neg k1, if_neg k2, if_neg k3]
              · exact NO.out j g' (by omega) hgj)
            go_wp2_with fail
            go_roundw
            case measure => simp [intOf]; omega
            case rel =>
              have FZ : Hid ((false = true → { countD d with faults := restF (countD d) } = (carryD { countD d with faults := restF (countD d) } k s (becomeF (dueF (countD d))))) ∧ (false = false → { countD d with faults := restF (countD d) } = { countD d with faults := restF (countD d) } ∧ ∀ (j : Nat) (g : Flt), j < i + 1 → (dueF (countD d))[j]? = some g → whatF g = none)) := Lib.hid ⟨fun h => absurd h (by decide), fun _ => ⟨rfl, NX.out⟩⟩
              first | exact ⟨false, i + 1, vu3, _, rfl, by go_num, by omega, R, N, BB, FZ⟩ | ((repeat apply Exists.intro); exact ⟨⟨false, i + 1, vu3, _, rfl, by go_num, by omega, R, N, BB, FZ⟩, rfl⟩)
          · go_wp2_with fail
            go_meet
            exact ⟨true, vu3, D, rfl, R, N, BB, Lib.hid ⟨fun _ => HL.out.1 (by first | rfl | trivial), fun h => absurd h (by decide)⟩⟩
        · have hi3 : ¬ (i : Int) < ((dueF (countD d)).length : Int) := by omega
          go_wp2_with fail
          go_meet
          exact ⟨dn, vu3, D, rfl, R, N, BB, Lib.hid ⟨HL.out.1, fun h => ⟨(HL.out.2 h).1, become_none _ (fun j g hg => (HL.out.2 h).2 j g (by have := (List.getElem?_eq_some_iff.1 hg).1; omega) hg)⟩⟩⟩
    case rest =>
    clear R N BB
    obtain ⟨dn, vu2, D, rfl, R, N, BB, HL⟩ := hcut
    go_upto_if 112 with fail
    go_cut [12] from 111 to 116 (fun _ wx => ∃ (vu : Value), Hid (RO w2.heap.size B vp vu vf (carryD { countD d with faults := restF (countD d) } k s (becomeF (dueF (countD d)))) wx) ∧ Hid (N2 w2.heap.size B vp (.slice sn (dueF (countD d)).length cn) (dueF (countD d)) wx) ∧ Hid (Below w2.heap.size w2 wx))
    case first =>
      cases dn
      · obtain ⟨rfl, hb⟩ := HL.out.2 rfl
        have BC : Hid ((carryD { countD d with faults := restF (countD d) } k s (becomeF (dueF (countD d)))) = owrD { countD d with faults := restF (countD d) } k s 256) := Lib.hid (by rw [hb]; rfl)
        obtain ⟨old, hold⟩ : ∃ old, d.pages[k]? = some old := ⟨_, List.getElem?_eq_getElem hkl⟩
        have OS := Lib.hid (And.intro (show ({ countD d with faults := restF (countD d) } : Dev).pages[k]? = some old from hold) (IV.out.pages.2 old (List.mem_of_getElem? hold)))
        clear hold hb
        go_wp2_with (first
          | (refine wp_loadDev _ _ _ _ _ R.out.row rfl rfl rfl ?_)
          | (go_at_call 46; refine (refPlace_b w2.heap.size vp _ vf { countD d with faults := restF (countD d) } k 256 (k : Int) 256 rfl rfl s old _ R.out.pages (Sl.of_own R.out.unr) (Sl.of_own R.out.faults) R.out.pf R.out.pu OS.out.1 OS.out.2 SS.out (Nat.le_refl 256) UL.out).mono ?_; rintro e W3 ⟨vu', rfl, hP, hU, hg⟩; have N3 := Lib.hid (N.out.grown hg); have RW := Lib.hid (R.out.row.grown hg R.out.pB); have OU := Lib.hid hU; have PG := Lib.hid (And.intro hg hP); have B3 := Lib.hid (nf.below_grown BB.out hg (fun g e => (R.out.pages.lt g e).1) BB.out.size); have R3 := R; clear hP hU hg N BB R)
          | (refine wp_storeDevW vp _ vu' _ vf (one_own R3.out.pages) (one_own OU.out) (one_own R3.out.faults) RW.out (dvals_length _ _ _ _ _) rfl rfl rfl rfl ?_; intro W4 hPr hS; have R4 := Lib.hid (R3.out.placed PG.out.1 PG.out.2 OU.out hS hPr); have N4 := Lib.hid (N3.out.stored hS); have B4 := Lib.hid (hS.below B3.out R3.out.bB); clear hPr hS))
        go_meet
        exact ⟨vu', Lib.hid (by rw [BC.out]; exact R4.out), N4, B4⟩
      · obtain rfl := HL.out.1 rfl
        go_wp2_with fail
        go_meet
        exact ⟨vu2, R, N, BB⟩
    case rest =>
    clear R N BB HL
    obtain ⟨vu4, R, N, BB⟩ := hcut

    go_wp2_with fail
    go_loopw [14, 15, 16] (fun s14 _ _ wr => ∃ (i : Nat) (vu : Value), i ≤ (dueF (countD d)).length ∧ s14 = .int .i64 i ∧ Hid (RO w2.heap.size B vp vu vf (((dueF (countD d)).take i).foldl harmD (carryD { countD d with faults := restF (countD d) } k s (becomeF (dueF (countD d))))) wr) ∧ Hid (N2 w2.heap.size B vp (.slice sn (dueF (countD d)).length cn) (dueF (countD d)) wr) ∧ Hid (Below w2.heap.size w2 wr)) (fun s14 _ _ _ => (dueF (countD d)).length - (intOf s14).toNat)
    case atStart => exact ⟨0, _, Nat.zero_le _, rfl, R, N, BB⟩
    case round =>
      clear R N BB
      obtain ⟨i, vu5, hi, rfl, R, N, BB⟩ := hrel
      by_cases hi2 : i < (dueF (countD d)).length
      · have q0 : (0 : Int) ≤ (i : Int) := by omega
        have q1 : (i : Int) < ((dueF (countD d)).length : Int) := by omega
        obtain ⟨x, hx⟩ : ∃ x, (dueF (countD d))[i]? = some x := ⟨_, List.getElem?_eq_getElem hi2⟩
        have HX := Lib.hid hx
        have XF := Lib.hid (okFault_in (FM.out x (List.mem_of_getElem? hx)))
        have GH := Lib.hid (goes_harms ((dueF (countD d)).take i) G1.out (fun f hf => (okFault_in (FM.out f (List.mem_of_mem_take hf))).2.1))
        have GL : Hid ((((dueF (countD d)).take i).foldl harmD (carryD { countD d with faults := restF (countD d) } k s (becomeF (dueF (countD d))))).unr.length ≤ 900) := Lib.hid (by
          have h1 := GH.out.2
          have h2 := U1.out
          have h3 := DL.out
          rw [List.length_take] at h1
          exact Nat.le_trans h1 (Nat.le_trans (Nat.add_le_add h2 (Nat.min_le_right _ _)) (by omega)))
        have NX : Hid (((dueF (countD d)).take (i + 1)).foldl harmD (carryD { countD d with faults := restF (countD d) } k s (becomeF (dueF (countD d)))) = harmD (((dueF (countD d)).take i).foldl harmD (carryD { countD d with faults := restF (countD d) } k s (becomeF (dueF (countD d))))) x) := Lib.hid (by
          rw [List.take_add_one, hx, List.foldl_append]; rfl)
        obtain ⟨g, off, rfl, hg, _⟩ := nc.sl_block (Sl.of_own N.out.own) (by omega)
        have LC : Hid (∀ t u, x.vals[t]? = some u → wr.cell? ⟨g, off + i * 6 + t, none⟩ = some u) := Lib.hid (fun t u hu => n2_cell N.out rfl HX.out hu)
        clear hx
        generalize ((dueF (countD d)).take i).foldl harmD (carryD { countD d with faults := restF (countD d) } k s (becomeF (dueF (countD d)))) = D at *
        go_upto_region 37 with (first
          | (refine wp_loadFltAt x (off + i * 6) LC.out rfl rfl rfl ?_)
          | (refine wp_newW flt0.vals _ zero_flt rfl rfl ?_; intro wa hP hb1 hza; have N1 := Lib.hid hP; have M1 := Lib.hid hb1; clear hP hb1 LC)
          | (refine wp_storeFltW x N1.out rfl rfl rfl rfl rfl ?_; intro wb hP hS; have XB := Lib.hid hP; have MB := Lib.hid (hS.below M1.out (Nat.le_refl _)); have RB := Lib.hid (R.out.keep MB.out); have NB := Lib.hid (N.out.keep MB.out); have BB2 := Lib.hid (BB.out.trans (MB.out.mono BB.out.size)); have FX : Hid (B < wr.heap.size) := Lib.hid R.out.row.lt; clear hP hS N1 M1 R N BB MB))
        have FB := Lib.hid (And.intro FX.out BB2.out.size)
        generalize wr.heap.size = fb at *
        obtain ⟨b0, b1, b2, b3, b4, b5⟩ := XB.out.all6
        by_cases k4 : x.kind = 4
        · obtain ⟨t, ht⟩ := Int.eq_ofNat_of_zero_le XF.out.2.1.1
          have htl : t < D.pages.length := by rw [GH.out.1.len]; have := XF.out.2.1.2; omega
          obtain ⟨bt, hbt⟩ := Int.eq_ofNat_of_zero_le XF.out.2.2.2.1
          have hbl : bt < 256 := by have := XF.out.2.2.2.2; omega
          obtain ⟨old, hold⟩ : ∃ old, D.pages[t]? = some old := ⟨_, List.getElem?_eq_getElem htl⟩
          have hosz := GH.out.1.size old (List.mem_of_getElem? hold)
          have HR : Hid (harmD D x = { D with pages := D.pages.set t (rotS old bt x.mask) }) := Lib.hid (by
            unfold harmD
            rw [if_pos k4]
            unfold rotD
            rw [ht, hbt, Int.toNat_natCast, Int.toNat_natCast, show D.pages.getD t ByteArray.empty = old by simp [List.getD, hold]])
          obtain ⟨gp, cq, rfl, hgB, hgp⟩ := RB.out.pages.form (by omega)
          have hcap : D.pages.length ≤ cq := by
            rcases RB.out.pages.2 with ⟨e, _⟩ | ⟨g', cap', cur, e, _, _, h1, _⟩
            · cases e
            · simp only [Value.slice.injEq, true_and] at e
              obtain ⟨_, rfl⟩ := e
              exact h1
          have HOLD := Lib.hid hold
          have HTT := Lib.hid (And.intro ht hbt)
          have GPP := Lib.hid (And.intro hgB hgp)
          rw [k4] at b0
          rw [ht] at b2
          rw [hbt] at b4
          have z0 : (0 : Int) ≤ (t : Int) := by omega
          have z1 : (t : Int) < (D.pages.length : Int) := by omega
          have z2 : (0 : Int) ≤ (bt : Int) := by omega
          have z3 : (bt : Int) < 256 := by omega
          have hcv : ∀ W : World, (convert 9 22 (.string old)).run Try.prog W = .ok (.slice (some ⟨W.heap.size, 0, none⟩) 256 (grownCap W 256 0 5)) (bytesWorld W 5 old) := fun W => by
            have := Go.Lib.run_convert_string_bytes (P := Try.prog) W 9 22 5 old Try.underlying9 Try.underlying22 Try.underlying5
            rw [hosz] at this
            exact this
          have p0 := (RB.out.pages.cellAt t (by omega)).trans (strL_at hold)
          obtain ⟨a0, a1, a2, a3, a4⟩ := RB.out.row.all5
          clear ht hbt hold htl hgB hgp
          go_upto_region 40 with fail
          have W2r : BRow wb.heap.size (numsOf old) (bytesWorld wb 5 old) := bytesWorld_row wb old hosz
          have W2b : Below wb.heap.size wb (bytesWorld wb 5 old) := bytesWorld_below wb old
          have hcg := cap_ge wb
          clear hcv a0 a1 a2 a3 a4 b0 b1 b2 b3 b4 b5 p0
          generalize bytesWorld wb 5 old = w8 at *
          generalize grownCap wb 256 0 5 = cap at *
          have BR2 := Lib.hid W2r
          have WB2 := Lib.hid W2b
          obtain ⟨b0, b1, b2, b3, b4, b5⟩ := (XB.out.keep W2b).all6
          rw [HTT.out.2] at b4
          have y1 := BR2.out.cells bt hbl
          have y2 := BR2.out.free bt hbl
          clear W2r W2b
          apply li.wp_one
          · go_region
            iterate 40 (try exact ⟨rfl, rfl⟩)
          · have WB3 := Lib.hid (WB2.out.setCell (p := ⟨wb.heap.size, bt, none⟩) (Nat.le_refl _) (.int .u8 (bits .xor .u8 ((numsOf old)[bt]?.getD 0) x.mask))).drew
            have BR3 := Lib.hid (BR2.out.set bt hbl (bits .xor .u8 ((numsOf old)[bt]?.getD 0) x.mask)).drew
            clear b0 b1 b2 b3 b4 b5 y1 y2 WB2 BR2
            show Exit.then _ _ _ _ (w8.setCell ⟨wb.heap.size, bt, none⟩ (.int .u8 (bits .xor .u8 ((numsOf old)[bt]?.getD 0) x.mask))).drew
            generalize (w8.setCell ⟨wb.heap.size, bt, none⟩ (.int .u8 (bits .xor .u8 ((numsOf old)[bt]?.getD 0) x.mask))).drew = w9 at *
            have R9 := Lib.hid (RB.out.keep WB3.out)
            have N9 := Lib.hid (NB.out.keep WB3.out)
            have B9 := Lib.hid (BB2.out.trans (WB3.out.mono BB2.out.size))
            obtain ⟨a0, a1, a2, a3, a4⟩ := R9.out.row.all5
            obtain ⟨b0, b1, b2, b3, b4, b5⟩ := (XB.out.keep WB3.out).all6
            rw [HTT.out.1] at b2
            have p0 := (R9.out.pages.cellAt t (by omega)).trans (strL_at HOLD.out)
            have p1 := R9.out.pages.frozenAt t
            have hcv : (convert 22 9 (.slice (some ⟨wb.heap.size, 0, none⟩) 256 cap)).run Try.prog w9 = .ok (.string (rotS old bt x.mask)) w9 := conv_brow BR3.out
            have S4 := R9.out.setPage t (rotS old bt x.mask)
            have RT := Lib.hid S4.1
            have NT := Lib.hid (N9.out.grown S4.2)
            have BT := Lib.hid (nf.below_grown B9.out S4.2 (fun g' e => by have := GPP.out.1; have h2 : gp = g' := Option.some.inj e; omega) B9.out.size)
            clear S4 RB NB BB2 XB WB3
            go_wp2_with fail
            go_roundw
            case measure => simp [intOf]; omega
            case rel =>
              have RZ : Hid (RO w2.heap.size B _ vu5 vf (((dueF (countD d)).take (i + 1)).foldl harmD (carryD { countD d with faults := restF (countD d) } k s (becomeF (dueF (countD d))))) _) := Lib.hid (by rw [NX.out, HR.out]; exact RT.out)
              first | exact ⟨i + 1, vu5, by omega, by go_num, RZ, NT, BT⟩ | ((repeat apply Exists.intro); exact ⟨⟨i + 1, vu5, by omega, by go_num, RZ, NT, BT⟩, rfl⟩)
        by_cases k5 : x.kind = 5
        · have HR : Hid (harmD D x = { D with unr := hideL D.unr x.page }) := Lib.hid (by
            unfold harmD
            rw [if_neg k4, if_pos k5])
          obtain ⟨a0, a1, a2, a3, a4⟩ := RB.out.row.all5
          rw [k5] at b0
          go_wp2_with (first
            | (go_at_call 47; refine (refWith_any _ D.unr x.page _ (Sl.of_own RB.out.unr) GL.out GH.out.1.asc).mono ?_; rintro e w8 ⟨vu', rfl, hO, hb⟩; have O8 := Lib.hid hO; have HB8 := Lib.hid hb; have ROW8 := Lib.hid (RB.out.row.keep hb); have N8 := Lib.hid (NB.out.keep hb); have B8 := Lib.hid (BB2.out.trans (hb.mono BB2.out.size)); clear hO hb a0 a1 a2 a3 a4 b0 b1 b2 b3 b4 b5)
            | (refine wp_storeFieldW 24 vu' (cells_own O8.out) (one_own O8.out) info_ints1 ROW8.out (by rw [dvals_length]; decide) rfl rfl rfl rfl ?_; intro w9 hP hS; have R9 := Lib.hid (RB.out.unrStep HB8.out O8.out hS hP); have N9 := Lib.hid (N8.out.stored hS); have B9 := Lib.hid (hS.below B8.out RB.out.bB); clear hP hS RB NB BB2))
          go_roundw
          case measure => simp [intOf]; omega
          case rel =>
            have RZ : Hid (RO w2.heap.size B vp vu' vf (((dueF (countD d)).take (i + 1)).foldl harmD (carryD { countD d with faults := restF (countD d) } k s (becomeF (dueF (countD d))))) _) := Lib.hid (by rw [NX.out, HR.out]; exact R9.out)
            first | exact ⟨i + 1, vu', by omega, by go_num, RZ, N9, B9⟩ | ((repeat apply Exists.intro); exact ⟨⟨i + 1, vu', by omega, by go_num, RZ, N9, B9⟩, rfl⟩)
        by_cases k6 : x.kind = 6
        · have HR : Hid (harmD D x = { D with dead := true }) := Lib.hid (by
            unfold harmD
            rw [if_neg k4, if_neg k5, if_pos k6])
          rw [k6] at b0
          go_wp2_with (refine wp_storeFieldW 4 (.bool true) rfl rfl info_bool1 RB.out.row (by rw [dvals_length]; decide) rfl rfl rfl rfl ?_; intro w9 hP hS; have R9 : Hid (RO w2.heap.size B vp vu5 vf { D with dead := true } w9) := Lib.hid (RB.out.setRow (n := D.writes) (b := true) hS hP rfl); have N9 := Lib.hid (NB.out.stored hS); have B9 := Lib.hid (hS.below BB2.out RB.out.bB); clear hP hS RB NB BB2 b0 b1 b2 b3 b4 b5)
          go_roundw
          case measure => simp [intOf]; omega
          case rel =>
            have RZ : Hid (RO w2.heap.size B vp vu5 vf (((dueF (countD d)).take (i + 1)).foldl harmD (carryD { countD d with faults := restF (countD d) } k s (becomeF (dueF (countD d))))) _) := Lib.hid (by rw [NX.out, HR.out]; exact R9.out)
            first | exact ⟨i + 1, vu5, by omega, by go_num, RZ, N9, B9⟩ | ((repeat apply Exists.intro); exact ⟨⟨i + 1, vu5, by omega, by go_num, RZ, N9, B9⟩, rfl⟩)
        have HR : Hid (harmD D x = D) := Lib.hid (by
          unfold harmD
          rw [if_neg k4, if_neg k5, if_neg k6])
        have f4 : (x.kind == 4) = false := by simpa using k4
        have f5 : (x.kind == 5) = false := by simpa using k5
        have f6 : (x.kind == 6) = false := by simpa using k6
        go_wp2_with fail
        go_roundw
        case measure => simp [intOf]; omega
        case rel =>
          have RZ : Hid (RO w2.heap.size B vp vu5 vf (((dueF (countD d)).take (i + 1)).foldl harmD (carryD { countD d with faults := restF (countD d) } k s (becomeF (dueF (countD d))))) _) := Lib.hid (by rw [NX.out, HR.out]; exact RB.out)
          first | exact ⟨i + 1, vu5, by omega, by go_num, RZ, NB, BB2⟩ | ((repeat apply Exists.intro); exact ⟨⟨i + 1, vu5, by omega, by go_num, RZ, NB, BB2⟩, rfl⟩)
      · have hi3 : ¬ (i : Int) < ((dueF (countD d)).length : Int) := by omega
        have hie : i = (dueF (countD d)).length := by omega
        have FIN : Hid (((dueF (countD d)).take i).foldl harmD (carryD { countD d with faults := restF (countD d) } k s (becomeF (dueF (countD d)))) = writeD d (k : Int) s) := Lib.hid (by
          rw [hie, List.take_length]
          unfold writeD
          rw [Int.toNat_natCast])
        clear hie
        generalize ((dueF (countD d)).take i).foldl harmD (carryD { countD d with faults := restF (countD d) } k s (becomeF (dueF (countD d)))) = D at *
        have HRW := Lib.hid (HR2.out.below BB.out (Nat.lt_of_lt_of_le Z01.out.2.1 Z01.out.2.2.1))
        have HBW := Lib.hid (HB2.out.trans (BB.out.mono HB2.out.size))
        have Q1 := Lib.hid (fun g e => (R.out.pages.lt g e).1)
        have Q2 := Lib.hid (fun g e => (R.out.unr.lt g e).1)
        have Q3 := Lib.hid (fun g e => (R.out.faults.lt g e).1)
        go_wp2_with (first
          | (refine wp_loadDev _ _ _ _ _ R.out.row rfl rfl rfl ?_)
          | (refine wp_storeDevW vp D.writes vu5 D.dead vf (one_own R.out.pages) (one_own R.out.unr) (one_own R.out.faults) HRW.out rfl rfl rfl rfl rfl ?_; intro wb hP hS; have HR9 := Lib.hid hP; have VB : Hid (DevV (dvals vp D.writes vu5 D.dead vf) D wb) := Lib.hid ⟨vp, vu5, vf, rfl, Sl.of_own (own_storedNe R.out.pages hS (fun g e => by have := Q1.out g e; have := Z01.out; omega)), Sl.of_own (own_storedNe R.out.unr hS (fun g e => by have := Q2.out g e; have := Z01.out; omega)), Sl.of_own (own_storedNe R.out.faults hS (fun g e => by have := Q3.out g e; have := Z01.out; omega))⟩; have HB9 := Lib.hid (hS.below HBW.out (by have := Z01.out; omega)); clear hP hS))
        refine bodyPost_ret (res_devE rfl rfl HR9.out rfl) rfl ⟨_, rfl, ?_, fun b hb => lo_dvals (fun g e => by have := Q1.out g e; have := Z01.out; omega) (fun g e => by have := Q2.out g e; have := Z01.out; omega) (fun g e => by have := Q3.out g e; have := Z01.out; omega), HB9.out⟩
        rw [← FIN.out]
        exact VB.out
end Go.Proofs.Ytikpchhhenonaaa.nh
