/- The draw Device. -/
import Derived.Test.YtikpchhhenonaaaNk
namespace Go.Proofs.Ytikpchhhenonaaa.nr
open Go.ChangeShapes Go.WideShapes Go.ChangeAt Go.RowKit Go.Proofs.Ytikpchhhenonaaa.cx Go.Proofs.Ytikpchhhenonaaa.ra Go.Proofs.Ytikpchhhenonaaa.la Go.Proofs.Ytikpchhhenonaaa.lb Go.Proofs.Ytikpchhhenonaaa.lc Go.Proofs.Ytikpchhhenonaaa.ld Go.Proofs.Ytikpchhhenonaaa.le Go.Proofs.Ytikpchhhenonaaa.lf Go.Proofs.Ytikpchhhenonaaa.lg Go.Proofs.Ytikpchhhenonaaa.lh Go.Proofs.Ytikpchhhenonaaa.li Go.Proofs.Ytikpchhhenonaaa.lj Go.Proofs.Ytikpchhhenonaaa.lk Go.Proofs.Ytikpchhhenonaaa.ll Go.Proofs.Ytikpchhhenonaaa.lm Go.Proofs.Ytikpchhhenonaaa.ln Go.Proofs.Ytikpchhhenonaaa.lo Go.Proofs.Ytikpchhhenonaaa.lp Go.Proofs.Ytikpchhhenonaaa.lq Go.Proofs.Ytikpchhhenonaaa.lr Go.Proofs.Ytikpchhhenonaaa.ls Go.Proofs.Ytikpchhhenonaaa.lt Go.Proofs.Ytikpchhhenonaaa.lu Go.Proofs.Ytikpchhhenonaaa.lv Go.Proofs.Ytikpchhhenonaaa.lw Go.Proofs.Ytikpchhhenonaaa.lx Go.Proofs.Ytikpchhhenonaaa.ly Go.Proofs.Ytikpchhhenonaaa.na Go.Proofs.Ytikpchhhenonaaa.nb Go.Proofs.Ytikpchhhenonaaa.nc Go.Proofs.Ytikpchhhenonaaa.nd Go.Proofs.Ytikpchhhenonaaa.ne Go.Proofs.Ytikpchhhenonaaa.nf Go.Proofs.Ytikpchhhenonaaa.ng Go.Proofs.Ytikpchhhenonaaa.nh Go.Proofs.Ytikpchhhenonaaa.nj Go.Proofs.Ytikpchhhenonaaa.nk
set_option linter.unusedSimpArgs false
/-- What is known of a device that is drawn. -/
structure DInv (d : Dev) : Prop where
  pages : 1 ≤ d.pages.length ∧ d.pages.length ≤ 64
  size : ∀ s ∈ d.pages, s.size = 256
  unr : d.unr.length ≤ 200
  faults : d.faults.length ≤ 200
theorem DInv.fits {d : Dev} (h : DInv d) : FitsD d := fun s hs => by have := h.size s hs; omega
theorem inject_inv {d : Dev} {f : Flt} (h : DInv d) (he : injectE d f = 0) : DInv (injectD d f) := by
  have hv : validD d = true := by
    cases c : validD d
    · unfold injectE at he; rw [c] at he; cases he
    · rfl
  have IV := valid_is hv
  unfold injectD
  rw [if_pos he]
  exact ⟨h.pages, h.size, h.unr, by show (d.faults ++ [f]).length ≤ 200; rw [List.length_append]; have := IV.faults.1; show d.faults.length + 1 ≤ 200; omega⟩
theorem write_inv {d : Dev} {page : Int} {s : ByteArray} (h : DInv d) (he : writeE d page s = 0) : DInv (writeR d page s) := by
  have e : writeR d page s = writeD d page s := by unfold writeR; rw [if_pos he]
  rw [e]
  have g := write_goes he
  obtain ⟨ha, hss, _⟩ := write_in he
  obtain ⟨hv, _, hp0, hp1⟩ := access_in ha
  have IV := valid_is hv
  have FM : ∀ f ∈ dueF (countD d), okFault d f = true := fun f hf => IV.faults.2 f (due_mem (d := countD d) hf)
  have FT := fate_of (m := d.pages.length) (dueF (countD d)) fun f hf => by have := okFault_in (FM f hf); exact ⟨this.2.2.1, this.2.2.2⟩
  have G0 : Goes d.pages.length { countD d with faults := restF (countD d) } := ⟨rfl, IV.pages.2, IV.unr.1⟩
  have GH := (goes_harms (dueF (countD d)) (goes_carry (k := page.toNat) (s := s) G0 (by omega) hss FT) (fun f hf => (okFault_in (FM f hf)).2.1)).2
  have hc := carry_unr_len { countD d with faults := restF (countD d) } page.toNat s (becomeF (dueF (countD d)))
  have hd := due_len (countD d)
  have hu := IV.unrLen
  have hf := IV.faults.1
  have hft : (writeD d page s).faults.length ≤ 64 := by
    have e1 : ∀ (l : List Flt) (D : Dev), (l.foldl harmD D).faults = D.faults := by
      intro l
      induction l with
      | nil => intro D; rfl
      | cons f r ih =>
        intro D
        rw [List.foldl_cons, ih]
        unfold harmD rotD
        split <;> (try rfl)
        split <;> (try rfl)
        split <;> rfl
    have e2 : ∀ (D : Dev) (k : Nat) (wh : What), (carryD D k s wh).faults = D.faults := by
      intro D k wh
      cases wh <;> rfl
    unfold writeD
    rw [e1, e2]
    exact Nat.le_trans (List.length_filter_le ..) hf
  refine ⟨by rw [g.len]; exact h.pages, g.size, ?_, by omega⟩
  unfold writeD
  have h1 : (countD d).faults.length = d.faults.length := rfl
  have h2 : ({ countD d with faults := restF (countD d) } : Dev).unr.length = d.unr.length := rfl
  omega
theorem varAt_sub {x : Nat} {Y Y' : List Nat} {vs : List Value} {d : Dev} {w : World} (h : VarAt x Y vs d w) (hy : ∀ y ∈ Y', y ∈ Y) : VarAt x Y' vs d w := ⟨h.row, h.dev, h.off, fun y h' => h.offs y (hy y h')⟩
section
variable {o : Oper} {a : Act} {w : World} {Q : Exit → Act → World → Prop}
theorem op_newDev {K : Act → World → Prop} (ho : o.op = .alloc 27)
    (h : ∀ W, RowAt w.heap.size dev0 W → Below w.heap.size w W → K (a.put o.dst (.pointer (some ⟨w.heap.size, 0, none⟩))) W) : o.wp Try.prog a w K Q := by
  have hn := h _ (RowAt.new dev0 w 27) ((Below.refl _ _).alloc (Nat.le_refl _) _)
  unfold Oper.wp execOp
  simp only [ho]
  simp [Instr.alloc, newVar, newRow, Value.cells]
  exact hn
end
/-- The device variable gets the value of another one. -/
theorem var_move {x xc rb : Nat} {us v : List Value} {d d' : Dev} {w w' : World} (h : VarAt x [xc] us d w) (hv : DevV v d' w) (ho : Off xc v ∧ Off x v ∧ Off rb v) (hP : RowAt x v w') (hS : StoredAt x w w') : VarAt x [xc] v d' w' :=
  ⟨hP, devV_stored hv hS ho.2.1, ho.2.1, fun y hy => by
    obtain rfl : y = xc := by simpa using hy
    exact ⟨(h.offs y (by simp)).1, ho.1⟩⟩
/-- What a draw of a device gives. -/
def DeviceL (p : Nat) (w : World) (e : Ending) (w' : World) : Prop := ∃ (vs : List Value) (D : Dev), e = .returned (.agg vs.toArray) ∧ DevV vs D w' ∧ DInv D ∧ Lo w.heap.size vs ∧ (∃ m', CodL p m' w') ∧ w.grownBy w' (some p)
theorem var_facts {xd : Nat} {Y : List Nat} {vd : List Value} {D : Dev} {w : World} (h : VarAt xd Y vd D w) : vd.length = 5 ∧ (∃ sp cp, ∀ W, RowAt xd vd W → W.cell? ⟨xd, 0, none⟩ = some (.slice sp D.pages.length cp)) ∧ ∀ W, RowAt xd vd W → W.cell? ⟨xd, 1, none⟩ = some (.int .i64 D.writes) := by
  obtain ⟨sp, cp, su, cu, sf, cf, e, _⟩ := h.dev.form
  exact ⟨h.len, ⟨sp, cp, fun W hr => hr.cells 0 _ (by rw [e]; rfl)⟩, fun W hr => hr.cells 1 _ (by rw [e]; rfl)⟩
set_option maxHeartbeats 16000000 in
set_option maxRecDepth 4000 in
theorem device_any (xc m : Nat) (w : World) (h : CodL xc m w) : Calls Try.prog 12 #[.pointer (some ⟨xc, 0, none⟩)] w (DeviceL xc w) := by
  have C0 := Lib.hid h
  have hxc := codL_lt h
  clear h
  go_enter Try.func12, Try.ntmps12
  have HXC := Lib.hid hxc
  go_upto_region 2 with (first
    | (have hq := C0.out; clear hq; refine wp_newW dev0 _ zero_dev rfl rfl ?_; intro w1 hP hb hz1; have R1 := Lib.hid hP; have C1 := Lib.hid (codL_keep C0.out hb); have G1 := Lib.hid (grownBy_below (grownBy_refl w (some xc)) hb); clear hP hb C0)
    | (go_at_call 17; refine (nextL_any xc m 4 _ C1.out (by decide)).mono ?_; rintro e w2 ⟨r, rfl, hr0, hr1, _, ⟨m2, _, _, hC⟩, hg⟩; have hr4 := hr1 (by decide); obtain ⟨k4, rfl⟩ := Int.eq_ofNat_of_zero_le hr0; have R2 := Lib.hid (R1.out.grown hg (fun e => by have := Option.some.inj e; omega)); have C2 := Lib.hid hC; have G2 := Lib.hid (grownBy_trans G1.out hg); have K4 := Lib.hid (show k4 < 4 by omega); clear hr1 hC hg R1 C1 G1)
    | (go_at_call 14; refine (refNew_b (1 + (k4 : Int)) 0 (qDev (blanks (1 + k4)) 0) (by rw [show 1 + (k4 : Int) = ((1 + k4 : Nat) : Int) by omega]; exact (newD_of (1 + k4) (by have := K4.out; omega)).1) (by rw [show 1 + (k4 : Int) = ((1 + k4 : Nat) : Int) by omega]; exact (newD_of (1 + k4) (by have := K4.out; omega)).2) _).mono ?_; rintro e w3 ⟨v1, rfl, hV, hl2, hb⟩; have V3 := Lib.hid hV; have L3 := Lib.hid (hl2 _ (Nat.le_refl _)); have LW3 := Lib.hid (hl2 (w.heap.size + 1) R2.out.lt); have R3 := Lib.hid (R2.out.keep hb); have C3 := Lib.hid (codL_keep C2.out hb); have G3 := Lib.hid (grownBy_below G2.out hb); have KX := Lib.hid (And.intro (codL_lt C2.out) hb.size); clear hV hl2 hb R2 C2 G2)
    | (have hq := V3.out; clear hq; refine wp_newW dev0 _ zero_dev rfl rfl ?_; intro w4 hP hb _; have N4 := Lib.hid hP; have M4 := Lib.hid hb; clear hP hb)
    | (refine wp_storeV V3.out N4.out rfl rfl rfl rfl rfl ?_; intro w5 hP hS; have MB := Lib.hid (hS.below M4.out (Nat.le_refl _)); have X5 : Hid (VarAt w3.heap.size [xc] v1 (qDev (blanks (1 + k4)) 0) w5) := Lib.hid (var_new V3.out M4.out hP hS (fun y h => by (obtain rfl : y = xc := by simpa using h); exact ⟨Nat.lt_of_lt_of_le KX.out.1 KX.out.2, off_lo L3.out KX.out.1⟩)); have R5 := Lib.hid (R3.out.keep MB.out); have C5 := Lib.hid (codL_keep C3.out MB.out); have G5 := Lib.hid (grownBy_below G3.out MB.out); have KR : Hid (xc < w.heap.size ∧ w.heap.size < w3.heap.size) := Lib.hid ⟨HXC.out, R3.out.lt⟩; clear hP hS MB N4 M4 V3 R3 C3 G3 L3))
  have DI : Hid (DInv (qDev (blanks (1 + k4)) 0)) := Lib.hid ⟨by show 1 ≤ (blanks (1 + k4)).length ∧ (blanks (1 + k4)).length ≤ 64; rw [(pages_blanks (1 + k4)).1]; have := K4.out; omega, (pages_blanks (1 + k4)).2, Nat.zero_le _, Nat.zero_le _⟩
  clear KX
  generalize w3.heap.size = xd at *
  go_wp2_with (go_at_call 17; refine (nextL_any xc _ 6 _ C5.out (by decide)).mono ?_; rintro e w6 ⟨r, rfl, hr0, hr1, _, ⟨m6, _, _, hC⟩, hg⟩; have hr6 := hr1 (by decide); obtain ⟨kk, rfl⟩ := Int.eq_ofNat_of_zero_le hr0; have X6 := Lib.hid (X5.out.grown hg (fun k e => by injection e with e; subst e; simp)); have R6 := Lib.hid (R5.out.grown hg (fun e => by have := Option.some.inj e; have := KR.out; omega)); have C6 := Lib.hid hC; have G6 := Lib.hid (grownBy_trans G5.out hg); clear hr1 hC hg X5 R5 C5 G5)
  go_loopw [5, 6, 7, 8, 9] (fun s5 _ _ _ _ wr => ∃ (k m : Nat) (D : Dev) (vd : List Value), k ≤ 6 ∧ s5 = .int .i64 (k : Int) ∧ Hid (DInv D) ∧ Hid (Lo (w.heap.size + 1) vd) ∧ Hid (VarAt xd [xc] vd D wr) ∧ Hid (CodL xc m wr) ∧ Hid (RowAt w.heap.size dev0 wr) ∧ Hid (w.grownBy wr (some xc))) (fun s5 _ _ _ _ _ => (intOf s5).toNat)
  case atStart => exact ⟨kk, _, _, _, by omega, rfl, DI, LW3, X6, C6, R6, G6⟩
  case round =>
    clear X6 C6 R6 G6 DI LW3
    obtain ⟨k, m, D, vd, hk, rfl, HDI, LWD, X, C, R, G⟩ := hrel
    by_cases hk0 : 0 < k
    · have q0 : (k : Int) > 0 := by omega
      have q1 : (k : Int) ≤ 6 := by omega
      obtain ⟨hvl, ⟨sp, cp, hcp0⟩, hcw0⟩ := var_facts X.out
      have HVD := Lib.hid (And.intro hvl (And.intro hcp0 hcw0))
      have HFD := Lib.hid HDI.out.fits
      have HPL : Hid ((D.pages.length : Int) ≤ 1000000) := Lib.hid (by have := HDI.out.pages.2; omega)
      clear hvl hcp0 hcw0
      go_upto_region 5 with fail
      go_cut [6, 7] from 19 to 57 (fun s6 s7 wx => ∃ (nb : Nat) (v : List Value) (n : Int) (m' : Nat) (D' : Dev), s6 = .pointer (some ⟨nb, 0, none⟩) ∧ s7 = .int .i64 n ∧ VarAt xd [xc] vd D wx ∧ RowAt nb v wx ∧ (nb ≠ xd ∧ xc ≠ nb) ∧ DevV v D' wx ∧ (Off xc v ∧ Off xd v ∧ Off w.heap.size v) ∧ Lo (w.heap.size + 1) v ∧ CodL xc m' wx ∧ RowAt w.heap.size dev0 wx ∧ w.grownBy wx (some xc) ∧ (n = 0 → DInv D'))
      case first =>
          refine wp_region_held_drew (S := fun W => RowAt xd vd W) (by kernel_rfl) X.out.row.drew (fun hHeld => ?_)
          refine wpAnyH_take (i := 0) (v := .agg vd.toArray) rfl (by kernel_rfl) (by kernel_rfl) (by kernel_rfl) (fun _ _ _ h => h) (yieldsIf_load_mid (by rfl) 27 _ rfl xd 0 rfl vd _ (fun W hSw => RowAt.range hSw 0 (fun j v hv => by rw [Nat.zero_add]; exact hv)) Try.underlying27 rfl (by rw [HVD.out.1]; exact info_dev)) (by assumption) ?_
          try simp only [Act.put, List.getElem_toArray, List.getElem_cons_zero, List.getElem_cons_succ, List.setIfInBounds_toArray, List.set_cons_zero, List.set_cons_succ]
          refine wpAnyH_take (i := 1) (v := ?_) rfl (by kernel_rfl) (by kernel_rfl) (by kernel_rfl) (fun _ _ _ h => h) (Or.inl ⟨by rfl, ?_⟩) (by assumption) ?_
          rotate_left
          · (intro W hSW; go_simp; try with_reducible rfl)
          try simp only [Act.put, List.getElem_toArray, List.getElem_cons_zero, List.getElem_cons_succ, List.setIfInBounds_toArray, List.set_cons_zero, List.set_cons_succ]
          refine wpAnyH_take (i := 2) (v := ?_) rfl (by kernel_rfl) (by kernel_rfl) (by kernel_rfl) (fun _ _ _ h => h) (Or.inl ⟨by rfl, ?_⟩) (by assumption) ?_
          rotate_left
          · (intro W hSW; go_simp; try with_reducible rfl)
          try simp only [Act.put, List.getElem_toArray, List.getElem_cons_zero, List.getElem_cons_succ, List.setIfInBounds_toArray, List.set_cons_zero, List.set_cons_succ]
          refine wpAnyH_take (i := 3) (v := ?_) rfl (by kernel_rfl) (by kernel_rfl) (by kernel_rfl) (fun _ _ _ h => h) (Or.inl ⟨by rfl, ?_⟩) (by assumption) ?_
          rotate_left
          · (intro W hSW; have hcp := HVD.out.2.1 W hSW; go_simp; try with_reducible rfl)
          try simp only [Act.put, List.getElem_toArray, List.getElem_cons_zero, List.getElem_cons_succ, List.setIfInBounds_toArray, List.set_cons_zero, List.set_cons_succ]
          refine wpAnyH_take (i := 4) (v := ?_) rfl (by kernel_rfl) (by kernel_rfl) (by kernel_rfl) (fun _ _ _ h => h) (Or.inl ⟨by rfl, ?_⟩) (by assumption) ?_
          rotate_left
          · (intro W hSW; go_simp; try with_reducible rfl)
          try simp only [Act.put, List.getElem_toArray, List.getElem_cons_zero, List.getElem_cons_succ, List.setIfInBounds_toArray, List.set_cons_zero, List.set_cons_succ]
          refine wpAnyH_take (i := 5) (v := ?_) rfl (by kernel_rfl) (by kernel_rfl) (by kernel_rfl) (fun _ _ _ h => h) (Or.inl ⟨by rfl, ?_⟩) (by assumption) ?_
          rotate_left
          · (intro W hSW; go_simp; try with_reducible rfl)
          try simp only [Act.put, List.getElem_toArray, List.getElem_cons_zero, List.getElem_cons_succ, List.setIfInBounds_toArray, List.set_cons_zero, List.set_cons_succ]
          refine wpAnyH_take (i := 6) (v := ?_) rfl (by kernel_rfl) (by kernel_rfl) (by kernel_rfl) (fun _ _ _ h => h) (Or.inl ⟨by rfl, ?_⟩) (by assumption) ?_
          rotate_left
          · (intro W hSW; have hcw := HVD.out.2.2 W hSW; go_simp; try with_reducible rfl)
          try simp only [Act.put, List.getElem_toArray, List.getElem_cons_zero, List.getElem_cons_succ, List.setIfInBounds_toArray, List.set_cons_zero, List.set_cons_succ]
          have f5_1 := Lib.hid (X.out.keep (Below.refl _ _).drew)
          have f5_2 := Lib.hid (codL_keep C.out (Below.refl _ _).drew)
          have f5_3 := Lib.hid (grownBy_below G.out (Below.refl _ _).drew)
          have f5_4 := Lib.hid (R.out.drew)
          refine wpAnyH_ready (rs := [7, 12]) (by kernel_rfl) (by simp) (AllReadyH.cons rfl (fun K hK => ?_) (AllReadyH.cons rfl (fun K hK => ?_) AllReadyH.nil))
          · go_simp
            go_wp2_with (go_at_call 24; (with_reducible refine (fault_any xc _ _ _ _ f5_2.out HPL.out).mono ?_); rintro e W5_5 ⟨fl5_11, rfl, ⟨m5_9, hm5_10, hC5_8⟩, hg5_7⟩)
            have f5_15 := Lib.hid (f5_1.out.grown hg5_7 (fun k e => by injection e with e; subst e; simp))
            have f5_16 := Lib.hid (hC5_8)
            have f5_17 := Lib.hid (grownBy_trans f5_3.out hg5_7)
            have f5_18 := Lib.hid (f5_4.out.grown hg5_7 (fun e => by have := Option.some.inj e; have := KR.out; omega))
            obtain ⟨n5_12, hn5_13⟩ : ∃ n, injectE D fl5_11 = n := ⟨_, rfl⟩
            have f5_14 := Lib.hid hn5_13
            clear hn5_13 hm5_10
            refine hK.out _ _ (hHeld.grown hg5_7 (fun e => by have := Option.some.inj e; have := KR.out; omega)) (fun hH5_6 => ?_)
            clear hK K
            try simp only [Act.put, List.getElem_toArray, List.getElem_cons_zero, List.getElem_cons_succ, List.setIfInBounds_toArray, List.set_cons_zero, List.set_cons_succ]
            refine wpAnyH_ready (rs := [8, 12]) (by kernel_rfl) (by simp) (AllReadyH.cons rfl (fun K hK => ?_) (AllReadyH.cons rfl (fun K hK => ?_) AllReadyH.nil))
            · go_simp
              have f5_35 := Lib.hid (And.intro (codL_lt f5_16.out) (And.intro f5_15.out.row.lt f5_18.out.lt))
              go_wp2_with (go_at_call 26; (with_reducible refine (refInject_b _ D _ fl5_11 n5_12 f5_14.out rfl _ f5_15.out.dev HFD.out).mono ?_); rintro e W5_19 ⟨v5_25, rfl, hV5_26, hl5_27, hb5_28⟩)
              have f5_29 := Lib.hid (f5_15.out.keep hb5_28)
              have f5_30 := Lib.hid (codL_keep f5_16.out hb5_28)
              have f5_31 := Lib.hid (grownBy_below f5_17.out hb5_28)
              have f5_32 := Lib.hid (f5_18.out.keep hb5_28)
              have f5_33 := Lib.hid (hV5_26)
              have f5_34 := Lib.hid (hl5_27 _ (Nat.le_refl _))
              have f5_36 := Lib.hid (hl5_27 (w.heap.size + 1) f5_18.out.lt)
              have f5_37 := Lib.hid (And.intro (off_lo f5_34.out f5_35.out.1) (And.intro (off_lo f5_34.out f5_35.out.2.1) (off_lo f5_34.out f5_35.out.2.2)))
              refine hK.out _ _ (hH5_6.keep hb5_28) (fun hH5_20 => ?_)
              clear hK K
              try simp only [Act.put, List.getElem_toArray, List.getElem_cons_zero, List.getElem_cons_succ, List.setIfInBounds_toArray, List.set_cons_zero, List.set_cons_succ]
              refine wpAnyH_take (i := 9) (v := ?_) rfl (by kernel_rfl) (by kernel_rfl) (by kernel_rfl) (fun _ _ _ h => h) (Or.inl ⟨by rfl, ?_⟩) (by assumption) ?_
              rotate_left
              · (intro W hSW; go_simp; try with_reducible rfl)
              try simp only [Act.put, List.getElem_toArray, List.getElem_cons_zero, List.getElem_cons_succ, List.setIfInBounds_toArray, List.set_cons_zero, List.set_cons_succ]
              refine wpAnyH_take (i := 10) (v := ?_) rfl (by kernel_rfl) (by kernel_rfl) (by kernel_rfl) (fun _ _ _ h => h) (Or.inl ⟨by rfl, ?_⟩) (by assumption) ?_
              rotate_left
              · (intro W hSW; go_simp; try with_reducible rfl)
              try simp only [Act.put, List.getElem_toArray, List.getElem_cons_zero, List.getElem_cons_succ, List.setIfInBounds_toArray, List.set_cons_zero, List.set_cons_succ]
              refine wpAnyH_take (i := 11) (v := ?_) rfl (by kernel_rfl) (by kernel_rfl) (by kernel_rfl) (fun _ _ _ h => h) (Or.inl ⟨by rfl, ?_⟩) (by assumption) ?_
              rotate_left
              · (intro W hSW; go_simp; try with_reducible rfl)
              try simp only [Act.put, List.getElem_toArray, List.getElem_cons_zero, List.getElem_cons_succ, List.setIfInBounds_toArray, List.set_cons_zero, List.set_cons_succ]
              refine wpAnyH_ready (rs := [12]) (by kernel_rfl) (by simp) (AllReadyH.cons rfl (fun K hK => ?_) AllReadyH.nil)
              · have f5_46 := Lib.hid (And.intro (codL_lt f5_30.out) (And.intro f5_29.out.row.lt (And.intro f5_32.out.lt f5_31.out.size)))
                have f5_47 := Lib.hid (varAt_more f5_29.out (Nat.le_refl _))
                have f5_48 := Lib.hid (off_new f5_33.out (Nat.le_refl _))
                simp only [List.getElem_toArray, List.getElem_cons_zero, List.getElem_cons_succ]
                rw [if_pos (by rfl)]
                with_reducible refine op_newDev (by rfl) (fun W5_38 hP5_39 hb5_40 => ?_)
                have f5_41 := Lib.hid (f5_47.out.keep hb5_40)
                have f5_42 := Lib.hid (codL_keep f5_30.out hb5_40)
                have f5_43 := Lib.hid (grownBy_below f5_31.out hb5_40)
                have f5_44 := Lib.hid (f5_32.out.keep hb5_40)
                have f5_45 := Lib.hid (hP5_39)
                have f5_49 := Lib.hid (f5_33.out.keep hb5_40)
                refine hK.out _ _ (hH5_20.keep hb5_40) (fun hH5_50 => ?_)
                clear hK K
                try simp only [Act.put, List.getElem_toArray, List.getElem_cons_zero, List.getElem_cons_succ, List.setIfInBounds_toArray, List.set_cons_zero, List.set_cons_succ]
                refine wpAnyH_ready (rs := [13]) (by kernel_rfl) (by simp) (AllReadyH.cons rfl (fun K hK => ?_) AllReadyH.nil)
                simp only [List.getElem_toArray, List.getElem_cons_zero, List.getElem_cons_succ]
                rw [if_pos (by rfl)]
                have hd0 : dev0.length = 5 := rfl
                with_reducible refine op_storeV f5_49.out f5_45.out hd0 (by rfl) ?_ ?_ (fun W5_51 hP5_52 hS5_53 => ?_)
                · rfl
                · rfl
                have f5_55 := Lib.hid (f5_41.out.stored hS5_53 (by simp))
                have f5_56 := Lib.hid (codL_stored f5_42.out hS5_53 f5_46.out.1)
                have f5_57 := Lib.hid (grown_newStored f5_43.out hS5_53 f5_46.out.2.2.2)
                have f5_58 := Lib.hid (hS5_53.row f5_44.out (by have := f5_46.out; omega))
                have f5_59 := Lib.hid (devV_stored f5_49.out hS5_53 f5_48.out)
                have f5_60 := Lib.hid (hP5_52)
                refine hK.out _ _ (hS5_53.row hH5_50 (by have := f5_46.out; omega)) (fun hH5_54 => ?_)
                clear hK K
                try simp only [Act.put, List.getElem_toArray, List.getElem_cons_zero, List.getElem_cons_succ, List.setIfInBounds_toArray, List.set_cons_zero, List.set_cons_succ]
                refine wpAnyH_take (i := 14) (v := ?_) rfl (by kernel_rfl) (by kernel_rfl) (by kernel_rfl) (fun _ _ _ h => h) (Or.inl ⟨by rfl, ?_⟩) (by assumption) ?_
                rotate_left
                · (intro W hSW; go_simp; try with_reducible rfl)
                try simp only [Act.put, List.getElem_toArray, List.getElem_cons_zero, List.getElem_cons_succ, List.setIfInBounds_toArray, List.set_cons_zero, List.set_cons_succ]
                refine wpAnyH_done (by kernel_rfl) ?_ _
                go_wp2_with fail
                go_meet
                exact ⟨_, _, n5_12, _, _, rfl, rfl, varAt_sub f5_55.out (by simp), f5_60.out, ⟨by have := f5_46.out; have hdr : wr.drew.heap.size = wr.heap.size := rfl; omega, by have := f5_46.out; have hdr : wr.drew.heap.size = wr.heap.size := rfl; omega⟩, f5_59.out, f5_37.out, f5_36.out, f5_56.out, f5_58.out, f5_57.out, fun h0 => inject_inv HDI.out (h0 ▸ f5_14.out)⟩
            · have f5_69 := Lib.hid (And.intro (codL_lt f5_16.out) (And.intro f5_15.out.row.lt (And.intro f5_18.out.lt f5_17.out.size)))
              have f5_70 := Lib.hid (varAt_more f5_15.out (Nat.le_refl _))
              simp only [List.getElem_toArray, List.getElem_cons_zero, List.getElem_cons_succ]
              rw [if_pos (by rfl)]
              with_reducible refine op_newDev (by rfl) (fun W5_61 hP5_62 hb5_63 => ?_)
              have f5_64 := Lib.hid (f5_70.out.keep hb5_63)
              have f5_65 := Lib.hid (codL_keep f5_16.out hb5_63)
              have f5_66 := Lib.hid (grownBy_below f5_17.out hb5_63)
              have f5_67 := Lib.hid (f5_18.out.keep hb5_63)
              have f5_68 := Lib.hid (hP5_62)
              refine hK.out _ _ (hH5_6.keep hb5_63) (fun hH5_71 => ?_)
              clear hK K
              try simp only [Act.put, List.getElem_toArray, List.getElem_cons_zero, List.getElem_cons_succ, List.setIfInBounds_toArray, List.set_cons_zero, List.set_cons_succ]
              refine wpAnyH_ready (rs := [8]) (by kernel_rfl) (by simp) (AllReadyH.cons rfl (fun K hK => ?_) AllReadyH.nil)
              · go_simp
                have f5_88 := Lib.hid (And.intro (codL_lt f5_65.out) (And.intro f5_64.out.row.lt f5_67.out.lt))
                go_wp2_with (go_at_call 26; (with_reducible refine (refInject_b _ D _ fl5_11 n5_12 f5_14.out rfl _ f5_64.out.dev HFD.out).mono ?_); rintro e W5_72 ⟨v5_78, rfl, hV5_79, hl5_80, hb5_81⟩)
                have f5_82 := Lib.hid (f5_64.out.keep hb5_81)
                have f5_83 := Lib.hid (codL_keep f5_65.out hb5_81)
                have f5_84 := Lib.hid (grownBy_below f5_66.out hb5_81)
                have f5_85 := Lib.hid (f5_67.out.keep hb5_81)
                have f5_86 := Lib.hid (hV5_79)
                have f5_87 := Lib.hid (hl5_80 _ (Nat.le_refl _))
                have f5_89 := Lib.hid (hl5_80 (w.heap.size + 1) f5_67.out.lt)
                have f5_90 := Lib.hid (And.intro (off_lo f5_87.out f5_88.out.1) (And.intro (off_lo f5_87.out f5_88.out.2.1) (off_lo f5_87.out f5_88.out.2.2)))
                have f5_91 := Lib.hid (off_lo f5_87.out f5_68.out.lt)
                have f5_92 := Lib.hid (f5_68.out.keep hb5_81)
                refine hK.out _ _ (hH5_71.keep hb5_81) (fun hH5_73 => ?_)
                clear hK K
                try simp only [Act.put, List.getElem_toArray, List.getElem_cons_zero, List.getElem_cons_succ, List.setIfInBounds_toArray, List.set_cons_zero, List.set_cons_succ]
                refine wpAnyH_take (i := 9) (v := ?_) rfl (by kernel_rfl) (by kernel_rfl) (by kernel_rfl) (fun _ _ _ h => h) (Or.inl ⟨by rfl, ?_⟩) (by assumption) ?_
                rotate_left
                · (intro W hSW; go_simp; try with_reducible rfl)
                try simp only [Act.put, List.getElem_toArray, List.getElem_cons_zero, List.getElem_cons_succ, List.setIfInBounds_toArray, List.set_cons_zero, List.set_cons_succ]
                refine wpAnyH_take (i := 10) (v := ?_) rfl (by kernel_rfl) (by kernel_rfl) (by kernel_rfl) (fun _ _ _ h => h) (Or.inl ⟨by rfl, ?_⟩) (by assumption) ?_
                rotate_left
                · (intro W hSW; go_simp; try with_reducible rfl)
                try simp only [Act.put, List.getElem_toArray, List.getElem_cons_zero, List.getElem_cons_succ, List.setIfInBounds_toArray, List.set_cons_zero, List.set_cons_succ]
                refine wpAnyH_take (i := 11) (v := ?_) rfl (by kernel_rfl) (by kernel_rfl) (by kernel_rfl) (fun _ _ _ h => h) (Or.inl ⟨by rfl, ?_⟩) (by assumption) ?_
                rotate_left
                · (intro W hSW; go_simp; try with_reducible rfl)
                try simp only [Act.put, List.getElem_toArray, List.getElem_cons_zero, List.getElem_cons_succ, List.setIfInBounds_toArray, List.set_cons_zero, List.set_cons_succ]
                refine wpAnyH_ready (rs := [13]) (by kernel_rfl) (by simp) (AllReadyH.cons rfl (fun K hK => ?_) AllReadyH.nil)
                simp only [List.getElem_toArray, List.getElem_cons_zero, List.getElem_cons_succ]
                rw [if_pos (by rfl)]
                have hd0 : dev0.length = 5 := rfl
                with_reducible refine op_storeV f5_86.out f5_92.out hd0 (by rfl) ?_ ?_ (fun W5_93 hP5_94 hS5_95 => ?_)
                · rfl
                · rfl
                have f5_97 := Lib.hid (f5_82.out.stored hS5_95 (by simp))
                have f5_98 := Lib.hid (codL_stored f5_83.out hS5_95 f5_69.out.1)
                have f5_99 := Lib.hid (grown_newStored f5_84.out hS5_95 f5_69.out.2.2.2)
                have f5_100 := Lib.hid (hS5_95.row f5_85.out (by have := f5_69.out; omega))
                have f5_101 := Lib.hid (devV_stored f5_86.out hS5_95 f5_91.out)
                have f5_102 := Lib.hid (hP5_94)
                refine hK.out _ _ (hS5_95.row hH5_73 (by have := f5_69.out; omega)) (fun hH5_96 => ?_)
                clear hK K
                try simp only [Act.put, List.getElem_toArray, List.getElem_cons_zero, List.getElem_cons_succ, List.setIfInBounds_toArray, List.set_cons_zero, List.set_cons_succ]
                refine wpAnyH_take (i := 14) (v := ?_) rfl (by kernel_rfl) (by kernel_rfl) (by kernel_rfl) (fun _ _ _ h => h) (Or.inl ⟨by rfl, ?_⟩) (by assumption) ?_
                rotate_left
                · (intro W hSW; go_simp; try with_reducible rfl)
                try simp only [Act.put, List.getElem_toArray, List.getElem_cons_zero, List.getElem_cons_succ, List.setIfInBounds_toArray, List.set_cons_zero, List.set_cons_succ]
                refine wpAnyH_done (by kernel_rfl) ?_ _
                go_wp2_with fail
                go_meet
                exact ⟨_, _, n5_12, _, _, rfl, rfl, varAt_sub f5_97.out (by simp), f5_102.out, ⟨by have := f5_69.out; have hdr : wr.drew.heap.size = wr.heap.size := rfl; omega, by have := f5_69.out; have hdr : wr.drew.heap.size = wr.heap.size := rfl; omega⟩, f5_101.out, f5_90.out, f5_89.out, f5_98.out, f5_100.out, f5_99.out, fun h0 => inject_inv HDI.out (h0 ▸ f5_14.out)⟩
          · have f5_111 := Lib.hid (And.intro (codL_lt f5_2.out) (And.intro f5_1.out.row.lt (And.intro f5_4.out.lt f5_3.out.size)))
            have f5_112 := Lib.hid (varAt_more f5_1.out (Nat.le_refl _))
            simp only [List.getElem_toArray, List.getElem_cons_zero, List.getElem_cons_succ]
            rw [if_pos (by rfl)]
            with_reducible refine op_newDev (by rfl) (fun W5_103 hP5_104 hb5_105 => ?_)
            have f5_106 := Lib.hid (f5_112.out.keep hb5_105)
            have f5_107 := Lib.hid (codL_keep f5_2.out hb5_105)
            have f5_108 := Lib.hid (grownBy_below f5_3.out hb5_105)
            have f5_109 := Lib.hid (f5_4.out.keep hb5_105)
            have f5_110 := Lib.hid (hP5_104)
            refine hK.out _ _ (hHeld.keep hb5_105) (fun hH5_113 => ?_)
            clear hK K
            try simp only [Act.put, List.getElem_toArray, List.getElem_cons_zero, List.getElem_cons_succ, List.setIfInBounds_toArray, List.set_cons_zero, List.set_cons_succ]
            refine wpAnyH_ready (rs := [7]) (by kernel_rfl) (by simp) (AllReadyH.cons rfl (fun K hK => ?_) AllReadyH.nil)
            · go_simp
              go_wp2_with (go_at_call 24; (with_reducible refine (fault_any xc _ _ _ _ f5_107.out HPL.out).mono ?_); rintro e W5_114 ⟨fl5_120, rfl, ⟨m5_118, hm5_119, hC5_117⟩, hg5_116⟩)
              have f5_124 := Lib.hid (f5_106.out.grown hg5_116 (fun k e => by injection e with e; subst e; simp))
              have f5_125 := Lib.hid (hC5_117)
              have f5_126 := Lib.hid (grownBy_trans f5_108.out hg5_116)
              have f5_127 := Lib.hid (f5_109.out.grown hg5_116 (fun e => by have := Option.some.inj e; have := KR.out; omega))
              have f5_128 := Lib.hid (f5_110.out.grown hg5_116 (fun e => by have := Option.some.inj e; have := f5_111.out; omega))
              obtain ⟨n5_121, hn5_122⟩ : ∃ n, injectE D fl5_120 = n := ⟨_, rfl⟩
              have f5_123 := Lib.hid hn5_122
              clear hn5_122 hm5_119
              refine hK.out _ _ (hH5_113.grown hg5_116 (fun e => by have := Option.some.inj e; have := KR.out; omega)) (fun hH5_115 => ?_)
              clear hK K
              try simp only [Act.put, List.getElem_toArray, List.getElem_cons_zero, List.getElem_cons_succ, List.setIfInBounds_toArray, List.set_cons_zero, List.set_cons_succ]
              refine wpAnyH_ready (rs := [8]) (by kernel_rfl) (by simp) (AllReadyH.cons rfl (fun K hK => ?_) AllReadyH.nil)
              · go_simp
                have f5_145 := Lib.hid (And.intro (codL_lt f5_125.out) (And.intro f5_124.out.row.lt f5_127.out.lt))
                go_wp2_with (go_at_call 26; (with_reducible refine (refInject_b _ D _ fl5_120 n5_121 f5_123.out rfl _ f5_124.out.dev HFD.out).mono ?_); rintro e W5_129 ⟨v5_135, rfl, hV5_136, hl5_137, hb5_138⟩)
                have f5_139 := Lib.hid (f5_124.out.keep hb5_138)
                have f5_140 := Lib.hid (codL_keep f5_125.out hb5_138)
                have f5_141 := Lib.hid (grownBy_below f5_126.out hb5_138)
                have f5_142 := Lib.hid (f5_127.out.keep hb5_138)
                have f5_143 := Lib.hid (hV5_136)
                have f5_144 := Lib.hid (hl5_137 _ (Nat.le_refl _))
                have f5_146 := Lib.hid (hl5_137 (w.heap.size + 1) f5_127.out.lt)
                have f5_147 := Lib.hid (And.intro (off_lo f5_144.out f5_145.out.1) (And.intro (off_lo f5_144.out f5_145.out.2.1) (off_lo f5_144.out f5_145.out.2.2)))
                have f5_148 := Lib.hid (off_lo f5_144.out f5_128.out.lt)
                have f5_149 := Lib.hid (f5_128.out.keep hb5_138)
                refine hK.out _ _ (hH5_115.keep hb5_138) (fun hH5_130 => ?_)
                clear hK K
                try simp only [Act.put, List.getElem_toArray, List.getElem_cons_zero, List.getElem_cons_succ, List.setIfInBounds_toArray, List.set_cons_zero, List.set_cons_succ]
                refine wpAnyH_take (i := 9) (v := ?_) rfl (by kernel_rfl) (by kernel_rfl) (by kernel_rfl) (fun _ _ _ h => h) (Or.inl ⟨by rfl, ?_⟩) (by assumption) ?_
                rotate_left
                · (intro W hSW; go_simp; try with_reducible rfl)
                try simp only [Act.put, List.getElem_toArray, List.getElem_cons_zero, List.getElem_cons_succ, List.setIfInBounds_toArray, List.set_cons_zero, List.set_cons_succ]
                refine wpAnyH_take (i := 10) (v := ?_) rfl (by kernel_rfl) (by kernel_rfl) (by kernel_rfl) (fun _ _ _ h => h) (Or.inl ⟨by rfl, ?_⟩) (by assumption) ?_
                rotate_left
                · (intro W hSW; go_simp; try with_reducible rfl)
                try simp only [Act.put, List.getElem_toArray, List.getElem_cons_zero, List.getElem_cons_succ, List.setIfInBounds_toArray, List.set_cons_zero, List.set_cons_succ]
                refine wpAnyH_take (i := 11) (v := ?_) rfl (by kernel_rfl) (by kernel_rfl) (by kernel_rfl) (fun _ _ _ h => h) (Or.inl ⟨by rfl, ?_⟩) (by assumption) ?_
                rotate_left
                · (intro W hSW; go_simp; try with_reducible rfl)
                try simp only [Act.put, List.getElem_toArray, List.getElem_cons_zero, List.getElem_cons_succ, List.setIfInBounds_toArray, List.set_cons_zero, List.set_cons_succ]
                refine wpAnyH_ready (rs := [13]) (by kernel_rfl) (by simp) (AllReadyH.cons rfl (fun K hK => ?_) AllReadyH.nil)
                simp only [List.getElem_toArray, List.getElem_cons_zero, List.getElem_cons_succ]
                rw [if_pos (by rfl)]
                have hd0 : dev0.length = 5 := rfl
                with_reducible refine op_storeV f5_143.out f5_149.out hd0 (by rfl) ?_ ?_ (fun W5_150 hP5_151 hS5_152 => ?_)
                · rfl
                · rfl
                have f5_154 := Lib.hid (f5_139.out.stored hS5_152 (by simp))
                have f5_155 := Lib.hid (codL_stored f5_140.out hS5_152 f5_111.out.1)
                have f5_156 := Lib.hid (grown_newStored f5_141.out hS5_152 f5_111.out.2.2.2)
                have f5_157 := Lib.hid (hS5_152.row f5_142.out (by have := f5_111.out; omega))
                have f5_158 := Lib.hid (devV_stored f5_143.out hS5_152 f5_148.out)
                have f5_159 := Lib.hid (hP5_151)
                refine hK.out _ _ (hS5_152.row hH5_130 (by have := f5_111.out; omega)) (fun hH5_153 => ?_)
                clear hK K
                try simp only [Act.put, List.getElem_toArray, List.getElem_cons_zero, List.getElem_cons_succ, List.setIfInBounds_toArray, List.set_cons_zero, List.set_cons_succ]
                refine wpAnyH_take (i := 14) (v := ?_) rfl (by kernel_rfl) (by kernel_rfl) (by kernel_rfl) (fun _ _ _ h => h) (Or.inl ⟨by rfl, ?_⟩) (by assumption) ?_
                rotate_left
                · (intro W hSW; go_simp; try with_reducible rfl)
                try simp only [Act.put, List.getElem_toArray, List.getElem_cons_zero, List.getElem_cons_succ, List.setIfInBounds_toArray, List.set_cons_zero, List.set_cons_succ]
                refine wpAnyH_done (by kernel_rfl) ?_ _
                go_wp2_with fail
                go_meet
                exact ⟨_, _, n5_121, _, _, rfl, rfl, varAt_sub f5_154.out (by simp), f5_159.out, ⟨by have := f5_111.out; have hdr : wr.drew.heap.size = wr.heap.size := rfl; omega, by have := f5_111.out; have hdr : wr.drew.heap.size = wr.heap.size := rfl; omega⟩, f5_158.out, f5_147.out, f5_146.out, f5_155.out, f5_157.out, f5_156.out, fun h0 => inject_inv HDI.out (h0 ▸ f5_123.out)⟩
      case rest =>
      obtain ⟨nb, v, n, m', D', rfl, rfl, hX, hP, hnb, hV, hO, hLW, hC, hR, hG, hI⟩ := hcut
      clear X C R G
      have X := Lib.hid hX
      have P := Lib.hid hP
      have V := Lib.hid hV
      have O3 := Lib.hid hO
      have LV := Lib.hid hLW
      have C := Lib.hid hC
      have R := Lib.hid hR
      have G := Lib.hid hG
      have NI := Lib.hid hI
      have NB2 : Hid (xc ≠ nb) := Lib.hid hnb.2
      have NB := Lib.hid hnb.1
      clear hX hP hV hO hLW hC hR hG hI hnb
      go_upto_region 6 with fail
      go_cut [6, 41] from 19 to 57 (fun s6 s41 wx => ∃ (b : Bool) (m' : Nat), s6 = .pointer (some ⟨nb, 0, none⟩) ∧ s41 = .bool b ∧ (b = true → n = 0) ∧ VarAt xd [xc] vd D wx ∧ RowAt nb v wx ∧ DevV v D' wx ∧ CodL xc m' wx ∧ RowAt w.heap.size dev0 wx ∧ w.grownBy wx (some xc))
      case first =>
        by_cases hn : n = 0
        · subst hn
          go_wp2_with (go_at_call 17; refine (nextL_any xc _ 2 _ C.out (by decide)).mono ?_; rintro e w7 ⟨r, rfl, hr0, hr1, _, ⟨m7, _, _, hC⟩, hg⟩; have X7 := Lib.hid (X.out.grown hg (fun k e => by injection e with e; subst e; simp)); have P7 := Lib.hid (RowAt.grown P.out hg (fun e => NB2.out (Option.some.inj e))); have V7 := Lib.hid (devV_grown V.out hg (fun k e => by injection e with e; subst e; exact O3.out.1)); have R7 := Lib.hid (R.out.grown hg (fun e => by have := Option.some.inj e; have := KR.out; omega)); have C7 := Lib.hid hC; have G7 := Lib.hid (grownBy_trans G.out hg); clear hr0 hr1 hC hg X P V R C G)
          go_meet
          exact ⟨_, _, rfl, rfl, fun _ => by first | rfl | trivial, X7.out, P7.out, V7.out, C7.out, R7.out, G7.out⟩
        · have f0 : (n == 0) = false := by simpa using hn
          go_wp2_with fail
          go_meet
          exact ⟨_, _, rfl, rfl, fun h => by simp at h, X.out, P.out, V.out, C.out, R.out, G.out⟩
      case rest =>
      obtain ⟨b, m8, rfl, rfl, hbn, hX, hP, hV, hC, hR, hG⟩ := hcut
      clear X C R G P V
      have X := Lib.hid hX
      have P := Lib.hid hP
      have V := Lib.hid hV
      have C := Lib.hid hC
      have R := Lib.hid hR
      have G := Lib.hid hG
      have HBN := Lib.hid hbn
      clear hX hP hV hC hR hG hbn
      go_upto_if 41 with fail
      go_cut [6] from 19 to 57 (fun _ wx => ∃ (m' : Nat) (D : Dev) (vd : List Value), DInv D ∧ Lo (w.heap.size + 1) vd ∧ VarAt xd [xc] vd D wx ∧ CodL xc m' wx ∧ RowAt w.heap.size dev0 wx ∧ w.grownBy wx (some xc))
      case first =>
        cases b
        · go_wp2_with fail
          go_meet
          exact ⟨_, D, vd, HDI.out, LWD.out, X.out, C.out, R.out, G.out⟩
        · have vl := V.out.length
          go_wp2_with (first
            | (refine wp_loadV v P.out vl rfl rfl rfl ?_)
            | (refine wp_storeV V.out X.out.row X.out.len rfl rfl rfl rfl ?_; intro w9 hP hS; have X9 := Lib.hid (var_move (rb := w.heap.size) X.out V.out O3.out hP hS); have C9 := Lib.hid (codL_stored C.out hS (by have := KR.out; omega)); have R9 := Lib.hid (hS.row R.out (by have := KR.out; omega)); have G9 := Lib.hid (grown_newStored G.out hS (by have := KR.out; omega)); clear hP hS))
          go_meet
          exact ⟨_, D', v, NI.out (HBN.out (by first | rfl | trivial)), LV.out, X9.out, C9.out, R9.out, G9.out⟩
      case rest =>
      obtain ⟨m9, D2, vd2, hI, hL, hX, hC, hR, hG⟩ := hcut
      clear X C R G P V O3 LV NI NB NB2 HBN HVD HFD HPL HDI LWD
      have X := Lib.hid hX
      have C := Lib.hid hC
      have R := Lib.hid hR
      have G := Lib.hid hG
      have HDI := Lib.hid hI
      have LWD := Lib.hid hL
      clear hI hL hX hC hR hG
      obtain ⟨hvl, ⟨sp, cp, hcp0⟩, hcw0⟩ := var_facts X.out
      have HVD := Lib.hid (And.intro hvl (And.intro hcp0 hcw0))
      have HFD := Lib.hid HDI.out.fits
      have HPL : Hid ((D2.pages.length : Int) ≤ 1000000) := Lib.hid (by have := HDI.out.pages.2; omega)
      clear hvl hcp0 hcw0
      go_upto_region 8 with fail
      go_cut [8, 9] from 19 to 57 (fun s8 s9 wx => ∃ (nb : Nat) (v : List Value) (n : Int) (m' : Nat) (D' : Dev), s8 = .pointer (some ⟨nb, 0, none⟩) ∧ s9 = .int .i64 n ∧ VarAt xd [xc] vd2 D2 wx ∧ RowAt nb v wx ∧ (nb ≠ xd ∧ xc ≠ nb) ∧ DevV v D' wx ∧ (Off xc v ∧ Off xd v ∧ Off w.heap.size v) ∧ Lo (w.heap.size + 1) v ∧ CodL xc m' wx ∧ RowAt w.heap.size dev0 wx ∧ w.grownBy wx (some xc) ∧ (n = 0 → DInv D'))
      case first =>
        refine wp_region_held_drew (S := fun W => RowAt xd vd2 W) (by kernel_rfl) X.out.row.drew (fun hHeld => ?_)
        refine wpAnyH_take (i := 0) (v := .agg vd2.toArray) rfl (by kernel_rfl) (by kernel_rfl) (by kernel_rfl) (fun _ _ _ h => h) (yieldsIf_load_mid (by rfl) 27 _ rfl xd 0 rfl vd2 _ (fun W hSw => RowAt.range hSw 0 (fun j v hv => by rw [Nat.zero_add]; exact hv)) Try.underlying27 rfl (by rw [HVD.out.1]; exact info_dev)) (by assumption) ?_
        try simp only [Act.put, List.getElem_toArray, List.getElem_cons_zero, List.getElem_cons_succ, List.setIfInBounds_toArray, List.set_cons_zero, List.set_cons_succ]
        refine wpAnyH_take (i := 1) (v := ?_) rfl (by kernel_rfl) (by kernel_rfl) (by kernel_rfl) (fun _ _ _ h => h) (Or.inl ⟨by rfl, ?_⟩) (by assumption) ?_
        rotate_left
        · (intro W hSW; go_simp; try with_reducible rfl)
        try simp only [Act.put, List.getElem_toArray, List.getElem_cons_zero, List.getElem_cons_succ, List.setIfInBounds_toArray, List.set_cons_zero, List.set_cons_succ]
        refine wpAnyH_take (i := 2) (v := ?_) rfl (by kernel_rfl) (by kernel_rfl) (by kernel_rfl) (fun _ _ _ h => h) (Or.inl ⟨by rfl, ?_⟩) (by assumption) ?_
        rotate_left
        · (intro W hSW; go_simp; try with_reducible rfl)
        try simp only [Act.put, List.getElem_toArray, List.getElem_cons_zero, List.getElem_cons_succ, List.setIfInBounds_toArray, List.set_cons_zero, List.set_cons_succ]
        refine wpAnyH_take (i := 3) (v := ?_) rfl (by kernel_rfl) (by kernel_rfl) (by kernel_rfl) (fun _ _ _ h => h) (Or.inl ⟨by rfl, ?_⟩) (by assumption) ?_
        rotate_left
        · (intro W hSW; have hcp := HVD.out.2.1 W hSW; go_simp; try with_reducible rfl)
        try simp only [Act.put, List.getElem_toArray, List.getElem_cons_zero, List.getElem_cons_succ, List.setIfInBounds_toArray, List.set_cons_zero, List.set_cons_succ]
        refine wpAnyH_take (i := 4) (v := ?_) rfl (by kernel_rfl) (by kernel_rfl) (by kernel_rfl) (fun _ _ _ h => h) (Or.inl ⟨by rfl, ?_⟩) (by assumption) ?_
        rotate_left
        · (intro W hSW; go_simp; try with_reducible rfl)
        try simp only [Act.put, List.getElem_toArray, List.getElem_cons_zero, List.getElem_cons_succ, List.setIfInBounds_toArray, List.set_cons_zero, List.set_cons_succ]
        refine wpAnyH_take (i := 6) (v := ?_) rfl (by kernel_rfl) (by kernel_rfl) (by kernel_rfl) (fun _ _ _ h => h) (Or.inl ⟨by rfl, ?_⟩) (by assumption) ?_
        rotate_left
        · (intro W hSW; go_simp; try with_reducible rfl)
        try simp only [Act.put, List.getElem_toArray, List.getElem_cons_zero, List.getElem_cons_succ, List.setIfInBounds_toArray, List.set_cons_zero, List.set_cons_succ]
        have f8_1 := Lib.hid (X.out.keep (Below.refl _ _).drew)
        have f8_2 := Lib.hid (codL_keep C.out (Below.refl _ _).drew)
        have f8_3 := Lib.hid (grownBy_below G.out (Below.refl _ _).drew)
        have f8_4 := Lib.hid (R.out.drew)
        refine wpAnyH_ready (rs := [5, 12]) (by kernel_rfl) (by simp) (AllReadyH.cons rfl (fun K hK => ?_) (AllReadyH.cons rfl (fun K hK => ?_) AllReadyH.nil))
        · go_simp
          go_wp2_with (go_at_call 17; (with_reducible refine (nextL_any xc _ _ _ f8_2.out HPL.out).mono ?_); rintro e W8_5 ⟨r8_11, rfl, _, _, _, ⟨m8_9, _, _, hC8_8⟩, hg8_7⟩)
          have f8_13 := Lib.hid (f8_1.out.grown hg8_7 (fun k e => by injection e with e; subst e; simp))
          have f8_14 := Lib.hid (hC8_8)
          have f8_15 := Lib.hid (grownBy_trans f8_3.out hg8_7)
          have f8_16 := Lib.hid (f8_4.out.grown hg8_7 (fun e => by have := Option.some.inj e; have := KR.out; omega))
          refine hK.out _ _ (hHeld.grown hg8_7 (fun e => by have := Option.some.inj e; have := KR.out; omega)) (fun hH8_6 => ?_)
          clear hK K
          try simp only [Act.put, List.getElem_toArray, List.getElem_cons_zero, List.getElem_cons_succ, List.setIfInBounds_toArray, List.set_cons_zero, List.set_cons_succ]
          refine wpAnyH_ready (rs := [7, 12]) (by kernel_rfl) (by simp) (AllReadyH.cons rfl (fun K hK => ?_) (AllReadyH.cons rfl (fun K hK => ?_) AllReadyH.nil))
          · go_simp
            go_wp2_with (go_at_call 18; (with_reducible refine (bytes_any xc _ _ f8_14.out).mono ?_); rintro e W8_17 ⟨x8_23, rfl, _, ⟨m8_21, _, hC8_20⟩, hg8_19⟩)
            have f8_27 := Lib.hid (f8_13.out.grown hg8_19 (fun k e => by injection e with e; subst e; simp))
            have f8_28 := Lib.hid (hC8_20)
            have f8_29 := Lib.hid (grownBy_trans f8_15.out hg8_19)
            have f8_30 := Lib.hid (f8_16.out.grown hg8_19 (fun e => by have := Option.some.inj e; have := KR.out; omega))
            obtain ⟨n8_24, hn8_25⟩ : ∃ n, writeE D2 r8_11 x8_23 = n := ⟨_, rfl⟩
            have f8_26 := Lib.hid hn8_25
            clear hn8_25
            refine hK.out _ _ (hH8_6.grown hg8_19 (fun e => by have := Option.some.inj e; have := KR.out; omega)) (fun hH8_18 => ?_)
            clear hK K
            try simp only [Act.put, List.getElem_toArray, List.getElem_cons_zero, List.getElem_cons_succ, List.setIfInBounds_toArray, List.set_cons_zero, List.set_cons_succ]
            refine wpAnyH_ready (rs := [8, 12]) (by kernel_rfl) (by simp) (AllReadyH.cons rfl (fun K hK => ?_) (AllReadyH.cons rfl (fun K hK => ?_) AllReadyH.nil))
            · go_simp
              have f8_47 := Lib.hid (And.intro (codL_lt f8_28.out) (And.intro f8_27.out.row.lt f8_30.out.lt))
              go_wp2_with (go_at_call 21; (with_reducible refine (nk.refWrite_any _ D2 r8_11 x8_23 n8_24 f8_26.out _ f8_27.out.dev HFD.out).mono ?_); rintro e W8_31 ⟨v8_37, rfl, hV8_38, hl8_39, hb8_40⟩)
              have f8_41 := Lib.hid (f8_27.out.keep hb8_40)
              have f8_42 := Lib.hid (codL_keep f8_28.out hb8_40)
              have f8_43 := Lib.hid (grownBy_below f8_29.out hb8_40)
              have f8_44 := Lib.hid (f8_30.out.keep hb8_40)
              have f8_45 := Lib.hid (hV8_38)
              have f8_46 := Lib.hid (hl8_39 _ (Nat.le_refl _))
              have f8_48 := Lib.hid (hl8_39 (w.heap.size + 1) f8_30.out.lt)
              have f8_49 := Lib.hid (And.intro (off_lo f8_46.out f8_47.out.1) (And.intro (off_lo f8_46.out f8_47.out.2.1) (off_lo f8_46.out f8_47.out.2.2)))
              refine hK.out _ _ (hH8_18.keep hb8_40) (fun hH8_32 => ?_)
              clear hK K
              try simp only [Act.put, List.getElem_toArray, List.getElem_cons_zero, List.getElem_cons_succ, List.setIfInBounds_toArray, List.set_cons_zero, List.set_cons_succ]
              refine wpAnyH_take (i := 9) (v := ?_) rfl (by kernel_rfl) (by kernel_rfl) (by kernel_rfl) (fun _ _ _ h => h) (Or.inl ⟨by rfl, ?_⟩) (by assumption) ?_
              rotate_left
              · (intro W hSW; go_simp; try with_reducible rfl)
              try simp only [Act.put, List.getElem_toArray, List.getElem_cons_zero, List.getElem_cons_succ, List.setIfInBounds_toArray, List.set_cons_zero, List.set_cons_succ]
              refine wpAnyH_take (i := 10) (v := ?_) rfl (by kernel_rfl) (by kernel_rfl) (by kernel_rfl) (fun _ _ _ h => h) (Or.inl ⟨by rfl, ?_⟩) (by assumption) ?_
              rotate_left
              · (intro W hSW; go_simp; try with_reducible rfl)
              try simp only [Act.put, List.getElem_toArray, List.getElem_cons_zero, List.getElem_cons_succ, List.setIfInBounds_toArray, List.set_cons_zero, List.set_cons_succ]
              refine wpAnyH_take (i := 11) (v := ?_) rfl (by kernel_rfl) (by kernel_rfl) (by kernel_rfl) (fun _ _ _ h => h) (Or.inl ⟨by rfl, ?_⟩) (by assumption) ?_
              rotate_left
              · (intro W hSW; go_simp; try with_reducible rfl)
              try simp only [Act.put, List.getElem_toArray, List.getElem_cons_zero, List.getElem_cons_succ, List.setIfInBounds_toArray, List.set_cons_zero, List.set_cons_succ]
              refine wpAnyH_ready (rs := [12]) (by kernel_rfl) (by simp) (AllReadyH.cons rfl (fun K hK => ?_) AllReadyH.nil)
              · have f8_58 := Lib.hid (And.intro (codL_lt f8_42.out) (And.intro f8_41.out.row.lt (And.intro f8_44.out.lt f8_43.out.size)))
                have f8_59 := Lib.hid (varAt_more f8_41.out (Nat.le_refl _))
                have f8_60 := Lib.hid (off_new f8_45.out (Nat.le_refl _))
                simp only [List.getElem_toArray, List.getElem_cons_zero, List.getElem_cons_succ]
                rw [if_pos (by rfl)]
                with_reducible refine op_newDev (by rfl) (fun W8_50 hP8_51 hb8_52 => ?_)
                have f8_53 := Lib.hid (f8_59.out.keep hb8_52)
                have f8_54 := Lib.hid (codL_keep f8_42.out hb8_52)
                have f8_55 := Lib.hid (grownBy_below f8_43.out hb8_52)
                have f8_56 := Lib.hid (f8_44.out.keep hb8_52)
                have f8_57 := Lib.hid (hP8_51)
                have f8_61 := Lib.hid (f8_45.out.keep hb8_52)
                refine hK.out _ _ (hH8_32.keep hb8_52) (fun hH8_62 => ?_)
                clear hK K
                try simp only [Act.put, List.getElem_toArray, List.getElem_cons_zero, List.getElem_cons_succ, List.setIfInBounds_toArray, List.set_cons_zero, List.set_cons_succ]
                refine wpAnyH_ready (rs := [13]) (by kernel_rfl) (by simp) (AllReadyH.cons rfl (fun K hK => ?_) AllReadyH.nil)
                simp only [List.getElem_toArray, List.getElem_cons_zero, List.getElem_cons_succ]
                rw [if_pos (by rfl)]
                have hd0 : dev0.length = 5 := rfl
                with_reducible refine op_storeV f8_61.out f8_57.out hd0 (by rfl) ?_ ?_ (fun W8_63 hP8_64 hS8_65 => ?_)
                · rfl
                · rfl
                have f8_67 := Lib.hid (f8_53.out.stored hS8_65 (by simp))
                have f8_68 := Lib.hid (codL_stored f8_54.out hS8_65 f8_58.out.1)
                have f8_69 := Lib.hid (grown_newStored f8_55.out hS8_65 f8_58.out.2.2.2)
                have f8_70 := Lib.hid (hS8_65.row f8_56.out (by have := f8_58.out; omega))
                have f8_71 := Lib.hid (devV_stored f8_61.out hS8_65 f8_60.out)
                have f8_72 := Lib.hid (hP8_64)
                refine hK.out _ _ (hS8_65.row hH8_62 (by have := f8_58.out; omega)) (fun hH8_66 => ?_)
                clear hK K
                try simp only [Act.put, List.getElem_toArray, List.getElem_cons_zero, List.getElem_cons_succ, List.setIfInBounds_toArray, List.set_cons_zero, List.set_cons_succ]
                refine wpAnyH_take (i := 14) (v := ?_) rfl (by kernel_rfl) (by kernel_rfl) (by kernel_rfl) (fun _ _ _ h => h) (Or.inl ⟨by rfl, ?_⟩) (by assumption) ?_
                rotate_left
                · (intro W hSW; go_simp; try with_reducible rfl)
                try simp only [Act.put, List.getElem_toArray, List.getElem_cons_zero, List.getElem_cons_succ, List.setIfInBounds_toArray, List.set_cons_zero, List.set_cons_succ]
                refine wpAnyH_done (by kernel_rfl) ?_ _
                go_wp2_with fail
                go_meet
                exact ⟨_, _, n8_24, _, _, rfl, rfl, varAt_sub f8_67.out (by simp), f8_72.out, ⟨by have := f8_58.out; have hdr : wc.drew.heap.size = wc.heap.size := rfl; omega, by have := f8_58.out; have hdr : wc.drew.heap.size = wc.heap.size := rfl; omega⟩, f8_71.out, f8_49.out, f8_48.out, f8_68.out, f8_70.out, f8_69.out, fun h0 => write_inv HDI.out (h0 ▸ f8_26.out)⟩
            · have f8_81 := Lib.hid (And.intro (codL_lt f8_28.out) (And.intro f8_27.out.row.lt (And.intro f8_30.out.lt f8_29.out.size)))
              have f8_82 := Lib.hid (varAt_more f8_27.out (Nat.le_refl _))
              simp only [List.getElem_toArray, List.getElem_cons_zero, List.getElem_cons_succ]
              rw [if_pos (by rfl)]
              with_reducible refine op_newDev (by rfl) (fun W8_73 hP8_74 hb8_75 => ?_)
              have f8_76 := Lib.hid (f8_82.out.keep hb8_75)
              have f8_77 := Lib.hid (codL_keep f8_28.out hb8_75)
              have f8_78 := Lib.hid (grownBy_below f8_29.out hb8_75)
              have f8_79 := Lib.hid (f8_30.out.keep hb8_75)
              have f8_80 := Lib.hid (hP8_74)
              refine hK.out _ _ (hH8_18.keep hb8_75) (fun hH8_83 => ?_)
              clear hK K
              try simp only [Act.put, List.getElem_toArray, List.getElem_cons_zero, List.getElem_cons_succ, List.setIfInBounds_toArray, List.set_cons_zero, List.set_cons_succ]
              refine wpAnyH_ready (rs := [8]) (by kernel_rfl) (by simp) (AllReadyH.cons rfl (fun K hK => ?_) AllReadyH.nil)
              · go_simp
                have f8_100 := Lib.hid (And.intro (codL_lt f8_77.out) (And.intro f8_76.out.row.lt f8_79.out.lt))
                go_wp2_with (go_at_call 21; (with_reducible refine (nk.refWrite_any _ D2 r8_11 x8_23 n8_24 f8_26.out _ f8_76.out.dev HFD.out).mono ?_); rintro e W8_84 ⟨v8_90, rfl, hV8_91, hl8_92, hb8_93⟩)
                have f8_94 := Lib.hid (f8_76.out.keep hb8_93)
                have f8_95 := Lib.hid (codL_keep f8_77.out hb8_93)
                have f8_96 := Lib.hid (grownBy_below f8_78.out hb8_93)
                have f8_97 := Lib.hid (f8_79.out.keep hb8_93)
                have f8_98 := Lib.hid (hV8_91)
                have f8_99 := Lib.hid (hl8_92 _ (Nat.le_refl _))
                have f8_101 := Lib.hid (hl8_92 (w.heap.size + 1) f8_79.out.lt)
                have f8_102 := Lib.hid (And.intro (off_lo f8_99.out f8_100.out.1) (And.intro (off_lo f8_99.out f8_100.out.2.1) (off_lo f8_99.out f8_100.out.2.2)))
                have f8_103 := Lib.hid (off_lo f8_99.out f8_80.out.lt)
                have f8_104 := Lib.hid (f8_80.out.keep hb8_93)
                refine hK.out _ _ (hH8_83.keep hb8_93) (fun hH8_85 => ?_)
                clear hK K
                try simp only [Act.put, List.getElem_toArray, List.getElem_cons_zero, List.getElem_cons_succ, List.setIfInBounds_toArray, List.set_cons_zero, List.set_cons_succ]
                refine wpAnyH_take (i := 9) (v := ?_) rfl (by kernel_rfl) (by kernel_rfl) (by kernel_rfl) (fun _ _ _ h => h) (Or.inl ⟨by rfl, ?_⟩) (by assumption) ?_
                rotate_left
                · (intro W hSW; go_simp; try with_reducible rfl)
                try simp only [Act.put, List.getElem_toArray, List.getElem_cons_zero, List.getElem_cons_succ, List.setIfInBounds_toArray, List.set_cons_zero, List.set_cons_succ]
                refine wpAnyH_take (i := 10) (v := ?_) rfl (by kernel_rfl) (by kernel_rfl) (by kernel_rfl) (fun _ _ _ h => h) (Or.inl ⟨by rfl, ?_⟩) (by assumption) ?_
                rotate_left
                · (intro W hSW; go_simp; try with_reducible rfl)
                try simp only [Act.put, List.getElem_toArray, List.getElem_cons_zero, List.getElem_cons_succ, List.setIfInBounds_toArray, List.set_cons_zero, List.set_cons_succ]
                refine wpAnyH_take (i := 11) (v := ?_) rfl (by kernel_rfl) (by kernel_rfl) (by kernel_rfl) (fun _ _ _ h => h) (Or.inl ⟨by rfl, ?_⟩) (by assumption) ?_
                rotate_left
                · (intro W hSW; go_simp; try with_reducible rfl)
                try simp only [Act.put, List.getElem_toArray, List.getElem_cons_zero, List.getElem_cons_succ, List.setIfInBounds_toArray, List.set_cons_zero, List.set_cons_succ]
                refine wpAnyH_ready (rs := [13]) (by kernel_rfl) (by simp) (AllReadyH.cons rfl (fun K hK => ?_) AllReadyH.nil)
                simp only [List.getElem_toArray, List.getElem_cons_zero, List.getElem_cons_succ]
                rw [if_pos (by rfl)]
                have hd0 : dev0.length = 5 := rfl
                with_reducible refine op_storeV f8_98.out f8_104.out hd0 (by rfl) ?_ ?_ (fun W8_105 hP8_106 hS8_107 => ?_)
                · rfl
                · rfl
                have f8_109 := Lib.hid (f8_94.out.stored hS8_107 (by simp))
                have f8_110 := Lib.hid (codL_stored f8_95.out hS8_107 f8_81.out.1)
                have f8_111 := Lib.hid (grown_newStored f8_96.out hS8_107 f8_81.out.2.2.2)
                have f8_112 := Lib.hid (hS8_107.row f8_97.out (by have := f8_81.out; omega))
                have f8_113 := Lib.hid (devV_stored f8_98.out hS8_107 f8_103.out)
                have f8_114 := Lib.hid (hP8_106)
                refine hK.out _ _ (hS8_107.row hH8_85 (by have := f8_81.out; omega)) (fun hH8_108 => ?_)
                clear hK K
                try simp only [Act.put, List.getElem_toArray, List.getElem_cons_zero, List.getElem_cons_succ, List.setIfInBounds_toArray, List.set_cons_zero, List.set_cons_succ]
                refine wpAnyH_take (i := 14) (v := ?_) rfl (by kernel_rfl) (by kernel_rfl) (by kernel_rfl) (fun _ _ _ h => h) (Or.inl ⟨by rfl, ?_⟩) (by assumption) ?_
                rotate_left
                · (intro W hSW; go_simp; try with_reducible rfl)
                try simp only [Act.put, List.getElem_toArray, List.getElem_cons_zero, List.getElem_cons_succ, List.setIfInBounds_toArray, List.set_cons_zero, List.set_cons_succ]
                refine wpAnyH_done (by kernel_rfl) ?_ _
                go_wp2_with fail
                go_meet
                exact ⟨_, _, n8_24, _, _, rfl, rfl, varAt_sub f8_109.out (by simp), f8_114.out, ⟨by have := f8_81.out; have hdr : wc.drew.heap.size = wc.heap.size := rfl; omega, by have := f8_81.out; have hdr : wc.drew.heap.size = wc.heap.size := rfl; omega⟩, f8_113.out, f8_102.out, f8_101.out, f8_110.out, f8_112.out, f8_111.out, fun h0 => write_inv HDI.out (h0 ▸ f8_26.out)⟩
          · have f8_123 := Lib.hid (And.intro (codL_lt f8_14.out) (And.intro f8_13.out.row.lt (And.intro f8_16.out.lt f8_15.out.size)))
            have f8_124 := Lib.hid (varAt_more f8_13.out (Nat.le_refl _))
            simp only [List.getElem_toArray, List.getElem_cons_zero, List.getElem_cons_succ]
            rw [if_pos (by rfl)]
            with_reducible refine op_newDev (by rfl) (fun W8_115 hP8_116 hb8_117 => ?_)
            have f8_118 := Lib.hid (f8_124.out.keep hb8_117)
            have f8_119 := Lib.hid (codL_keep f8_14.out hb8_117)
            have f8_120 := Lib.hid (grownBy_below f8_15.out hb8_117)
            have f8_121 := Lib.hid (f8_16.out.keep hb8_117)
            have f8_122 := Lib.hid (hP8_116)
            refine hK.out _ _ (hH8_6.keep hb8_117) (fun hH8_125 => ?_)
            clear hK K
            try simp only [Act.put, List.getElem_toArray, List.getElem_cons_zero, List.getElem_cons_succ, List.setIfInBounds_toArray, List.set_cons_zero, List.set_cons_succ]
            refine wpAnyH_ready (rs := [7]) (by kernel_rfl) (by simp) (AllReadyH.cons rfl (fun K hK => ?_) AllReadyH.nil)
            · go_simp
              go_wp2_with (go_at_call 18; (with_reducible refine (bytes_any xc _ _ f8_119.out).mono ?_); rintro e W8_126 ⟨x8_132, rfl, _, ⟨m8_130, _, hC8_129⟩, hg8_128⟩)
              have f8_136 := Lib.hid (f8_118.out.grown hg8_128 (fun k e => by injection e with e; subst e; simp))
              have f8_137 := Lib.hid (hC8_129)
              have f8_138 := Lib.hid (grownBy_trans f8_120.out hg8_128)
              have f8_139 := Lib.hid (f8_121.out.grown hg8_128 (fun e => by have := Option.some.inj e; have := KR.out; omega))
              have f8_140 := Lib.hid (f8_122.out.grown hg8_128 (fun e => by have := Option.some.inj e; have := f8_123.out; omega))
              obtain ⟨n8_133, hn8_134⟩ : ∃ n, writeE D2 r8_11 x8_132 = n := ⟨_, rfl⟩
              have f8_135 := Lib.hid hn8_134
              clear hn8_134
              refine hK.out _ _ (hH8_125.grown hg8_128 (fun e => by have := Option.some.inj e; have := KR.out; omega)) (fun hH8_127 => ?_)
              clear hK K
              try simp only [Act.put, List.getElem_toArray, List.getElem_cons_zero, List.getElem_cons_succ, List.setIfInBounds_toArray, List.set_cons_zero, List.set_cons_succ]
              refine wpAnyH_ready (rs := [8]) (by kernel_rfl) (by simp) (AllReadyH.cons rfl (fun K hK => ?_) AllReadyH.nil)
              · go_simp
                have f8_157 := Lib.hid (And.intro (codL_lt f8_137.out) (And.intro f8_136.out.row.lt f8_139.out.lt))
                go_wp2_with (go_at_call 21; (with_reducible refine (nk.refWrite_any _ D2 r8_11 x8_132 n8_133 f8_135.out _ f8_136.out.dev HFD.out).mono ?_); rintro e W8_141 ⟨v8_147, rfl, hV8_148, hl8_149, hb8_150⟩)
                have f8_151 := Lib.hid (f8_136.out.keep hb8_150)
                have f8_152 := Lib.hid (codL_keep f8_137.out hb8_150)
                have f8_153 := Lib.hid (grownBy_below f8_138.out hb8_150)
                have f8_154 := Lib.hid (f8_139.out.keep hb8_150)
                have f8_155 := Lib.hid (hV8_148)
                have f8_156 := Lib.hid (hl8_149 _ (Nat.le_refl _))
                have f8_158 := Lib.hid (hl8_149 (w.heap.size + 1) f8_139.out.lt)
                have f8_159 := Lib.hid (And.intro (off_lo f8_156.out f8_157.out.1) (And.intro (off_lo f8_156.out f8_157.out.2.1) (off_lo f8_156.out f8_157.out.2.2)))
                have f8_160 := Lib.hid (off_lo f8_156.out f8_140.out.lt)
                have f8_161 := Lib.hid (f8_140.out.keep hb8_150)
                refine hK.out _ _ (hH8_127.keep hb8_150) (fun hH8_142 => ?_)
                clear hK K
                try simp only [Act.put, List.getElem_toArray, List.getElem_cons_zero, List.getElem_cons_succ, List.setIfInBounds_toArray, List.set_cons_zero, List.set_cons_succ]
                refine wpAnyH_take (i := 9) (v := ?_) rfl (by kernel_rfl) (by kernel_rfl) (by kernel_rfl) (fun _ _ _ h => h) (Or.inl ⟨by rfl, ?_⟩) (by assumption) ?_
                rotate_left
                · (intro W hSW; go_simp; try with_reducible rfl)
                try simp only [Act.put, List.getElem_toArray, List.getElem_cons_zero, List.getElem_cons_succ, List.setIfInBounds_toArray, List.set_cons_zero, List.set_cons_succ]
                refine wpAnyH_take (i := 10) (v := ?_) rfl (by kernel_rfl) (by kernel_rfl) (by kernel_rfl) (fun _ _ _ h => h) (Or.inl ⟨by rfl, ?_⟩) (by assumption) ?_
                rotate_left
                · (intro W hSW; go_simp; try with_reducible rfl)
                try simp only [Act.put, List.getElem_toArray, List.getElem_cons_zero, List.getElem_cons_succ, List.setIfInBounds_toArray, List.set_cons_zero, List.set_cons_succ]
                refine wpAnyH_take (i := 11) (v := ?_) rfl (by kernel_rfl) (by kernel_rfl) (by kernel_rfl) (fun _ _ _ h => h) (Or.inl ⟨by rfl, ?_⟩) (by assumption) ?_
                rotate_left
                · (intro W hSW; go_simp; try with_reducible rfl)
                try simp only [Act.put, List.getElem_toArray, List.getElem_cons_zero, List.getElem_cons_succ, List.setIfInBounds_toArray, List.set_cons_zero, List.set_cons_succ]
                refine wpAnyH_ready (rs := [13]) (by kernel_rfl) (by simp) (AllReadyH.cons rfl (fun K hK => ?_) AllReadyH.nil)
                simp only [List.getElem_toArray, List.getElem_cons_zero, List.getElem_cons_succ]
                rw [if_pos (by rfl)]
                have hd0 : dev0.length = 5 := rfl
                with_reducible refine op_storeV f8_155.out f8_161.out hd0 (by rfl) ?_ ?_ (fun W8_162 hP8_163 hS8_164 => ?_)
                · rfl
                · rfl
                have f8_166 := Lib.hid (f8_151.out.stored hS8_164 (by simp))
                have f8_167 := Lib.hid (codL_stored f8_152.out hS8_164 f8_123.out.1)
                have f8_168 := Lib.hid (grown_newStored f8_153.out hS8_164 f8_123.out.2.2.2)
                have f8_169 := Lib.hid (hS8_164.row f8_154.out (by have := f8_123.out; omega))
                have f8_170 := Lib.hid (devV_stored f8_155.out hS8_164 f8_160.out)
                have f8_171 := Lib.hid (hP8_163)
                refine hK.out _ _ (hS8_164.row hH8_142 (by have := f8_123.out; omega)) (fun hH8_165 => ?_)
                clear hK K
                try simp only [Act.put, List.getElem_toArray, List.getElem_cons_zero, List.getElem_cons_succ, List.setIfInBounds_toArray, List.set_cons_zero, List.set_cons_succ]
                refine wpAnyH_take (i := 14) (v := ?_) rfl (by kernel_rfl) (by kernel_rfl) (by kernel_rfl) (fun _ _ _ h => h) (Or.inl ⟨by rfl, ?_⟩) (by assumption) ?_
                rotate_left
                · (intro W hSW; go_simp; try with_reducible rfl)
                try simp only [Act.put, List.getElem_toArray, List.getElem_cons_zero, List.getElem_cons_succ, List.setIfInBounds_toArray, List.set_cons_zero, List.set_cons_succ]
                refine wpAnyH_done (by kernel_rfl) ?_ _
                go_wp2_with fail
                go_meet
                exact ⟨_, _, n8_133, _, _, rfl, rfl, varAt_sub f8_166.out (by simp), f8_171.out, ⟨by have := f8_123.out; have hdr : wc.drew.heap.size = wc.heap.size := rfl; omega, by have := f8_123.out; have hdr : wc.drew.heap.size = wc.heap.size := rfl; omega⟩, f8_170.out, f8_159.out, f8_158.out, f8_167.out, f8_169.out, f8_168.out, fun h0 => write_inv HDI.out (h0 ▸ f8_135.out)⟩
        · have f8_180 := Lib.hid (And.intro (codL_lt f8_2.out) (And.intro f8_1.out.row.lt (And.intro f8_4.out.lt f8_3.out.size)))
          have f8_181 := Lib.hid (varAt_more f8_1.out (Nat.le_refl _))
          simp only [List.getElem_toArray, List.getElem_cons_zero, List.getElem_cons_succ]
          rw [if_pos (by rfl)]
          with_reducible refine op_newDev (by rfl) (fun W8_172 hP8_173 hb8_174 => ?_)
          have f8_175 := Lib.hid (f8_181.out.keep hb8_174)
          have f8_176 := Lib.hid (codL_keep f8_2.out hb8_174)
          have f8_177 := Lib.hid (grownBy_below f8_3.out hb8_174)
          have f8_178 := Lib.hid (f8_4.out.keep hb8_174)
          have f8_179 := Lib.hid (hP8_173)
          refine hK.out _ _ (hHeld.keep hb8_174) (fun hH8_182 => ?_)
          clear hK K
          try simp only [Act.put, List.getElem_toArray, List.getElem_cons_zero, List.getElem_cons_succ, List.setIfInBounds_toArray, List.set_cons_zero, List.set_cons_succ]
          refine wpAnyH_ready (rs := [5]) (by kernel_rfl) (by simp) (AllReadyH.cons rfl (fun K hK => ?_) AllReadyH.nil)
          · go_simp
            go_wp2_with (go_at_call 17; (with_reducible refine (nextL_any xc _ _ _ f8_176.out HPL.out).mono ?_); rintro e W8_183 ⟨r8_189, rfl, _, _, _, ⟨m8_187, _, _, hC8_186⟩, hg8_185⟩)
            have f8_191 := Lib.hid (f8_175.out.grown hg8_185 (fun k e => by injection e with e; subst e; simp))
            have f8_192 := Lib.hid (hC8_186)
            have f8_193 := Lib.hid (grownBy_trans f8_177.out hg8_185)
            have f8_194 := Lib.hid (f8_178.out.grown hg8_185 (fun e => by have := Option.some.inj e; have := KR.out; omega))
            have f8_195 := Lib.hid (f8_179.out.grown hg8_185 (fun e => by have := Option.some.inj e; have := f8_180.out; omega))
            refine hK.out _ _ (hH8_182.grown hg8_185 (fun e => by have := Option.some.inj e; have := KR.out; omega)) (fun hH8_184 => ?_)
            clear hK K
            try simp only [Act.put, List.getElem_toArray, List.getElem_cons_zero, List.getElem_cons_succ, List.setIfInBounds_toArray, List.set_cons_zero, List.set_cons_succ]
            refine wpAnyH_ready (rs := [7]) (by kernel_rfl) (by simp) (AllReadyH.cons rfl (fun K hK => ?_) AllReadyH.nil)
            · go_simp
              go_wp2_with (go_at_call 18; (with_reducible refine (bytes_any xc _ _ f8_192.out).mono ?_); rintro e W8_196 ⟨x8_202, rfl, _, ⟨m8_200, _, hC8_199⟩, hg8_198⟩)
              have f8_206 := Lib.hid (f8_191.out.grown hg8_198 (fun k e => by injection e with e; subst e; simp))
              have f8_207 := Lib.hid (hC8_199)
              have f8_208 := Lib.hid (grownBy_trans f8_193.out hg8_198)
              have f8_209 := Lib.hid (f8_194.out.grown hg8_198 (fun e => by have := Option.some.inj e; have := KR.out; omega))
              have f8_210 := Lib.hid (f8_195.out.grown hg8_198 (fun e => by have := Option.some.inj e; have := f8_180.out; omega))
              obtain ⟨n8_203, hn8_204⟩ : ∃ n, writeE D2 r8_189 x8_202 = n := ⟨_, rfl⟩
              have f8_205 := Lib.hid hn8_204
              clear hn8_204
              refine hK.out _ _ (hH8_184.grown hg8_198 (fun e => by have := Option.some.inj e; have := KR.out; omega)) (fun hH8_197 => ?_)
              clear hK K
              try simp only [Act.put, List.getElem_toArray, List.getElem_cons_zero, List.getElem_cons_succ, List.setIfInBounds_toArray, List.set_cons_zero, List.set_cons_succ]
              refine wpAnyH_ready (rs := [8]) (by kernel_rfl) (by simp) (AllReadyH.cons rfl (fun K hK => ?_) AllReadyH.nil)
              · go_simp
                have f8_227 := Lib.hid (And.intro (codL_lt f8_207.out) (And.intro f8_206.out.row.lt f8_209.out.lt))
                go_wp2_with (go_at_call 21; (with_reducible refine (nk.refWrite_any _ D2 r8_189 x8_202 n8_203 f8_205.out _ f8_206.out.dev HFD.out).mono ?_); rintro e W8_211 ⟨v8_217, rfl, hV8_218, hl8_219, hb8_220⟩)
                have f8_221 := Lib.hid (f8_206.out.keep hb8_220)
                have f8_222 := Lib.hid (codL_keep f8_207.out hb8_220)
                have f8_223 := Lib.hid (grownBy_below f8_208.out hb8_220)
                have f8_224 := Lib.hid (f8_209.out.keep hb8_220)
                have f8_225 := Lib.hid (hV8_218)
                have f8_226 := Lib.hid (hl8_219 _ (Nat.le_refl _))
                have f8_228 := Lib.hid (hl8_219 (w.heap.size + 1) f8_209.out.lt)
                have f8_229 := Lib.hid (And.intro (off_lo f8_226.out f8_227.out.1) (And.intro (off_lo f8_226.out f8_227.out.2.1) (off_lo f8_226.out f8_227.out.2.2)))
                have f8_230 := Lib.hid (off_lo f8_226.out f8_210.out.lt)
                have f8_231 := Lib.hid (f8_210.out.keep hb8_220)
                refine hK.out _ _ (hH8_197.keep hb8_220) (fun hH8_212 => ?_)
                clear hK K
                try simp only [Act.put, List.getElem_toArray, List.getElem_cons_zero, List.getElem_cons_succ, List.setIfInBounds_toArray, List.set_cons_zero, List.set_cons_succ]
                refine wpAnyH_take (i := 9) (v := ?_) rfl (by kernel_rfl) (by kernel_rfl) (by kernel_rfl) (fun _ _ _ h => h) (Or.inl ⟨by rfl, ?_⟩) (by assumption) ?_
                rotate_left
                · (intro W hSW; go_simp; try with_reducible rfl)
                try simp only [Act.put, List.getElem_toArray, List.getElem_cons_zero, List.getElem_cons_succ, List.setIfInBounds_toArray, List.set_cons_zero, List.set_cons_succ]
                refine wpAnyH_take (i := 10) (v := ?_) rfl (by kernel_rfl) (by kernel_rfl) (by kernel_rfl) (fun _ _ _ h => h) (Or.inl ⟨by rfl, ?_⟩) (by assumption) ?_
                rotate_left
                · (intro W hSW; go_simp; try with_reducible rfl)
                try simp only [Act.put, List.getElem_toArray, List.getElem_cons_zero, List.getElem_cons_succ, List.setIfInBounds_toArray, List.set_cons_zero, List.set_cons_succ]
                refine wpAnyH_take (i := 11) (v := ?_) rfl (by kernel_rfl) (by kernel_rfl) (by kernel_rfl) (fun _ _ _ h => h) (Or.inl ⟨by rfl, ?_⟩) (by assumption) ?_
                rotate_left
                · (intro W hSW; go_simp; try with_reducible rfl)
                try simp only [Act.put, List.getElem_toArray, List.getElem_cons_zero, List.getElem_cons_succ, List.setIfInBounds_toArray, List.set_cons_zero, List.set_cons_succ]
                refine wpAnyH_ready (rs := [13]) (by kernel_rfl) (by simp) (AllReadyH.cons rfl (fun K hK => ?_) AllReadyH.nil)
                simp only [List.getElem_toArray, List.getElem_cons_zero, List.getElem_cons_succ]
                rw [if_pos (by rfl)]
                have hd0 : dev0.length = 5 := rfl
                with_reducible refine op_storeV f8_225.out f8_231.out hd0 (by rfl) ?_ ?_ (fun W8_232 hP8_233 hS8_234 => ?_)
                · rfl
                · rfl
                have f8_236 := Lib.hid (f8_221.out.stored hS8_234 (by simp))
                have f8_237 := Lib.hid (codL_stored f8_222.out hS8_234 f8_180.out.1)
                have f8_238 := Lib.hid (grown_newStored f8_223.out hS8_234 f8_180.out.2.2.2)
                have f8_239 := Lib.hid (hS8_234.row f8_224.out (by have := f8_180.out; omega))
                have f8_240 := Lib.hid (devV_stored f8_225.out hS8_234 f8_230.out)
                have f8_241 := Lib.hid (hP8_233)
                refine hK.out _ _ (hS8_234.row hH8_212 (by have := f8_180.out; omega)) (fun hH8_235 => ?_)
                clear hK K
                try simp only [Act.put, List.getElem_toArray, List.getElem_cons_zero, List.getElem_cons_succ, List.setIfInBounds_toArray, List.set_cons_zero, List.set_cons_succ]
                refine wpAnyH_take (i := 14) (v := ?_) rfl (by kernel_rfl) (by kernel_rfl) (by kernel_rfl) (fun _ _ _ h => h) (Or.inl ⟨by rfl, ?_⟩) (by assumption) ?_
                rotate_left
                · (intro W hSW; go_simp; try with_reducible rfl)
                try simp only [Act.put, List.getElem_toArray, List.getElem_cons_zero, List.getElem_cons_succ, List.setIfInBounds_toArray, List.set_cons_zero, List.set_cons_succ]
                refine wpAnyH_done (by kernel_rfl) ?_ _
                go_wp2_with fail
                go_meet
                exact ⟨_, _, n8_203, _, _, rfl, rfl, varAt_sub f8_236.out (by simp), f8_241.out, ⟨by have := f8_180.out; have hdr : wc.drew.heap.size = wc.heap.size := rfl; omega, by have := f8_180.out; have hdr : wc.drew.heap.size = wc.heap.size := rfl; omega⟩, f8_240.out, f8_229.out, f8_228.out, f8_237.out, f8_239.out, f8_238.out, fun h0 => write_inv HDI.out (h0 ▸ f8_205.out)⟩
      case rest =>
      obtain ⟨nb, v, n, m', D', rfl, rfl, hX, hP, hnb, hV, hO, hLW, hC, hR, hG, hI⟩ := hcut
      clear X C R G
      have X := Lib.hid hX
      have P := Lib.hid hP
      have V := Lib.hid hV
      have O3 := Lib.hid hO
      have LV := Lib.hid hLW
      have C := Lib.hid hC
      have R := Lib.hid hR
      have G := Lib.hid hG
      have NI := Lib.hid hI
      clear hX hP hV hO hLW hC hR hG hI hnb
      by_cases hn : n = 0
      · subst hn
        have vl := V.out.length
        go_wp2_with (first
          | (refine wp_loadV v P.out vl rfl rfl rfl ?_)
          | (refine wp_storeV V.out X.out.row X.out.len rfl rfl rfl rfl ?_; intro w9 hP hS; have X9 := Lib.hid (var_move (rb := w.heap.size) X.out V.out O3.out hP hS); have C9 := Lib.hid (codL_stored C.out hS (by have := KR.out; omega)); have R9 := Lib.hid (hS.row R.out (by have := KR.out; omega)); have G9 := Lib.hid (grown_newStored G.out hS (by have := KR.out; omega)); clear hP hS))
        go_roundw
        case measure => simp [intOf]; omega
        case rel =>
          have RI := Lib.hid (NI.out (by first | rfl | trivial))
          first | exact ⟨k - 1, _, _, _, by omega, by go_num, RI, LV, X9, C9, R9, G9⟩ | ((repeat apply Exists.intro); exact ⟨⟨k - 1, _, _, _, by omega, by go_num, RI, LV, X9, C9, R9, G9⟩, rfl⟩)
      · have f0 : (n == 0) = false := by simpa using hn
        go_wp2_with fail
        go_roundw
        case measure => simp [intOf]; omega
        case rel => first | exact ⟨k - 1, _, _, _, by omega, by go_num, HDI, LWD, X, C, R, G⟩ | ((repeat apply Exists.intro); exact ⟨⟨k - 1, _, _, _, by omega, by go_num, HDI, LWD, X, C, R, G⟩, rfl⟩)
    · have q0 : ¬ (k : Int) > 0 := by omega
      go_wp2_with (first
        | (refine wp_loadV vd X.out.row X.out.len rfl rfl rfl ?_)
        | (refine wp_storeV X.out.dev R.out rfl rfl rfl rfl rfl ?_; intro w9 hP hS; have R9 := Lib.hid hP; have V9 := Lib.hid (devV_stored X.out.dev hS (fun v hv e => by have := LWD.out v hv _ e; omega)); have C9 := Lib.hid (codL_stored C.out hS HXC.out); have G9 := Lib.hid (grown_newStored G.out hS (Nat.le_refl _)); clear hP hS))
      exact bodyPost_ret (res_dev rfl rfl R9.out X.out.len) rfl ⟨vd, D, rfl, V9.out, HDI.out, fun v hv g e => by have := LWD.out v hv g e; omega, ⟨_, C9.out⟩, G9.out⟩
end Go.Proofs.Ytikpchhhenonaaa.nr
