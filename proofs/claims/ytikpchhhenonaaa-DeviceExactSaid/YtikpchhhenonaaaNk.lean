/- DevicePlays. -/
import Derived.Test.YtikpchhhenonaaaNh
import Derived.Test.YtikpchhhenonaaaNj
namespace Go.Proofs.Ytikpchhhenonaaa.nk
open Go.ChangeShapes Go.WideShapes Go.ChangeAt Go.RowKit Go.Proofs.Ytikpchhhenonaaa.cx Go.Proofs.Ytikpchhhenonaaa.ra Go.Proofs.Ytikpchhhenonaaa.la Go.Proofs.Ytikpchhhenonaaa.lb Go.Proofs.Ytikpchhhenonaaa.lc Go.Proofs.Ytikpchhhenonaaa.ld Go.Proofs.Ytikpchhhenonaaa.le Go.Proofs.Ytikpchhhenonaaa.lf Go.Proofs.Ytikpchhhenonaaa.lg Go.Proofs.Ytikpchhhenonaaa.lh Go.Proofs.Ytikpchhhenonaaa.li Go.Proofs.Ytikpchhhenonaaa.lj Go.Proofs.Ytikpchhhenonaaa.lk Go.Proofs.Ytikpchhhenonaaa.ll Go.Proofs.Ytikpchhhenonaaa.lm Go.Proofs.Ytikpchhhenonaaa.ln Go.Proofs.Ytikpchhhenonaaa.lo Go.Proofs.Ytikpchhhenonaaa.lp Go.Proofs.Ytikpchhhenonaaa.lq Go.Proofs.Ytikpchhhenonaaa.lr Go.Proofs.Ytikpchhhenonaaa.ls Go.Proofs.Ytikpchhhenonaaa.lt Go.Proofs.Ytikpchhhenonaaa.lu Go.Proofs.Ytikpchhhenonaaa.lv Go.Proofs.Ytikpchhhenonaaa.lw Go.Proofs.Ytikpchhhenonaaa.lx Go.Proofs.Ytikpchhhenonaaa.ly Go.Proofs.Ytikpchhhenonaaa.na Go.Proofs.Ytikpchhhenonaaa.nb Go.Proofs.Ytikpchhhenonaaa.nc Go.Proofs.Ytikpchhhenonaaa.nd Go.Proofs.Ytikpchhhenonaaa.ne Go.Proofs.Ytikpchhhenonaaa.nf Go.Proofs.Ytikpchhhenonaaa.ng Go.Proofs.Ytikpchhhenonaaa.nh Go.Proofs.Ytikpchhhenonaaa.nj
set_option linter.unusedSimpArgs false
theorem refWrite_any (vs : List Value) (d : Dev) (page : Int) (s : ByteArray) (n : Int) (hn : writeE d page s = n) (w : World) (h : DevV vs d w) (hf : FitsD d) :
    Calls Try.prog 21 #[.agg vs.toArray, .int .i64 page, .string s] w fun e w' => ∃ vs', e = .returned (.tuple #[.agg vs'.toArray, .int .i64 n]) ∧ DevV vs' (writeR d page s) w' ∧ (∀ b, b ≤ w.heap.size → Lo b vs') ∧ Below w.heap.size w w' := by
  subst hn
  by_cases c1 : writeE d page s = 0
  · obtain ⟨ha, _, _⟩ := write_in c1
    obtain ⟨_, _, hp0, hp1⟩ := access_in ha
    obtain ⟨k, rfl⟩ := Int.eq_ofNat_of_zero_le hp0
    have := refWrite_ok vs d k s c1 w h hf
    rw [show writeR d (k : Int) s = writeD d (k : Int) s by unfold writeR; rw [if_pos c1], c1]
    exact this
  · rw [show writeR d page s = noDev by unfold writeR; rw [if_neg c1]; rfl]
    by_cases c2 : accessE d page = 0
    · by_cases c3 : s.size = 256
      · have hw : d.writes = 1099511627776 := by
          apply Classical.byContradiction
          intro hh
          apply c1
          unfold writeE
          rw [if_pos c2, if_pos c3, if_neg hh]
        rw [show writeE d page s = 21 by unfold writeE; rw [if_pos c2, if_pos c3, if_pos hw]]
        exact refWrite_e3 vs d page s c2 c3 hw w h hf
      · rw [show writeE d page s = 2 by unfold writeE; rw [if_pos c2, if_neg c3]]
        exact refWrite_e2 vs d page s c2 c3 w h hf
    · rw [show writeE d page s = accessE d page by unfold writeE; rw [if_neg c2]]
      exact refWrite_e1 vs d page s _ rfl c2 w h hf
theorem write_g (vs : List Value) (d : Dev) (page : Int) (s : ByteArray) (n : Int) (hn : writeE d page s = n) (w : World) (h : DevV vs d w) (hf : FitsD d) :
    Calls Try.prog 20 #[.agg vs.toArray, .int .i64 page, .string s] w fun e w' => ∃ vs', e = .returned (.tuple #[.agg vs'.toArray, .int .i64 n]) ∧ DevV vs' (writeR d page s) w' ∧ (n = 0 → ∀ b, b ≤ w.heap.size → Lo b vs') ∧ Below w.heap.size w w' := by
  subst hn
  exact (write_any vs d page s w h hf).mono fun e w' ⟨vs', h1, h2, h3, h4⟩ => ⟨vs', h1, h2, fun hz b hb => h3 b hb (.inl hz), h4⟩
theorem refInject_b (vs : List Value) (d d' : Dev) (f : Flt) (m : Int) (hn : injectE d f = m) (hd : injectD d f = d') (w : World) (h : DevV vs d w) (hf : FitsD d) :
    Calls Try.prog 26 #[.agg vs.toArray, .agg f.arr] w fun e w' => ∃ vs', e = .returned (.tuple #[.agg vs'.toArray, .int .i64 m]) ∧ DevV vs' d' w' ∧ (∀ b, b ≤ w.heap.size → Lo b vs') ∧ Below w.heap.size w w' := by
  rw [← hn, ← hd]; exact refInject_any vs d f w h hf
theorem refNew_b (n : Int) (m : Int) (d : Dev) (hn : newE n = m) (hd : newD n = d) (w : World) :
    Calls Try.prog 14 #[.int .i64 n] w fun e w' => ∃ vs', e = .returned (.tuple #[.agg vs'.toArray, .int .i64 m]) ∧ DevV vs' d w' ∧ (∀ b, b ≤ w.heap.size → Lo b vs') ∧ Below w.heap.size w w' := by
  rw [← hn, ← hd]; exact refNew_any n w
theorem refRead_b (vs : List Value) (d : Dev) (page : Int) (x : ByteArray) (n : Int) (hn : readE d page = n) (hd : readS d page = x) (w : World) (h : DevV vs d w) (hf : FitsD d) :
    Calls Try.prog 32 #[.agg vs.toArray, .int .i64 page] w fun e w' => e = .returned (.tuple #[.string x, .int .i64 n]) ∧ Below w.heap.size w w' := by
  rw [← hn, ← hd]; exact refRead_any vs d page w h hf
theorem write_goes {d : Dev} {page : Int} {s : ByteArray} (h : writeE d page s = 0) : Goes d.pages.length (writeD d page s) := by
  obtain ⟨ha, hss, _⟩ := write_in h
  obtain ⟨hv, _, hp0, hp1⟩ := access_in ha
  have IV := valid_is hv
  have FM : ∀ f ∈ dueF (countD d), okFault d f = true := fun f hf => IV.faults.2 f (due_mem (d := countD d) hf)
  have FT := fate_of (m := d.pages.length) (dueF (countD d)) fun f hf => by have := okFault_in (FM f hf); exact ⟨this.2.2.1, this.2.2.2⟩
  have G0 : Goes d.pages.length { countD d with faults := restF (countD d) } := ⟨rfl, IV.pages.2, IV.unr.1⟩
  exact (goes_harms (dueF (countD d)) (goes_carry (k := page.toNat) (s := s) G0 (by omega) hss FT) (fun f hf => (okFault_in (FM f hf)).2.1)).1
theorem write_pages {m : Nat} {d : Dev} {page : Int} {s : ByteArray} (hp : Pages m d.pages) (h : writeE d page s = 0) : Pages m (writeD d page s).pages := by
  have g := write_goes h
  rw [hp.1] at g
  exact ⟨g.len, g.size⟩
set_option maxHeartbeats 8000000 in
set_option maxRecDepth 4000 in
theorem plays_walk (so : Option Addr) (len cap : Nat) (w : World) (hin : BytesIn so len w) (hl : len ≤ 9223372036854775807) (hc : len ≤ cap) :
    Calls Try.prog 4 #[.slice so len cap] w fun e w' => e = .returned (.bool true) ∧ Below w.heap.size w w' := by
  have HIN := Lib.hid hin
  clear hin
  go_enter Try.func4, Try.ntmps4
  go_wp2_with (first
    | (go_at_call 9; refine (awake_any _).mono ?_; rintro e w1 ⟨rfl, hb⟩; have B1 := Lib.hid hb; clear hb)
    | (go_at_call 11; (refine (new_most 400 400 rfl so len cap _ (bytesIn_below HIN.out B1.out) hl hc (by decide)).mono ?_; rintro e w2 ⟨rfl, hC, hb, hz⟩; obtain ⟨m0, hC2⟩ := codL_new hC; have C2 := Lib.hid hC2; have B2 := Lib.hid (B1.out.trans (hb.mono B1.out.size)); have K2 : Hid (w.heap.size ≤ w1.heap.size ∧ w1.heap.size < w2.heap.size) := Lib.hid ⟨B1.out.size, codL_lt hC2⟩; clear hC hC2 hb hz))
    | (go_at_call 13; refine (new_b 3 0 (qDev (blanks 3) 0) (newD_of 3 (by decide)).1 (newD_of 3 (by decide)).2 _).mono ?_; rintro e w3 ⟨v1, rfl, hV, hl2, hb⟩; have V3 := Lib.hid hV; have L3 := Lib.hid (hl2 _ (Nat.le_refl _)); have C3 := Lib.hid (codL_keep C2.out hb); have B3 := Lib.hid (B2.out.trans (hb.mono B2.out.size)); have K3 := Lib.hid (Nat.lt_of_lt_of_le K2.out.2 hb.size); clear hV hl2 hb C2)
    | (refine wp_newW dev0 _ zero_dev rfl rfl ?_; intro w4 hP hb _; have N4 := Lib.hid hP; have M4 := Lib.hid hb; have C4 := Lib.hid (codL_keep C3.out hb); have B4 := Lib.hid (B3.out.trans (hb.mono B3.out.size)); clear hP hb C3)
    | (refine wp_storeV V3.out N4.out rfl rfl rfl rfl rfl ?_; intro w5 hP hS; have X5 : Hid (VarAt w3.heap.size [w1.heap.size] v1 (qDev (blanks 3) 0) w5) := Lib.hid (var_new V3.out M4.out hP hS (fun y h => by (obtain rfl : y = w1.heap.size := by simpa using h); exact ⟨K3.out, off_lo L3.out K2.out.2⟩)); have C5 := Lib.hid (codL_stored C4.out hS K3.out); have B5 := Lib.hid (hS.below B4.out B3.out.size); clear hP hS N4 M4 V3 C4 L3)
    | (go_at_call 14; refine (refNew_b 3 0 (qDev (blanks 3) 0) (newD_of 3 (by decide)).1 (newD_of 3 (by decide)).2 _).mono ?_; rintro e w6 ⟨v6, rfl, hV, hl2, hb⟩; have V6 := Lib.hid hV; have L6 := Lib.hid (hl2 _ (Nat.le_refl _)); have X6 := Lib.hid (X5.out.keep hb); have C6 := Lib.hid (codL_keep C5.out hb); have B6 := Lib.hid (B5.out.trans (hb.mono B5.out.size)); have K6 : Hid (w3.heap.size < w5.heap.size ∧ w1.heap.size < w5.heap.size ∧ w5.heap.size ≤ w6.heap.size) := Lib.hid ⟨X5.out.row.lt, codL_lt C5.out, hb.size⟩; clear hV hl2 hb X5 C5)
    | (refine wp_newW dev0 _ zero_dev rfl rfl ?_; intro w7 hP hb _; have N7 := Lib.hid hP; have M7 := Lib.hid hb; have X7 := Lib.hid ((varAt_more X6.out (Nat.le_refl _)).keep hb); have C7 := Lib.hid (codL_keep C6.out hb); have B7 := Lib.hid (B6.out.trans (hb.mono B6.out.size)); clear hP hb C6 X6)
    | (refine wp_storeV V6.out N7.out rfl rfl rfl rfl rfl ?_; intro w8 hP hS; have R8 : Hid (VarAt w6.heap.size [w1.heap.size, w3.heap.size] v6 (qDev (blanks 3) 0) w8) := Lib.hid (var_new V6.out M7.out hP hS (fun y h => by have hk := K6.out; rcases (show y = w1.heap.size ∨ y = w3.heap.size by simpa using h) with rfl | rfl; exact ⟨by omega, off_lo L6.out hk.2.1⟩; exact ⟨by omega, off_lo L6.out hk.1⟩)); have X8 := Lib.hid (X7.out.stored hS (by simp)); have C8 := Lib.hid (codL_stored C7.out hS (by have := K6.out; omega)); have B8 := Lib.hid (hS.below B7.out B6.out.size); have K8 : Hid (w1.heap.size < w3.heap.size ∧ w1.heap.size < w6.heap.size ∧ w.heap.size ≤ w3.heap.size ∧ w.heap.size ≤ w6.heap.size) := Lib.hid ⟨K3.out, by have := K6.out; omega, B3.out.size, B6.out.size⟩; have K9 : Hid (w3.heap.size < w6.heap.size) := Lib.hid (by have := K6.out; omega); clear hP hS N7 M7 V6 C7 X7 L6))
  have hwc := Lib.hid K2.out.1
  have KD := K8
  have KE := K9
  clear K2 K3 K6 K8 K9 B1 B2 B3 B4 B5 B6 B7
  generalize w6.heap.size = xr at *
  generalize w3.heap.size = xd at *
  generalize w1.heap.size = xc at *
  have HM := codL_most C8.out
  go_loopw [8, 9, 10, 11, 12, 13, 14, 15, 16, 17, 18, 19, 20, 21, 22, 23] (fun _ _ _ _ _ _ _ _ _ _ _ _ _ _ _ _ wr => ∃ (m : Nat) (D : Dev) (vd vr : List Value), Hid (Pages 3 D.pages) ∧ Hid (VarAt xd [xr, xc] vd D wr) ∧ Hid (VarAt xr [xc, xd] vr D wr) ∧ Hid (CodL xc m wr) ∧ Hid (Below w.heap.size w wr)) (fun _ _ _ _ _ _ _ _ _ _ _ _ _ _ _ _ wr => ly.leftOf xc wr)
  case atStart => exact ⟨m0, _, _, _, Lib.hid (pages_blanks 3), X8, R8, C8, B8⟩
  case round =>
    clear X8 R8 C8 B8 HM
    obtain ⟨m, D, vd, vr, PG, X, R, C, B⟩ := hrel
    have hlf := ly.leftOf_is C.out
    have hmm := codL_most C.out
    by_cases hm : 0 < m
    · have q2 : (m : Int) > 0 := by omega
      go_upto_if 41 with (first
        | (go_at_call 33; refine (left_any xc m _ C.out).mono ?_; rintro e w1 ⟨rfl, hb⟩; have X1 := Lib.hid (X.out.keep hb); have R1 := Lib.hid (R.out.keep hb); have C1 := Lib.hid (codL_keep C.out hb); have B1 := Lib.hid (B.out.trans (hb.mono B.out.size)); clear hb X R C B)
        | (go_at_call 17; refine (nextL_any xc m 3 _ C1.out (by decide)).mono ?_; rintro e w2 ⟨r, rfl, hr0, hr1, _, ⟨m2, hm2, hm3, hC⟩, hg⟩; have X2 := Lib.hid (X1.out.grown hg (fun k e => by injection e with e; subst e; simp)); have R2 := Lib.hid (R1.out.grown hg (fun k e => by injection e with e; subst e; simp)); have B2 := Lib.hid (ly.below_grown B1.out hg hwc.out); have C2 := Lib.hid hC; have ML := Lib.hid (hm3 (by decide) hm); clear hr0 hr1 hm2 hm3 hC hg X1 R1 C1 B1))
      go_cut [3] from 36 to 113 (fun s3 wx => s3 = .pointer (some ⟨xc, 0, none⟩) ∧ ∃ (m' : Nat) (D : Dev) (vd vr : List Value), m' < m ∧ Hid (Pages 3 D.pages) ∧ Hid (VarAt xd [xr, xc] vd D wx) ∧ Hid (VarAt xr [xc, xd] vr D wx) ∧ Hid (CodL xc m' wx) ∧ Hid (Below w.heap.size w wx))
      case first =>
        by_cases hr : r = 0
        · subst hr
          obtain ⟨n, hn⟩ : ∃ n : Nat, n = n := ⟨0, rfl⟩
          clear hn n
          have cw : w2.cell? ⟨xr, 1, none⟩ = some (.int .i64 D.writes) := by
            obtain ⟨_, _, _, e, _⟩ := R2.out.dev
            exact R2.out.row.cells 1 _ (by rw [e]; rfl)
          go_upto_region 9 with (first
            | (go_at_call 24; refine (fault_any xc m2 3 D.writes _ C2.out (by decide)).mono ?_; rintro e w4 ⟨f, rfl, ⟨m4, hm4, hC⟩, hg⟩; have X4 := Lib.hid (X2.out.grown hg (fun k e => by injection e with e; subst e; simp)); have R4 := Lib.hid (R2.out.grown hg (fun k e => by injection e with e; subst e; simp)); have B4 := Lib.hid (ly.below_grown B2.out hg hwc.out); have C4 := Lib.hid hC; have ML4 := Lib.hid (Nat.lt_of_le_of_lt hm4 ML.out); clear cw hm4 hC hg X2 R2 C2 B2)
            | (have hq := X4.out; clear hq; refine wp_newW flt0.vals _ zero_flt rfl rfl ?_; intro w5 hP hb _; have N5 := Lib.hid hP; have M5 := Lib.hid hb; clear hP hb)
            | (refine wp_storeFltW f N5.out rfl rfl rfl rfl rfl ?_; intro w6 hP hS; have F6 := Lib.hid hP; have MB := Lib.hid (hS.below M5.out (Nat.le_refl _)); have X6 := Lib.hid (X4.out.keep MB.out); have R6 := Lib.hid (R4.out.keep MB.out); have C6 := Lib.hid (codL_keep C4.out MB.out); have B6 := Lib.hid (B4.out.trans (MB.out.mono B4.out.size)); clear hP hS MB N5 M5 X4 R4 C4 B4))
          obtain ⟨n, hn⟩ : ∃ n, injectE D f = n := ⟨_, rfl⟩
          have HN := Lib.hid hn
          have HF := Lib.hid (fits_pages PG.out)
          clear hn
          have KT : Hid (xd < w6.heap.size ∧ xr < w6.heap.size ∧ xc < w6.heap.size) := Lib.hid ⟨X6.out.row.lt, R6.out.row.lt, codL_lt C6.out⟩
          go_upto_if 60 with (first
            | (refine wp_loadV _ X6.out.row X6.out.len rfl rfl rfl ?_)
            | (refine wp_loadFlt f F6.out rfl rfl rfl ?_)
            | (go_at_call 25; refine (inject_b _ D _ f n HN.out rfl _ X6.out.dev HF.out).mono ?_; rintro e w7 ⟨v9, rfl, hV, hl2, hb⟩; have X7 := Lib.hid (X6.out.keep hb); have R7 := Lib.hid (R6.out.keep hb); have C7 := Lib.hid (codL_keep C6.out hb); have F7 := Lib.hid (RowAt.keep F6.out hb); have B7 := Lib.hid (B6.out.trans (hb.mono B6.out.size)); have V7 := Lib.hid hV; have L9 := Lib.hid (hl2 _ (Nat.le_refl _)); have Z7 := Lib.hid hb.size; clear hb X6 R6 C6 F6 B6 hV hl2)
            | (have hq := X7.out; clear hq; refine wp_newW dev0 _ zero_dev rfl rfl ?_; intro w8 hP hb _; have N8 := Lib.hid hP; have M8 := Lib.hid hb; clear hP hb)
            | (refine wp_storeV V7.out N8.out rfl rfl rfl rfl rfl ?_; intro w9 hP hS; have P9 := Lib.hid hP; have MB := Lib.hid (hS.below M8.out (Nat.le_refl _)); have X9 := Lib.hid (X7.out.keep MB.out); have R9 := Lib.hid (R7.out.keep MB.out); have C9 := Lib.hid (codL_keep C7.out MB.out); have F9 := Lib.hid (RowAt.keep F7.out MB.out); have V9 := Lib.hid (V7.out.keep MB.out); have B9 := Lib.hid (B7.out.trans (MB.out.mono B7.out.size)); clear hP hS MB N8 M8 X7 R7 C7 F7 V7 B7)
            | (refine wp_loadV _ R9.out.row R9.out.len rfl rfl rfl ?_)
            | (refine wp_loadFlt f F9.out rfl rfl rfl ?_)
            | (go_at_call 26; refine (refInject_b _ D _ f n HN.out rfl _ R9.out.dev HF.out).mono ?_; rintro e w10 ⟨v11, rfl, hV, hl2, hb⟩; have X10 := Lib.hid (X9.out.keep hb); have R10 := Lib.hid (R9.out.keep hb); have C10 := Lib.hid (codL_keep C9.out hb); have P10 := Lib.hid (RowAt.keep P9.out hb); have V10 := Lib.hid (V9.out.keep hb); have B10 := Lib.hid (B9.out.trans (hb.mono B9.out.size)); have U10 := Lib.hid hV; have L11 := Lib.hid (hl2 _ (Nat.le_refl _)); have KP := Lib.hid (And.intro P9.out.lt (And.intro X9.out.row.lt (And.intro R9.out.row.lt (codL_lt C9.out)))); have Z10 := Lib.hid hb.size; clear hb X9 R9 C9 P9 V9 B9 hV hl2)
            | (have hq := X10.out; clear hq; refine wp_newW dev0 _ zero_dev rfl rfl ?_; intro w11 hP hb _; have N11 := Lib.hid hP; have M11 := Lib.hid hb; clear hP hb)
            | (refine wp_storeV U10.out N11.out rfl rfl rfl rfl rfl ?_; intro w12 hP hS; have Q12 := Lib.hid hP; have MB := Lib.hid (hS.below M11.out (Nat.le_refl _)); have X12 := Lib.hid (X10.out.keep MB.out); have R12 := Lib.hid (R10.out.keep MB.out); have C12 := Lib.hid (codL_keep C10.out MB.out); have P12 := Lib.hid (RowAt.keep P10.out MB.out); have V12 := Lib.hid (V10.out.keep MB.out); have U12 := Lib.hid (U10.out.keep MB.out); have B12 := Lib.hid (B10.out.trans (MB.out.mono B10.out.size)); clear hP hS MB N11 M11 X10 R10 C10 P10 V10 U10 B10))
          have TT : Hid (xd < w6.heap.size ∧ xr < w6.heap.size ∧ xc < w6.heap.size) := KT
          have TU : Hid (xd < w9.heap.size ∧ xr < w9.heap.size ∧ xc < w9.heap.size) := Lib.hid ⟨KP.out.2.1, KP.out.2.2.1, KP.out.2.2.2⟩
          have KX : Hid (xd < w7.heap.size ∧ xr < w7.heap.size ∧ xd < w10.heap.size ∧ xr < w10.heap.size) := Lib.hid ⟨by have := Z7.out; have := KT.out; omega, by have := Z7.out; have := KT.out; omega, by have := Z10.out; have := KP.out; omega, by have := Z10.out; have := KP.out; omega⟩
          have VL1 := V12.out.length
          have VL2 := U12.out.length
          go_upto_if 62 with fail
          by_cases hz : n = 0
          · subst hz
            have PD : Hid (Pages 3 (injectD D f).pages) := Lib.hid (by unfold injectD; rw [if_pos HN.out]; exact PG.out)
            go_upto_region 14 with fail
            refine wp_region_held_drew (S := fun W => RowAt w7.heap.size v9 W ∧ RowAt w10.heap.size v11 W) (by kernel_rfl) ⟨RowAt.drew P12.out, RowAt.drew Q12.out⟩ (fun hHeld => ?_)
            refine wpAnyH_take (i := 0) (v := .agg v9.toArray) rfl (by kernel_rfl) (by kernel_rfl) (by kernel_rfl) (fun _ _ _ h => h) (yieldsIf_load_mid (by rfl) 27 _ rfl w7.heap.size 0 rfl v9 _ (fun W hSw => RowAt.range (hSw.1) 0 (fun j v hv => by rw [Nat.zero_add]; exact hv)) Try.underlying27 rfl (by rw [VL1]; exact info_dev)) (by assumption) ?_
            try simp only [Act.put, List.getElem_toArray, List.getElem_cons_zero, List.getElem_cons_succ, List.setIfInBounds_toArray, List.set_cons_zero, List.set_cons_succ]
            refine wpAnyH_take (i := 1) (v := .agg v11.toArray) rfl (by kernel_rfl) (by kernel_rfl) (by kernel_rfl) (fun _ _ _ h => h) (yieldsIf_load_mid (by rfl) 27 _ rfl w10.heap.size 0 rfl v11 _ (fun W hSw => RowAt.range (hSw.2) 0 (fun j v hv => by rw [Nat.zero_add]; exact hv)) Try.underlying27 rfl (by rw [VL2]; exact info_dev)) (by assumption) ?_
            try simp only [Act.put, List.getElem_toArray, List.getElem_cons_zero, List.getElem_cons_succ, List.setIfInBounds_toArray, List.set_cons_zero, List.set_cons_succ]
            refine wpAnyH_ready (rs := [2]) (by kernel_rfl) (by simp) (AllReadyH.cons rfl (fun K hK => ?_) AllReadyH.nil)
            simp only [List.getElem_toArray, List.getElem_cons_zero, List.getElem_cons_succ]
            rw [if_pos (by rfl)]
            have Xd := Lib.hid (X12.out.keep (Below.refl _ _).drew)
            have Rd := Lib.hid (R12.out.keep (Below.refl _ _).drew)
            have Cd := Lib.hid (codL_keep C12.out (Below.refl _ _).drew)
            have Bd := Lib.hid B12.out.drew
            have Vd := Lib.hid (V12.out.keep (Below.refl _ _).drew)
            have Ud := Lib.hid (U12.out.keep (Below.refl _ _).drew)
            with_reducible refine op_storeV Vd.out Xd.out.row Xd.out.len (by rfl) ?_ ?_ (fun Wa hP hS => ?_)
            · rfl
            · rfl
            have Xa := Lib.hid (var_set Xd.out Vd.out L9.out TT.out.1 (fun y hy => by have := TT.out; simp at hy; omega) hP hS)
            have Ra := Lib.hid (Rd.out.stored hS (by simp))
            have Ca := Lib.hid (codL_stored Cd.out hS KD.out.1)
            have Ba := Lib.hid (hS.below Bd.out KD.out.2.2.1)
            have Ua := Lib.hid (devV_stored Ud.out hS (off_lo L11.out TU.out.1))
            have PA := Lib.hid (hS.row hHeld.1 (fun e => by have := KX.out; omega))
            have QA := Lib.hid (hS.row hHeld.2 (fun e => by have := KX.out; omega))
            refine hK.out _ _ ⟨PA.out, QA.out⟩ (fun hH2 => ?_)
            clear hK K
            try simp only [Act.put, List.getElem_toArray, List.getElem_cons_zero, List.getElem_cons_succ, List.setIfInBounds_toArray, List.set_cons_zero, List.set_cons_succ]
            refine wpAnyH_ready (rs := [3]) (by kernel_rfl) (by simp) (AllReadyH.cons rfl (fun K hK => ?_) AllReadyH.nil)
            simp only [List.getElem_toArray, List.getElem_cons_zero, List.getElem_cons_succ]
            rw [if_pos (by rfl)]
            with_reducible refine op_storeV Ua.out Ra.out.row Ra.out.len (by rfl) ?_ ?_ (fun Wb hP2 hS2 => ?_)
            · rfl
            · rfl
            have Rb := Lib.hid (var_set Ra.out Ua.out L11.out TU.out.2.1 (fun y hy => by have := TU.out; simp at hy; omega) hP2 hS2)
            have Xb := Lib.hid (Xa.out.stored hS2 (by simp))
            have Cb := Lib.hid (codL_stored Ca.out hS2 KD.out.2.1)
            have Bb := Lib.hid (hS2.below Ba.out KD.out.2.2.2)
            refine hK.out _ _ ⟨hS2.row hH2.1 (fun e => by have := KX.out; omega), hS2.row hH2.2 (fun e => by have := KX.out; omega)⟩ (fun hH3 => ?_)
            clear hK K
            try simp only [Act.put, List.getElem_toArray, List.getElem_cons_zero, List.getElem_cons_succ, List.setIfInBounds_toArray, List.set_cons_zero, List.set_cons_succ]
            refine wpAnyH_done (by kernel_rfl) ?_ _
            go_wp2_with fail
            go_meet
            exact ⟨rfl, m4, injectD D f, v9, v11, ML4.out, PD, Xb, Rb, Cb, Bb⟩
          · have f0 : (n == 0) = false := by simpa using hz
            go_wp2_with fail
            go_meet
            exact ⟨rfl, m4, D, vd, vr, ML4.out, PG, X12, R12, C12, B12⟩
        · have f0 : (r == 0) = false := by simpa using hr
          go_wp2_with fail
          go_meet
          exact ⟨rfl, m2, D, vd, vr, ML.out, PG, X2, R2, C2, B2⟩
      case rest =>
      obtain ⟨rfl, m3, D3, vd3, vr3, hm3, PG3, X3, R3, C3, B3⟩ := hcut
      have M3 := Lib.hid hm3
      clear hm3 X2 R2 C2 B2 ML PG
      go_upto_region 16 with (first
        | (go_at_call 17; refine (nextL_any xc m3 3 _ C3.out (by decide)).mono ?_; rintro e w4 ⟨p, rfl, hr0, hr1, _, ⟨m4, hm4, _, hC⟩, hg⟩; have X4 := Lib.hid (X3.out.grown hg (fun k e => by injection e with e; subst e; simp)); have R4 := Lib.hid (R3.out.grown hg (fun k e => by injection e with e; subst e; simp)); have B4 := Lib.hid (ly.below_grown B3.out hg hwc.out); have C4 := Lib.hid hC; have ML4 := Lib.hid (Nat.lt_of_le_of_lt hm4 M3.out); clear hr0 hr1 hm4 hC hg X3 R3 C3 B3)
        | (go_at_call 18; refine (bytes_any xc _ _ C4.out).mono ?_; rintro e w6 ⟨x, rfl, hx, ⟨m6, hm6, hC⟩, hg⟩; have X6 := Lib.hid (X4.out.grown hg (fun k e => by injection e with e; subst e; simp)); have R6 := Lib.hid (R4.out.grown hg (fun k e => by injection e with e; subst e; simp)); have B6 := Lib.hid (ly.below_grown B4.out hg hwc.out); have C6 := Lib.hid hC; have ML6 := Lib.hid (Nat.lt_of_le_of_lt hm6 ML4.out); clear hx hm6 hC hg X4 R4 C4 B4))
      obtain ⟨n, hn⟩ : ∃ n, writeE D3 p x = n := ⟨_, rfl⟩
      have HN := Lib.hid hn
      have HF := Lib.hid (fits_pages PG3.out)
      clear hn
      have KT : Hid (xd < w6.heap.size ∧ xr < w6.heap.size ∧ xc < w6.heap.size) := Lib.hid ⟨X6.out.row.lt, R6.out.row.lt, codL_lt C6.out⟩
      go_upto_if 85 with (first
        | (refine wp_loadV _ X6.out.row X6.out.len rfl rfl rfl ?_)
        | (go_at_call 20; refine (write_g _ D3 p x n HN.out _ X6.out.dev HF.out).mono ?_; rintro e w7 ⟨v9, rfl, hV, hl2, hb⟩; have X7 := Lib.hid (X6.out.keep hb); have R7 := Lib.hid (R6.out.keep hb); have C7 := Lib.hid (codL_keep C6.out hb); have B7 := Lib.hid (B6.out.trans (hb.mono B6.out.size)); have V7 := Lib.hid hV; have L9 := Lib.hid (fun h => hl2 h _ (Nat.le_refl _)); have Z7 := Lib.hid hb.size; clear hb X6 R6 C6 B6 hV hl2)
        | (have hq := X7.out; clear hq; refine wp_newW dev0 _ zero_dev rfl rfl ?_; intro w8 hP hb _; have N8 := Lib.hid hP; have M8 := Lib.hid hb; clear hP hb)
        | (refine wp_storeV V7.out N8.out rfl rfl rfl rfl rfl ?_; intro w9 hP hS; have P9 := Lib.hid hP; have MB := Lib.hid (hS.below M8.out (Nat.le_refl _)); have X9 := Lib.hid (X7.out.keep MB.out); have R9 := Lib.hid (R7.out.keep MB.out); have C9 := Lib.hid (codL_keep C7.out MB.out); have V9 := Lib.hid (V7.out.keep MB.out); have B9 := Lib.hid (B7.out.trans (MB.out.mono B7.out.size)); clear hP hS MB N8 M8 X7 R7 C7 V7 B7)
        | (refine wp_loadV _ R9.out.row R9.out.len rfl rfl rfl ?_)
        | (go_at_call 21; refine (refWrite_any _ D3 p x n HN.out _ R9.out.dev HF.out).mono ?_; rintro e w10 ⟨v11, rfl, hV, hl2, hb⟩; have X10 := Lib.hid (X9.out.keep hb); have R10 := Lib.hid (R9.out.keep hb); have C10 := Lib.hid (codL_keep C9.out hb); have P10 := Lib.hid (RowAt.keep P9.out hb); have V10 := Lib.hid (V9.out.keep hb); have B10 := Lib.hid (B9.out.trans (hb.mono B9.out.size)); have U10 := Lib.hid hV; have L11 := Lib.hid (hl2 _ (Nat.le_refl _)); have KP := Lib.hid (And.intro P9.out.lt (And.intro X9.out.row.lt (And.intro R9.out.row.lt (codL_lt C9.out)))); have Z10 := Lib.hid hb.size; clear hb X9 R9 C9 P9 V9 B9 hV hl2)
        | (have hq := X10.out; clear hq; refine wp_newW dev0 _ zero_dev rfl rfl ?_; intro w11 hP hb _; have N11 := Lib.hid hP; have M11 := Lib.hid hb; clear hP hb)
        | (refine wp_storeV U10.out N11.out rfl rfl rfl rfl rfl ?_; intro w12 hP hS; have Q12 := Lib.hid hP; have MB := Lib.hid (hS.below M11.out (Nat.le_refl _)); have X12 := Lib.hid (X10.out.keep MB.out); have R12 := Lib.hid (R10.out.keep MB.out); have C12 := Lib.hid (codL_keep C10.out MB.out); have P12 := Lib.hid (RowAt.keep P10.out MB.out); have V12 := Lib.hid (V10.out.keep MB.out); have U12 := Lib.hid (U10.out.keep MB.out); have B12 := Lib.hid (B10.out.trans (MB.out.mono B10.out.size)); clear hP hS MB N11 M11 X10 R10 C10 P10 V10 U10 B10))
      have TT : Hid (xd < w6.heap.size ∧ xr < w6.heap.size ∧ xc < w6.heap.size) := KT
      have TU : Hid (xd < w9.heap.size ∧ xr < w9.heap.size ∧ xc < w9.heap.size) := Lib.hid ⟨KP.out.2.1, KP.out.2.2.1, KP.out.2.2.2⟩
      have KX : Hid (xd < w7.heap.size ∧ xr < w7.heap.size ∧ xd < w10.heap.size ∧ xr < w10.heap.size) := Lib.hid ⟨by have := Z7.out; have := KT.out; omega, by have := Z7.out; have := KT.out; omega, by have := Z10.out; have := KP.out; omega, by have := Z10.out; have := KP.out; omega⟩
      have VL1 := V12.out.length
      have VL2 := U12.out.length
      go_upto_if 87 with fail
      go_cut [3] from 36 to 113 (fun s3 wx => s3 = .pointer (some ⟨xc, 0, none⟩) ∧ ∃ (D : Dev) (vd vr : List Value), Hid (Pages 3 D.pages) ∧ Hid (VarAt xd [xr, xc] vd D wx) ∧ Hid (VarAt xr [xc, xd] vr D wx) ∧ Hid (CodL xc m6 wx) ∧ Hid (Below w.heap.size w wx))
      case first =>
        by_cases hz : n = 0
        · subst hz
          have PD : Hid (Pages 3 (writeR D3 p x).pages) := Lib.hid (by unfold writeR; rw [if_pos HN.out]; exact write_pages PG3.out HN.out)
          have LZ := Lib.hid (L9.out (by first | rfl | trivial))
          go_upto_region 21 with fail
          refine wp_region_held_drew (S := fun W => RowAt w7.heap.size v9 W ∧ RowAt w10.heap.size v11 W) (by kernel_rfl) ⟨RowAt.drew P12.out, RowAt.drew Q12.out⟩ (fun hHeld => ?_)
          refine wpAnyH_take (i := 0) (v := .agg v9.toArray) rfl (by kernel_rfl) (by kernel_rfl) (by kernel_rfl) (fun _ _ _ h => h) (yieldsIf_load_mid (by rfl) 27 _ rfl w7.heap.size 0 rfl v9 _ (fun W hSw => RowAt.range (hSw.1) 0 (fun j v hv => by rw [Nat.zero_add]; exact hv)) Try.underlying27 rfl (by rw [VL1]; exact info_dev)) (by assumption) ?_
          try simp only [Act.put, List.getElem_toArray, List.getElem_cons_zero, List.getElem_cons_succ, List.setIfInBounds_toArray, List.set_cons_zero, List.set_cons_succ]
          refine wpAnyH_take (i := 1) (v := .agg v11.toArray) rfl (by kernel_rfl) (by kernel_rfl) (by kernel_rfl) (fun _ _ _ h => h) (yieldsIf_load_mid (by rfl) 27 _ rfl w10.heap.size 0 rfl v11 _ (fun W hSw => RowAt.range (hSw.2) 0 (fun j v hv => by rw [Nat.zero_add]; exact hv)) Try.underlying27 rfl (by rw [VL2]; exact info_dev)) (by assumption) ?_
          try simp only [Act.put, List.getElem_toArray, List.getElem_cons_zero, List.getElem_cons_succ, List.setIfInBounds_toArray, List.set_cons_zero, List.set_cons_succ]
          refine wpAnyH_ready (rs := [2]) (by kernel_rfl) (by simp) (AllReadyH.cons rfl (fun K hK => ?_) AllReadyH.nil)
          simp only [List.getElem_toArray, List.getElem_cons_zero, List.getElem_cons_succ]
          rw [if_pos (by rfl)]
          have Xd := Lib.hid (X12.out.keep (Below.refl _ _).drew)
          have Rd := Lib.hid (R12.out.keep (Below.refl _ _).drew)
          have Cd := Lib.hid (codL_keep C12.out (Below.refl _ _).drew)
          have Bd := Lib.hid B12.out.drew
          have Vd := Lib.hid (V12.out.keep (Below.refl _ _).drew)
          have Ud := Lib.hid (U12.out.keep (Below.refl _ _).drew)
          with_reducible refine op_storeV Vd.out Xd.out.row Xd.out.len (by rfl) ?_ ?_ (fun Wa hP hS => ?_)
          · rfl
          · rfl
          have Xa := Lib.hid (var_set Xd.out Vd.out LZ.out TT.out.1 (fun y hy => by have := TT.out; simp at hy; omega) hP hS)
          have Ra := Lib.hid (Rd.out.stored hS (by simp))
          have Ca := Lib.hid (codL_stored Cd.out hS KD.out.1)
          have Ba := Lib.hid (hS.below Bd.out KD.out.2.2.1)
          have Ua := Lib.hid (devV_stored Ud.out hS (off_lo L11.out TU.out.1))
          have PA := Lib.hid (hS.row hHeld.1 (fun e => by have := KX.out; omega))
          have QA := Lib.hid (hS.row hHeld.2 (fun e => by have := KX.out; omega))
          refine hK.out _ _ ⟨PA.out, QA.out⟩ (fun hH2 => ?_)
          clear hK K
          try simp only [Act.put, List.getElem_toArray, List.getElem_cons_zero, List.getElem_cons_succ, List.setIfInBounds_toArray, List.set_cons_zero, List.set_cons_succ]
          refine wpAnyH_ready (rs := [3]) (by kernel_rfl) (by simp) (AllReadyH.cons rfl (fun K hK => ?_) AllReadyH.nil)
          simp only [List.getElem_toArray, List.getElem_cons_zero, List.getElem_cons_succ]
          rw [if_pos (by rfl)]
          with_reducible refine op_storeV Ua.out Ra.out.row Ra.out.len (by rfl) ?_ ?_ (fun Wb hP2 hS2 => ?_)
          · rfl
          · rfl
          have Rb := Lib.hid (var_set Ra.out Ua.out L11.out TU.out.2.1 (fun y hy => by have := TU.out; simp at hy; omega) hP2 hS2)
          have Xb := Lib.hid (Xa.out.stored hS2 (by simp))
          have Cb := Lib.hid (codL_stored Ca.out hS2 KD.out.2.1)
          have Bb := Lib.hid (hS2.below Ba.out KD.out.2.2.2)
          refine hK.out _ _ ⟨hS2.row hH2.1 (fun e => by have := KX.out; omega), hS2.row hH2.2 (fun e => by have := KX.out; omega)⟩ (fun hH3 => ?_)
          clear hK K
          try simp only [Act.put, List.getElem_toArray, List.getElem_cons_zero, List.getElem_cons_succ, List.setIfInBounds_toArray, List.set_cons_zero, List.set_cons_succ]
          refine wpAnyH_done (by kernel_rfl) ?_ _
          go_wp2_with fail
          go_meet
          exact ⟨rfl, writeR D3 p x, v9, v11, PD, Xb, Rb, Cb, Bb⟩
        · have f0 : (n == 0) = false := by simpa using hz
          go_wp2_with fail
          go_meet
          exact ⟨rfl, D3, vd3, vr3, PG3, X12, R12, C12, B12⟩
      case rest =>
      obtain ⟨rfl, D4, vd4, vr4, PG4, Y, S, C, B⟩ := hcut
      clear X12 R12 C12 B12 V12 U12 P12 Q12 L9 L11 KP TT TU KX KT Z7 Z10 HN HF VL1 VL2
      have HF := Lib.hid (fits_pages PG4.out)
      go_wp2_with fail
      go_loopw [19, 20, 21, 22, 23] (fun s19 _ _ _ _ wz => ∃ (z : Nat), z ≤ 3 ∧ s19 = .int .i64 (z : Int) ∧ Hid (VarAt xd [xr, xc] vd4 D4 wz) ∧ Hid (VarAt xr [xc, xd] vr4 D4 wz) ∧ Hid (CodL xc m6 wz) ∧ Hid (Below w.heap.size w wz)) (fun s19 _ _ _ _ _ => 3 - (intOf s19).toNat)
      case atStart => exact ⟨0, by omega, rfl, Y, S, C, B⟩
      case round =>
        clear Y S C B
        obtain ⟨z, hz, rfl, Y, S, C, B⟩ := hrel
        by_cases hz3 : z < 3
        · have z0 : (0 : Int) ≤ (z : Int) := by omega
          have z1 : (z : Int) < 3 := by omega
          obtain ⟨ne, hne⟩ : ∃ ne, readE D4 (z : Int) = ne := ⟨_, rfl⟩
          obtain ⟨t, ht⟩ : ∃ t, readS D4 (z : Int) = t := ⟨_, rfl⟩
          have HNE := Lib.hid hne
          have HT := Lib.hid ht
          clear hne ht
          go_wp2_with (first
            | (refine wp_loadV _ Y.out.row Y.out.len rfl rfl rfl ?_)
            | (go_at_call 31; refine (read_b _ _ (z : Int) t ne HNE.out HT.out _ Y.out.dev HF.out).mono ?_; rintro e z1 ⟨rfl, hb⟩; have Y1 := Lib.hid (Y.out.keep hb); have S1 := Lib.hid (S.out.keep hb); have C1 := Lib.hid (codL_keep C.out hb); have B1 := Lib.hid (B.out.trans (hb.mono B.out.size)); clear hb Y S C B)
            | (refine wp_loadV _ S1.out.row S1.out.len rfl rfl rfl ?_)
            | (go_at_call 32; refine (refRead_b _ _ (z : Int) t ne HNE.out HT.out _ S1.out.dev HF.out).mono ?_; rintro e z2 ⟨rfl, hb⟩; have Y2 := Lib.hid (Y1.out.keep hb); have S2 := Lib.hid (S1.out.keep hb); have C2 := Lib.hid (codL_keep C1.out hb); have B2 := Lib.hid (B1.out.trans (hb.mono B1.out.size)); clear hb Y1 S1 C1 B1))
          go_roundw
          case measure => simp [intOf]; omega
          case rel => exact ⟨z + 1, by omega, by go_num, Y2, S2, C2, B2⟩
        · have hz4 : ¬ (z : Int) < 3 := by omega
          go_wp2_with fail
          go_roundw
          case measure => rw [hlf, ly.leftOf_is C.out]; exact ML6.out
          case rel => first | exact ⟨m6, D4, vd4, vr4, PG4, Y, S, C, B⟩ | ((repeat apply Exists.intro); exact ⟨⟨m6, D4, vd4, vr4, PG4, Y, S, C, B⟩, rfl⟩)
    · obtain rfl : m = 0 := by omega
      go_wp2_with (go_at_call 33; refine (left_any xc 0 _ C.out).mono ?_; rintro e w1 ⟨rfl, hb⟩; have B1 := Lib.hid (B.out.trans (hb.mono B.out.size)); clear hb R X C B)
      go_ret
      exact ⟨rfl, B1.out⟩
end Go.Proofs.Ytikpchhhenonaaa.nk
