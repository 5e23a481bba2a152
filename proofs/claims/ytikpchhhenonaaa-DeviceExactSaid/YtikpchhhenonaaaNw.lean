/- DeviceExact: the walk. -/
import Derived.Test.YtikpchhhenonaaaNv
import Derived.Test.YtikpchhhenonaaaNk
import Derived.Deep.CutBlock
namespace Go.Proofs.Ytikpchhhenonaaa.nw
open Go.ChangeShapes Go.WideShapes Go.ChangeAt Go.RowKit Go.Proofs.Ytikpchhhenonaaa.cx Go.Proofs.Ytikpchhhenonaaa.ra Go.Proofs.Ytikpchhhenonaaa.la Go.Proofs.Ytikpchhhenonaaa.lb Go.Proofs.Ytikpchhhenonaaa.lc Go.Proofs.Ytikpchhhenonaaa.ld Go.Proofs.Ytikpchhhenonaaa.le Go.Proofs.Ytikpchhhenonaaa.lf Go.Proofs.Ytikpchhhenonaaa.lg Go.Proofs.Ytikpchhhenonaaa.lh Go.Proofs.Ytikpchhhenonaaa.li Go.Proofs.Ytikpchhhenonaaa.lj Go.Proofs.Ytikpchhhenonaaa.lk Go.Proofs.Ytikpchhhenonaaa.ll Go.Proofs.Ytikpchhhenonaaa.lm Go.Proofs.Ytikpchhhenonaaa.ln Go.Proofs.Ytikpchhhenonaaa.lo Go.Proofs.Ytikpchhhenonaaa.lp Go.Proofs.Ytikpchhhenonaaa.lq Go.Proofs.Ytikpchhhenonaaa.lr Go.Proofs.Ytikpchhhenonaaa.ls Go.Proofs.Ytikpchhhenonaaa.lt Go.Proofs.Ytikpchhhenonaaa.lu Go.Proofs.Ytikpchhhenonaaa.lv Go.Proofs.Ytikpchhhenonaaa.lw Go.Proofs.Ytikpchhhenonaaa.lx Go.Proofs.Ytikpchhhenonaaa.ly Go.Proofs.Ytikpchhhenonaaa.na Go.Proofs.Ytikpchhhenonaaa.nc Go.Proofs.Ytikpchhhenonaaa.nd Go.Proofs.Ytikpchhhenonaaa.ne Go.Proofs.Ytikpchhhenonaaa.nf Go.Proofs.Ytikpchhhenonaaa.ng Go.Proofs.Ytikpchhhenonaaa.nj Go.Proofs.Ytikpchhhenonaaa.nk Go.Proofs.Ytikpchhhenonaaa.nq Go.Proofs.Ytikpchhhenonaaa.nr Go.Proofs.Ytikpchhhenonaaa.no Go.Proofs.Ytikpchhhenonaaa.nb Go.Proofs.Ytikpchhhenonaaa.ns Go.Proofs.Ytikpchhhenonaaa.nv
set_option linter.unusedSimpArgs false
theorem small_b (vs : List Value) (d : Dev) (b : Bool) (hb : smallD d = b) (w : World) (h : DevV vs d w) :
    Calls Try.prog 10 #[.agg vs.toArray] w fun e w' => e = .returned (.bool b) ∧ Below w.heap.size w w' := by
  rw [← hb]; exact small_any vs d w h
theorem tear_b (vs : List Value) (d : Dev) (page : Int) (s : ByteArray) (cut n : Int) (hn : tearE d page s cut = n) (w : World) (h : DevV vs d w) (hf : FitsD d) :
    Calls Try.prog 27 #[.agg vs.toArray, .int .i64 page, .string s, .int .i64 cut] w fun e w' => ∃ vs', e = .returned (.tuple #[.agg vs'.toArray, .int .i64 n]) ∧ DevV vs' (tearD d page s cut) w' ∧ (∀ b, b ≤ w.heap.size → Lo b vs') ∧ Below w.heap.size w w' := by
  rw [← hn]; exact tear_any vs d page s cut w h hf
theorem small_pages {d : Dev} (h : smallD d = true) : d.pages.length ≤ 70 := (of_decide_eq_true h).1
set_option maxHeartbeats 16000000 in
set_option maxRecDepth 4000 in
theorem exact_walk (so : Option Addr) (len cap : Nat) (vs : List Value) (D : Dev) (pages cut : Int) (f : Flt) (w : World) (h : DevV vs D w) (hf : FitsD D) (hin : BytesIn so len w) (hl : len ≤ 9223372036854775807) (hc : len ≤ cap) :
    Calls Try.prog 3 #[.slice so len cap, .agg vs.toArray, .int .i64 pages, .int .i64 cut, .agg f.arr] w fun e w' => e = .returned (.bool true) ∧ Below w.heap.size w w' := by
  have DV := Lib.hid h
  have HFF := Lib.hid hf
  have HIN := Lib.hid hin
  obtain ⟨n, hn⟩ : ∃ n, newE pages = n := ⟨_, rfl⟩
  have HN := Lib.hid hn
  have hvl := h.length
  have HVL := Lib.hid hvl
  clear h hf hin hn hvl
  go_enter Try.func3, Try.ntmps3
  go_upto_region 1 with (first
    | (refine wp_boxW vs 27 rfl rfl rfl ?_; intro w1 hP hb _; have R1 := Lib.hid hP; have B1 := Lib.hid hb; clear hP hb)
    | (refine wp_boxW f.vals 29 rfl rfl rfl ?_; intro w2 hP hb _; have F2 := Lib.hid hP; have R2 := Lib.hid (RowAt.keep R1.out hb); have B2 := Lib.hid (B1.out.trans (hb.mono B1.out.size)); clear hP hb))
  have X2 : Hid (VarAt w.heap.size [] vs D w2) := Lib.hid ⟨R2.out, DV.out.keep B2.out, off_new DV.out (Nat.le_refl _), fun y hy => by simp at hy⟩
  clear R1 R2 B1
  generalize w1.heap.size = xf at *
  cases hs : smallD D
  · have HS := Lib.hid hs
    clear hs
    go_wp2_with (first
      | (go_at_call 9; refine (awake_any _).mono ?_; rintro e w3 ⟨rfl, hb⟩; have X3 := Lib.hid (X2.out.keep hb); have B3 := Lib.hid (B2.out.trans (hb.mono B2.out.size)); clear hb X2 F2 B2)
      | (refine wp_loadV _ X3.out.row X3.out.len rfl rfl rfl ?_)
      | (go_at_call 10; refine (small_b _ D false HS.out _ X3.out.dev).mono ?_; rintro e w4 ⟨rfl, hb⟩; have X4 := Lib.hid (X3.out.keep hb); have B4 := Lib.hid (B3.out.trans (hb.mono B3.out.size)); clear hb X3 B3)
      | (refine wp_loadV _ X4.out.row X4.out.len rfl rfl rfl ?_)
      | (go_at_call 10; refine (small_b _ D false HS.out _ X4.out.dev).mono ?_; rintro e w5 ⟨rfl, hb⟩; have B5 := Lib.hid (B4.out.trans (hb.mono B4.out.size)); clear hb X4 B4))
    go_ret
    exact ⟨rfl, B5.out⟩
  have HS := Lib.hid hs
  have HFB : Hid (FitB D) := Lib.hid ⟨HFF.out, by have := small_pages hs; omega⟩
  clear hs
  go_upto_region 9 with (first
    | (go_at_call 9; refine (awake_any _).mono ?_; rintro e w3 ⟨rfl, hb⟩; have X3 := Lib.hid (X2.out.keep hb); have F3 := Lib.hid (RowAt.keep F2.out hb); have B3 := Lib.hid (B2.out.trans (hb.mono B2.out.size)); clear hb X2 F2 B2)
    | (refine wp_loadV _ X3.out.row X3.out.len rfl rfl rfl ?_)
    | (go_at_call 10; refine (small_b _ D true HS.out _ X3.out.dev).mono ?_; rintro e w4 ⟨rfl, hb⟩; have X4 := Lib.hid (X3.out.keep hb); have F4 := Lib.hid (RowAt.keep F3.out hb); have B4 := Lib.hid (B3.out.trans (hb.mono B3.out.size)); clear hb X3 F3 B3)
    | (go_at_call 11; (refine (new_most 300 300 rfl so len cap _ (bytesIn_below HIN.out B4.out) hl hc (by decide)).mono ?_; rintro e w5 ⟨rfl, hC, hb, hz⟩; obtain ⟨m0, hC2⟩ := codL_new hC; have C5 := Lib.hid hC2; have X5 := Lib.hid ((varAt_more X4.out (Nat.le_refl _)).keep hb); have F5 := Lib.hid (RowAt.keep F4.out hb); have B5 := Lib.hid (B4.out.trans (hb.mono B4.out.size)); have K5 : Hid (w.heap.size ≤ w4.heap.size ∧ xf < w4.heap.size ∧ w4.heap.size < w5.heap.size ∧ w.heap.size < w4.heap.size) := Lib.hid ⟨B4.out.size, F4.out.lt, codL_lt hC2, X4.out.row.lt⟩; clear hC hC2 hb hz X4 F4 B4))
    | (go_at_call 12; refine (device_any w4.heap.size _ _ C5.out).mono ?_; rintro e w6 ⟨vd, Dd, rfl, hV, hI, hL, ⟨m6, hC⟩, hg⟩; have V6 := Lib.hid hV; have I6 := Lib.hid hI; have L6 := Lib.hid hL; have X6 := Lib.hid (X5.out.grown hg (fun k e => by injection e with e; subst e; simp)); have F6 := Lib.hid (F5.out.grown hg (fun e => by injection e with e; have := K5.out; omega)); have C6 := Lib.hid hC; have B6 := Lib.hid (below_grown B5.out hg K5.out.1); have K6 := Lib.hid hg.size; clear hV hI hL hC hg X5 F5 C5 B5)
    | (have hq := V6.out; clear hq; refine wp_newW dev0 _ zero_dev rfl rfl ?_; intro w7 hP hb _; have N7 := Lib.hid hP; have M7 := Lib.hid hb; clear hP hb)
    | (refine wp_storeV V6.out N7.out rfl rfl rfl rfl rfl ?_; intro w8 hP hS; have Z8 : Hid (VarAt w6.heap.size [w4.heap.size] vd Dd w8) := Lib.hid (var_new V6.out M7.out hP hS (fun y h => by (obtain rfl : y = w4.heap.size := by simpa using h); exact ⟨by have := K5.out; have := K6.out; omega, off_lo L6.out K5.out.2.2.1⟩)); have MB := Lib.hid (hS.below M7.out (Nat.le_refl _)); have X8 := Lib.hid (X6.out.keep MB.out); have F8 := Lib.hid (RowAt.keep F6.out MB.out); have C8 := Lib.hid (codL_keep C6.out MB.out); have B8 := Lib.hid (B6.out.trans ((MB.out).mono B6.out.size)); clear hP hS MB N7 M7 V6 L6 X6 F6 C6 B6)
    | (go_at_call 13; refine (new_b pages n (newD pages) HN.out rfl _).mono ?_; rintro e w9 ⟨va, rfl, hV, _, hb⟩; have V9 := Lib.hid hV; have X9 := Lib.hid (X8.out.keep hb); have Z9 := Lib.hid (Z8.out.keep hb); have F9 := Lib.hid (RowAt.keep F8.out hb); have C9 := Lib.hid (codL_keep C8.out hb); have B9 := Lib.hid (B8.out.trans ((hb).mono B8.out.size)); clear hV hb X8 Z8 F8 C8 B8)
    | (have hq := V9.out; clear hq; refine wp_newW dev0 _ zero_dev rfl rfl ?_; intro w10 hP hb _; have N10 := Lib.hid hP; have M10 := Lib.hid hb; clear hP hb)
    | (refine wp_storeV V9.out N10.out rfl rfl rfl rfl rfl ?_; intro w11 hP hS; have P11 := Lib.hid hP; have MB := Lib.hid (hS.below M10.out (Nat.le_refl _)); have X11 := Lib.hid (X9.out.keep MB.out); have Z11 := Lib.hid (Z9.out.keep MB.out); have F11 := Lib.hid (RowAt.keep F9.out MB.out); have C11 := Lib.hid (codL_keep C9.out MB.out); have B11 := Lib.hid (B9.out.trans ((MB.out).mono B9.out.size)); have V11 := Lib.hid (V9.out.keep MB.out); clear hP hS MB N10 M10 V9 X9 Z9 F9 C9 B9)
    | (go_at_call 14; refine (refNew_b pages n (newD pages) HN.out rfl _).mono ?_; rintro e w12 ⟨vb, rfl, hV, _, hb⟩; have U12 := Lib.hid hV; have X12 := Lib.hid (X11.out.keep hb); have Z12 := Lib.hid (Z11.out.keep hb); have F12 := Lib.hid (RowAt.keep F11.out hb); have C12 := Lib.hid (codL_keep C11.out hb); have B12 := Lib.hid (B11.out.trans ((hb).mono B11.out.size)); have V12 := Lib.hid (V11.out.keep hb); have P12 := Lib.hid (RowAt.keep P11.out hb); clear hV hb X11 Z11 F11 C11 B11 V11 P11)
    | (have hq := U12.out; clear hq; refine wp_newW dev0 _ zero_dev rfl rfl ?_; intro w13 hP hb _; have N13 := Lib.hid hP; have M13 := Lib.hid hb; clear hP hb)
    | (refine wp_storeV U12.out N13.out rfl rfl rfl rfl rfl ?_; intro w14 hP hS; have Q14 := Lib.hid hP; have MB := Lib.hid (hS.below M13.out (Nat.le_refl _)); have X14 := Lib.hid (X12.out.keep MB.out); have Z14 := Lib.hid (Z12.out.keep MB.out); have F14 := Lib.hid (RowAt.keep F12.out MB.out); have C14 := Lib.hid (codL_keep C12.out MB.out); have B14 := Lib.hid (B12.out.trans ((MB.out).mono B12.out.size)); have V14 := Lib.hid (V12.out.keep MB.out); have U14 := Lib.hid (U12.out.keep MB.out); have P14 := Lib.hid (RowAt.keep P12.out MB.out); clear hP hS MB N13 M13 X12 Z12 F12 C12 B12 V12 U12 P12)
    | (refine wp_loadV _ P14.out V14.out.length rfl rfl rfl ?_)
    | (refine wp_loadV _ Q14.out U14.out.length rfl rfl rfl ?_)
    | (go_at_call 15; refine (refSame_any _ _ (newD pages) _ V14.out U14.out).mono ?_; rintro e w15 ⟨rfl, hb⟩; have X15 := Lib.hid (X14.out.keep hb); have Z15 := Lib.hid (Z14.out.keep hb); have F15 := Lib.hid (RowAt.keep F14.out hb); have C15 := Lib.hid (codL_keep C14.out hb); have B15 := Lib.hid (B14.out.trans ((hb).mono B14.out.size)); clear hb X14 Z14 F14 C14 B14 V14 U14 P14 Q14))
  have KK : Hid (xf < w4.heap.size ∧ w4.heap.size < w6.heap.size ∧ w.heap.size < w4.heap.size) := Lib.hid ⟨K5.out.2.1, Nat.lt_of_lt_of_le K5.out.2.2.1 K6.out, K5.out.2.2.2⟩
  clear K5 K6 HIN DV HS HFF HN
  generalize w4.heap.size = xc at *
  generalize w6.heap.size = xd at *
  have VL1 := HVL
  have VL2 := Lib.hid Z15.out.len
  go_cut [71, 72, 73] from 66 to 73 (fun s71 s72 s73 wx => ∃ (xt m : Nat) (vo : List Value) (Do : Dev), s71 = .slice (some ⟨xt, 0, none⟩) 3 3 ∧ s72 = .int .i64 3 ∧ s73 = .int .i64 0 ∧ w.heap.size ≤ xt ∧ xf ≠ xt ∧ Trio xt xc vs vd vo D Dd Do wx ∧ RowAt xf f.vals wx ∧ CodL xc m wx ∧ Below w.heap.size w wx)
  case first =>
    refine wp_region_held_drew (S := fun W => RowAt w.heap.size vs W ∧ RowAt xd vd W) (by kernel_rfl) ⟨X15.out.row.drew, Z15.out.row.drew⟩ (fun hHeld => ?_)
    have Xd := Lib.hid (X15.out.keep (Below.refl _ _).drew)
    have Zd := Lib.hid (Z15.out.keep (Below.refl _ _).drew)
    have Cd := Lib.hid (codL_keep C15.out (Below.refl _ _).drew)
    have Bd := Lib.hid B15.out.drew
    have Fd := Lib.hid (RowAt.drew F15.out)
    refine wpAnyH_take (i := 0) (v := .agg (vs).toArray) rfl (by kernel_rfl) (by kernel_rfl) (by kernel_rfl) (fun _ _ _ h => h) (yieldsIf_load_mid (by rfl) 27 _ rfl w.heap.size 0 rfl (vs) _ (fun W hSw => RowAt.range (hSw.1) 0 (fun j v hv => by rw [Nat.zero_add]; exact hv)) Try.underlying27 rfl (by rw [VL1.out]; exact info_dev)) (by assumption) ?_
    try simp only [Act.put, List.getElem_toArray, List.getElem_cons_zero, List.getElem_cons_succ, List.setIfInBounds_toArray, List.set_cons_zero, List.set_cons_succ]
    refine wpAnyH_take (i := 1) (v := .agg (vd).toArray) rfl (by kernel_rfl) (by kernel_rfl) (by kernel_rfl) (fun _ _ _ h => h) (yieldsIf_load_mid (by rfl) 27 _ rfl xd 0 rfl (vd) _ (fun W hSw => RowAt.range (hSw.2) 0 (fun j v hv => by rw [Nat.zero_add]; exact hv)) Try.underlying27 rfl (by rw [VL2.out]; exact info_dev)) (by assumption) ?_
    try simp only [Act.put, List.getElem_toArray, List.getElem_cons_zero, List.getElem_cons_succ, List.setIfInBounds_toArray, List.set_cons_zero, List.set_cons_succ]
    refine wpAnyH_take (i := 2) (v := ?_) rfl (by kernel_rfl) (by kernel_rfl) (by kernel_rfl) (fun _ _ _ h => h) (Or.inl ⟨by rfl, ?_⟩) (by assumption) ?_
    rotate_left
    · (intro W hSW; go_simp; try with_reducible rfl)
    try simp only [Act.put, List.getElem_toArray, List.getElem_cons_zero, List.getElem_cons_succ, List.setIfInBounds_toArray, List.set_cons_zero, List.set_cons_succ]
    refine wpAnyH_take (i := 3) (v := .agg (vd).toArray) rfl (by kernel_rfl) (by kernel_rfl) (by kernel_rfl) (fun _ _ _ h => h) (yieldsIf_load_mid (by rfl) 27 _ rfl xd 0 rfl (vd) _ (fun W hSw => RowAt.range (hSw.2) 0 (fun j v hv => by rw [Nat.zero_add]; exact hv)) Try.underlying27 rfl (by rw [VL2.out]; exact info_dev)) (by assumption) ?_
    try simp only [Act.put, List.getElem_toArray, List.getElem_cons_zero, List.getElem_cons_succ, List.setIfInBounds_toArray, List.set_cons_zero, List.set_cons_succ]
    refine wpAnyH_take (i := 7) (v := ?_) rfl (by kernel_rfl) (by kernel_rfl) (by kernel_rfl) (fun _ _ _ h => h) (Or.inl ⟨by rfl, ?_⟩) (by assumption) ?_
    rotate_left
    · (intro W hSW; go_simp; try with_reducible rfl)
    try simp only [Act.put, List.getElem_toArray, List.getElem_cons_zero, List.getElem_cons_succ, List.setIfInBounds_toArray, List.set_cons_zero, List.set_cons_succ]
    refine wpAnyH_ready (rs := [4]) (by kernel_rfl) (by simp) (AllReadyH.cons rfl (fun K hK => ?_) AllReadyH.nil)
    go_simp
    go_wp2_with (go_at_call 16; (with_reducible refine (odd_any xc _ vd Dd _ Cd.out Zd.out.dev I6.out).mono ?_); rintro e W1 ⟨vo, Do, rfl, hV, hF, hBnd, hL, ⟨m1, hC⟩, hg⟩)
    have KL := Lib.hid (codL_lt Cd.out)
    have Xe := Lib.hid (Xd.out.grown hg (fun k e => by injection e with e; subst e; simp))
    have Ze := Lib.hid (Zd.out.grown hg (fun k e => by injection e with e; subst e; simp))
    have Ce := Lib.hid hC
    have Be := Lib.hid (below_grown Bd.out hg (Nat.le_of_lt KK.out.2.2))
    have Fe := Lib.hid (Fd.out.grown hg (fun e => by injection e with e; have := KK.out; omega))
    have Ve := Lib.hid hV
    have Oe : Hid (FitB Do) := Lib.hid ⟨hF, hBnd⟩
    have Le := Lib.hid (off_lo hL KL.out)
    clear hV hF hBnd hL hC Xd Zd Cd Bd Fd
    refine hK.out _ _ (⟨Xe.out.row, Ze.out.row⟩) (fun hH2 => ?_)
    clear hK K
    try simp only [Act.put, List.getElem_toArray, List.getElem_cons_zero, List.getElem_cons_succ, List.setIfInBounds_toArray, List.set_cons_zero, List.set_cons_succ]
    refine wpAnyH_ready (rs := [5]) (by kernel_rfl) (by simp) (AllReadyH.cons rfl (fun K hK => ?_) AllReadyH.nil)
    simp only [List.getElem_toArray, List.getElem_cons_zero, List.getElem_cons_succ]
    rw [if_pos (by rfl)]
    with_reducible refine op_buildD vs vd vo VL1.out VL2.out Ve.out.length (by rfl) ?_ ?_ ?_ (fun Wb hP hb _ => ?_)
    · rfl
    · rfl
    · rfl
    have Ff := Lib.hid (RowAt.keep Fe.out hb)
    have Cf := Lib.hid (codL_keep Ce.out hb)
    have Bf := Lib.hid (Be.out.trans (hb.mono Be.out.size))
    have KT := Lib.hid (And.intro Be.out.size (And.intro Fe.out.lt (codL_lt Ce.out)))
    have TR : Hid (Trio W1.heap.size xc vs vd vo D Dd Do Wb) := Lib.hid ⟨hP, ⟨Xe.out.dev.keep hb, Ze.out.dev.keep hb, Ve.out.keep hb⟩, ⟨HFB.out, fitB ⟨I6.out.fits, I6.out.pages.2⟩, Oe.out⟩, ⟨(Xe.out.offs xc (by simp)).2, (Ze.out.offs xc (by simp)).2, Le.out⟩, by have := KT.out.2.2; omega⟩
    refine hK.out _ _ (⟨Xe.out.row.keep hb, Ze.out.row.keep hb⟩) (fun hH3 => ?_)
    clear hK K
    try simp only [Act.put, List.getElem_toArray, List.getElem_cons_zero, List.getElem_cons_succ, List.setIfInBounds_toArray, List.set_cons_zero, List.set_cons_succ]
    refine wpAnyH_take (i := 6) (v := ?_) rfl (by kernel_rfl) (by kernel_rfl) (by kernel_rfl) (fun _ _ _ h => h) (Or.inl ⟨by rfl, ?_⟩) (by assumption) ?_
    rotate_left
    · (intro W hSW; go_simp; try with_reducible rfl)
    try simp only [Act.put, List.getElem_toArray, List.getElem_cons_zero, List.getElem_cons_succ, List.setIfInBounds_toArray, List.set_cons_zero, List.set_cons_succ]
    refine wpAnyH_done (by kernel_rfl) ?_ _
    go_wp2_with fail
    go_meet
    exact ⟨_, _, _, _, rfl, rfl, rfl, KT.out.1, Nat.ne_of_lt KT.out.2.1, TR.out, Ff.out, Cf.out, Bf.out⟩
  case rest =>
  obtain ⟨xt, m1, vo, Do, rfl, rfl, rfl, hxt, hne, hT, hF, hC, hB⟩ := hcut
  have TR := Lib.hid hT
  have FR := Lib.hid hF
  have CR := Lib.hid hC
  have BR := Lib.hid hB
  have KX := Lib.hid (And.intro hxt hne)
  clear hxt hne hT hF hC hB X15 Z15 F15 C15 B15 I6 VL1 VL2 HVL HFB
  go_wp2_with fail
  go_loopw [73] (fun s73 wr => ∃ (j m : Nat), j ≤ 3 ∧ s73 = .int .i64 (j : Int) ∧ Hid (Trio xt xc vs vd vo D Dd Do wr) ∧ Hid (RowAt xf f.vals wr) ∧ Hid (CodL xc m wr) ∧ Hid (Below w.heap.size w wr)) (fun s73 _ => 3 - (intOf s73).toNat)
  case atStart => exact ⟨0, m1, by omega, rfl, TR, FR, CR, BR⟩
  case round =>
    clear TR FR CR BR
    obtain ⟨j, m, hj, rfl, TR, FR, CR, BR⟩ := hrel
    obtain ⟨wo, hwo⟩ : ∃ wo : World, wo = wr := ⟨_, rfl⟩
    subst hwo
    by_cases hj3 : j < 3
    rotate_left
    · have q1 : ¬ (j : Int) < 3 := by omega
      go_wp2_with fail
      go_ret
      exact ⟨rfl, BR.out⟩
    have q0 : (0 : Int) ≤ (j : Int) := by omega
    have q1 : (j : Int) < 3 := by omega
    obtain ⟨vx, Dx, hlx, hcell, hVX, hFX, hOX⟩ := TR.out.nth hj3
    have HC := Lib.hid hcell
    have VX := Lib.hid hVX
    have LX := Lib.hid hlx
    have HF := Lib.hid hFX.1
    have HPL : Hid ((Dx.pages.length : Int) ≤ 1000000) := Lib.hid (by have := hFX.2; omega)
    have OX := Lib.hid hOX
    have KW : Hid (xc < wo.heap.size ∧ xf < wo.heap.size ∧ xt < wo.heap.size) := Lib.hid ⟨codL_lt CR.out, FR.out.lt, TR.out.row.lt⟩
    clear hlx hcell hVX hFX hOX
    go_upto_if 84 with (first
      | (refine wp_loadVAt vx (j * 5) HC.out LX.out rfl rfl rfl ?_)
      | (have hq := VX.out; clear hq; refine wp_newW dev0 _ zero_dev rfl rfl ?_; intro w1 hP hb _; have N1 := Lib.hid hP; have M1 := Lib.hid hb; clear hP hb)
      | (refine wp_storeV VX.out N1.out rfl rfl rfl rfl rfl ?_; intro w2 hP hS; have X2 : Hid (VarAt wo.heap.size [xc] vx Dx w2) := Lib.hid (var_new VX.out M1.out hP hS (fun y h => by (obtain rfl : y = xc := by simpa using h); exact ⟨KW.out.1, OX.out⟩)); have MB := Lib.hid (hS.below M1.out (Nat.le_refl _)); have C2 := Lib.hid (codL_keep CR.out MB.out); have G2 := Lib.hid (grownBy_below (grownBy_refl wo (some xc)) MB.out); clear hP hS MB N1 M1 VX HC OX)
      | (go_at_call 17; refine (nextL_any xc m 6 _ C2.out (by decide)).mono ?_; rintro e w3 ⟨r1, rfl, hr0, hr1, _, ⟨m3, _, _, hC⟩, hg⟩; have hr6 := hr1 (by decide); have X3 := Lib.hid (X2.out.grown hg (fun k e => by injection e with e; subst e; simp)); have G3 := Lib.hid (grownBy_trans G2.out hg); have C3 := Lib.hid hC; clear hr1 hC hg X2 C2 G2)
      | (go_at_call 18; refine (bytes_any xc _ _ C3.out).mono ?_; rintro e w4 ⟨s0, rfl, hx, ⟨m4, _, hC⟩, hg⟩; have X4 := Lib.hid (X3.out.grown hg (fun k e => by injection e with e; subst e; simp)); have G4 := Lib.hid (grownBy_trans G3.out hg); have C4 := Lib.hid hC; clear hx hC hg X3 C3 G3)
      | (go_at_call 17; refine (nextL_any xc m4 8 _ C4.out (by decide)).mono ?_; rintro e w5 ⟨r2, rfl, _, _, _, ⟨m5, _, _, hC⟩, hg⟩; have X5 := Lib.hid (X4.out.grown hg (fun k e => by injection e with e; subst e; simp)); have G5 := Lib.hid (grownBy_trans G4.out hg); have C5 := Lib.hid hC; clear hC hg X4 C4 G4))
    go_cut [19, 20] from 77 to 86 (fun s19 s20 wx => ∃ (p : Int) (s : ByteArray) (m' : Nat), s19 = .int .i64 p ∧ s20 = .string s ∧ VarAt wo.heap.size [xc] vx Dx wx ∧ CodL xc m' wx ∧ wo.grownBy wx (some xc))
    case first =>
      by_cases hr : r2 = 0
      · subst hr
        go_wp2_with (go_at_call 19; refine (data_any xc _ _ C5.out).mono ?_; rintro e w6 ⟨s1, rfl, hx, ⟨m6, _, hC⟩, hg⟩; have X6 := Lib.hid (X5.out.grown hg (fun k e => by injection e with e; subst e; simp)); have G6 := Lib.hid (grownBy_trans G5.out hg); have C6 := Lib.hid hC; clear hx hC hg X5 C5 G5)
        go_meet
        exact ⟨_, _, _, rfl, rfl, X6.out, C6.out, G6.out⟩
      · have f0 : (r2 == 0) = false := by simpa using hr
        go_wp2_with fail
        go_meet
        exact ⟨_, _, _, rfl, rfl, X5.out, C5.out, G5.out⟩
    case rest =>
    obtain ⟨p, s, m7, rfl, rfl, hX, hC, hG⟩ := hcut
    have X7 := Lib.hid hX
    have C7 := Lib.hid hC
    have G7 := Lib.hid hG
    clear hX hC hG X5 C5 G5
    obtain ⟨n, hn⟩ : ∃ n, writeE Dx p s = n := ⟨_, rfl⟩
    have HN := Lib.hid hn
    clear hn
    go_upto_region 17 with (first
      | (refine wp_loadV _ X7.out.row X7.out.len rfl rfl rfl ?_)
      | (go_at_call 20; refine (write_g _ Dx p s n HN.out _ X7.out.dev HF.out).mono ?_; rintro e wa ⟨va, rfl, hV, _, hb⟩; have V8 := Lib.hid hV; have X8 := Lib.hid (X7.out.keep hb); have C8 := Lib.hid (codL_keep C7.out hb); have G8 := Lib.hid (grownBy_below G7.out hb); clear hV hb X7 C7 G7)
      | (have hq := V8.out; clear hq; refine wp_newW dev0 _ zero_dev rfl rfl ?_; intro w9 hP hb _; have N9 := Lib.hid hP; have M9 := Lib.hid hb; clear hP hb)
      | (refine wp_storeV V8.out N9.out rfl rfl rfl rfl rfl ?_; intro w10 hP hS; have P10 := Lib.hid hP; have KA : Hid (wo.heap.size < wa.heap.size ∧ xc < wa.heap.size) := Lib.hid ⟨X8.out.row.lt, codL_lt C8.out⟩; have Y8 := Lib.hid (varAt_more X8.out (Nat.le_refl _)); have MB := Lib.hid (hS.below M9.out (Nat.le_refl _)); have X10 := Lib.hid (Y8.out.keep MB.out); have C10 := Lib.hid (codL_keep C8.out MB.out); have G10 := Lib.hid (grownBy_below G8.out MB.out); have V10 := Lib.hid (V8.out.keep MB.out); clear hP hS MB N9 M9 V8 X8 Y8 C8 G8)
      | (refine wp_loadV _ X10.out.row X10.out.len rfl rfl rfl ?_)
      | (go_at_call 21; refine (refWrite_any _ Dx p s n HN.out _ X10.out.dev HF.out).mono ?_; rintro e wb ⟨vb, rfl, hV, _, hb⟩; have U11 := Lib.hid hV; have X11 := Lib.hid (X10.out.keep hb); have C11 := Lib.hid (codL_keep C10.out hb); have G11 := Lib.hid (grownBy_below G10.out hb); have V11 := Lib.hid (V10.out.keep hb); have P11 := Lib.hid (RowAt.keep P10.out hb); clear hV hb X10 C10 G10 V10 P10)
      | (have hq := U11.out; clear hq; refine wp_newW dev0 _ zero_dev rfl rfl ?_; intro w12 hP hb _; have N12 := Lib.hid hP; have M12 := Lib.hid hb; clear hP hb)
      | (refine wp_storeV U11.out N12.out rfl rfl rfl rfl rfl ?_; intro w13 hP hS; have Q13 := Lib.hid hP; have KB : Hid (wa.heap.size < wb.heap.size) := Lib.hid P11.out.lt; have Y11 := Lib.hid (varAt_more X11.out (Nat.le_refl _)); have MB := Lib.hid (hS.below M12.out (Nat.le_refl _)); have X13 := Lib.hid (Y11.out.keep MB.out); have C13 := Lib.hid (codL_keep C11.out MB.out); have G13 := Lib.hid (grownBy_below G11.out MB.out); have V13 := Lib.hid (V11.out.keep MB.out); have U13 := Lib.hid (U11.out.keep MB.out); have P13 := Lib.hid (RowAt.keep P11.out MB.out); clear hP hS MB N12 M12 V11 U11 X11 Y11 C11 G11 P11))
    have KS : Hid (xc < wo.heap.size ∧ xf < wo.heap.size ∧ xt < wo.heap.size ∧ wo.heap.size < wa.heap.size ∧ wa.heap.size < wb.heap.size ∧ xf < xc) := Lib.hid ⟨KW.out.1, KW.out.2.1, KW.out.2.2, KA.out.1, KB.out, KK.out.1⟩
    clear KW KA KB
    generalize wa.heap.size = xa at *
    generalize wb.heap.size = xb at *
    have HLX := Lib.hid X13.out.len
    go_cut [116] from 101 to 116 (fun s116 wx => s116 = .bool false ∧ VarAt wo.heap.size [xb, xa, xc] vx Dx wx ∧ RowAt xa va wx ∧ RowAt xb vb wx ∧ CodL xc m7 wx ∧ wo.grownBy wx (some xc))
    case first =>
      refine wp_region_held_drew (S := fun W => RowAt wo.heap.size vx W ∧ RowAt xa va W ∧ RowAt xb vb W) (by kernel_rfl) ⟨X13.out.row.drew, RowAt.drew P13.out, RowAt.drew Q13.out⟩ (fun hHeld => ?_)
      have Xd := Lib.hid (X13.out.keep (Below.refl _ _).drew)
      have Cd := Lib.hid (codL_keep C13.out (Below.refl _ _).drew)
      have Gd := Lib.hid (grownBy_below G13.out (Below.refl _ _).drew)
      have Vd := Lib.hid (V13.out.keep (Below.refl _ _).drew)
      have Ud := Lib.hid (U13.out.keep (Below.refl _ _).drew)
      have VLA := Lib.hid V13.out.length
      have VLB := Lib.hid U13.out.length
      clear X13 C13 G13 V13 U13 P13 Q13
      refine wpAnyH_take (i := 0) (v := ?_) rfl (by kernel_rfl) (by kernel_rfl) (by kernel_rfl) (fun _ _ _ h => h) (Or.inl ⟨by rfl, ?_⟩) (by assumption) ?_
      rotate_left
      · (intro W hSW; go_simp; try with_reducible rfl)
      try simp only [Act.put, List.getElem_toArray, List.getElem_cons_zero, List.getElem_cons_succ, List.setIfInBounds_toArray, List.set_cons_zero, List.set_cons_succ]
      refine wpAnyH_take (i := 1) (v := ?_) rfl (by kernel_rfl) (by kernel_rfl) (by kernel_rfl) (fun _ _ _ h => h) (Or.inl ⟨by rfl, ?_⟩) (by assumption) ?_
      rotate_left
      · (intro W hSW; go_simp; try with_reducible rfl)
      try simp only [Act.put, List.getElem_toArray, List.getElem_cons_zero, List.getElem_cons_succ, List.setIfInBounds_toArray, List.set_cons_zero, List.set_cons_succ]
      refine wpAnyH_take (i := 2) (v := ?_) rfl (by kernel_rfl) (by kernel_rfl) (by kernel_rfl) (fun _ _ _ h => h) (Or.inl ⟨by rfl, ?_⟩) (by assumption) ?_
      rotate_left
      · (intro W hSW; go_simp; try with_reducible rfl)
      try simp only [Act.put, List.getElem_toArray, List.getElem_cons_zero, List.getElem_cons_succ, List.setIfInBounds_toArray, List.set_cons_zero, List.set_cons_succ]
      refine wpAnyH_take (i := 3) (v := ?_) rfl (by kernel_rfl) (by kernel_rfl) (by kernel_rfl) (fun _ _ _ h => h) (Or.inl ⟨by rfl, ?_⟩) (by assumption) ?_
      rotate_left
      · (intro W hSW; go_simp; try with_reducible rfl)
      try simp only [Act.put, List.getElem_toArray, List.getElem_cons_zero, List.getElem_cons_succ, List.setIfInBounds_toArray, List.set_cons_zero, List.set_cons_succ]
      refine wpAnyH_take (i := 4) (v := .agg (va).toArray) rfl (by kernel_rfl) (by kernel_rfl) (by kernel_rfl) (fun _ _ _ h => h) (yieldsIf_load_mid (by rfl) 27 _ rfl xa 0 rfl (va) _ (fun W hSw => RowAt.range (hSw.2.1) 0 (fun j v hv => by rw [Nat.zero_add]; exact hv)) Try.underlying27 rfl (by rw [VLA.out]; exact info_dev)) (by assumption) ?_
      try simp only [Act.put, List.getElem_toArray, List.getElem_cons_zero, List.getElem_cons_succ, List.setIfInBounds_toArray, List.set_cons_zero, List.set_cons_succ]
      refine wpAnyH_take (i := 5) (v := .agg (vb).toArray) rfl (by kernel_rfl) (by kernel_rfl) (by kernel_rfl) (fun _ _ _ h => h) (yieldsIf_load_mid (by rfl) 27 _ rfl xb 0 rfl (vb) _ (fun W hSw => RowAt.range (hSw.2.2) 0 (fun j v hv => by rw [Nat.zero_add]; exact hv)) Try.underlying27 rfl (by rw [VLB.out]; exact info_dev)) (by assumption) ?_
      try simp only [Act.put, List.getElem_toArray, List.getElem_cons_zero, List.getElem_cons_succ, List.setIfInBounds_toArray, List.set_cons_zero, List.set_cons_succ]
      refine wpAnyH_ready (rs := [6]) (by kernel_rfl) (by simp) (AllReadyH.cons rfl (fun K hK => ?_) AllReadyH.nil)
      go_simp
      go_wp2_with (go_at_call 15; (with_reducible refine (refSame_any _ _ (writeR Dx p s) _ Vd.out Ud.out).mono ?_); rintro e W1 ⟨rfl, hb⟩)
      have Xe := Lib.hid (Xd.out.keep hb)
      have Ce := Lib.hid (codL_keep Cd.out hb)
      have Ge := Lib.hid (grownBy_below Gd.out hb)
      clear Xd Cd Gd Vd Ud
      refine hK.out _ _ (⟨hHeld.1.keep hb, hHeld.2.1.keep hb, hHeld.2.2.keep hb⟩) (fun hH2 => ?_)
      clear hK K
      try simp only [Act.put, List.getElem_toArray, List.getElem_cons_zero, List.getElem_cons_succ, List.setIfInBounds_toArray, List.set_cons_zero, List.set_cons_succ]
      clear hb
      refine wpAnyH_take (i := 7) (v := ?_) rfl (by kernel_rfl) (by kernel_rfl) (by kernel_rfl) (fun _ _ _ h => h) (Or.inl ⟨by rfl, ?_⟩) (by assumption) ?_
      rotate_left
      · (intro W hSW; go_simp; try with_reducible rfl)
      try simp only [Act.put, List.getElem_toArray, List.getElem_cons_zero, List.getElem_cons_succ, List.setIfInBounds_toArray, List.set_cons_zero, List.set_cons_succ]
      refine wpAnyH_take (i := 8) (v := ?_) rfl (by kernel_rfl) (by kernel_rfl) (by kernel_rfl) (fun _ _ _ h => h) (Or.inl ⟨by rfl, ?_⟩) (by assumption) ?_
      rotate_left
      · (intro W hSW; go_simp; try with_reducible rfl)
      try simp only [Act.put, List.getElem_toArray, List.getElem_cons_zero, List.getElem_cons_succ, List.setIfInBounds_toArray, List.set_cons_zero, List.set_cons_succ]
      refine wpAnyH_take (i := 9) (v := ?_) rfl (by kernel_rfl) (by kernel_rfl) (by kernel_rfl) (fun _ _ _ h => h) (Or.inl ⟨by rfl, ?_⟩) (by assumption) ?_
      rotate_left
      · (intro W hSW; go_simp; try with_reducible rfl)
      try simp only [Act.put, List.getElem_toArray, List.getElem_cons_zero, List.getElem_cons_succ, List.setIfInBounds_toArray, List.set_cons_zero, List.set_cons_succ]
      refine wpAnyH_take (i := 10) (v := .agg (vx).toArray) rfl (by kernel_rfl) (by kernel_rfl) (by kernel_rfl) (fun _ _ _ h => h) (yieldsIf_load_mid (by rfl) 27 _ rfl wo.heap.size 0 rfl (vx) _ (fun W hSw => RowAt.range (hSw.1) 0 (fun j v hv => by rw [Nat.zero_add]; exact hv)) Try.underlying27 rfl (by rw [HLX.out]; exact info_dev)) (by assumption) ?_
      try simp only [Act.put, List.getElem_toArray, List.getElem_cons_zero, List.getElem_cons_succ, List.setIfInBounds_toArray, List.set_cons_zero, List.set_cons_succ]
      refine wpAnyH_take (i := 12) (v := .agg (vx).toArray) rfl (by kernel_rfl) (by kernel_rfl) (by kernel_rfl) (fun _ _ _ h => h) (yieldsIf_load_mid (by rfl) 27 _ rfl wo.heap.size 0 rfl (vx) _ (fun W hSw => RowAt.range (hSw.1) 0 (fun j v hv => by rw [Nat.zero_add]; exact hv)) Try.underlying27 rfl (by rw [HLX.out]; exact info_dev)) (by assumption) ?_
      try simp only [Act.put, List.getElem_toArray, List.getElem_cons_zero, List.getElem_cons_succ, List.setIfInBounds_toArray, List.set_cons_zero, List.set_cons_succ]
      refine wpAnyH_ready (rs := [11]) (by kernel_rfl) (by simp) (AllReadyH.cons rfl (fun K hK => ?_) AllReadyH.nil)
      go_simp
      go_wp2_with (go_at_call 22; (with_reducible refine (valid_any _ Dx _ Xe.out.dev HF.out).mono ?_); rintro e W2 ⟨rfl, hb⟩)
      have Xf := Lib.hid (Xe.out.keep hb)
      have Cf := Lib.hid (codL_keep Ce.out hb)
      have Gf := Lib.hid (grownBy_below Ge.out hb)
      clear Xe Ce Ge
      refine hK.out _ _ (⟨hH2.1.keep hb, hH2.2.1.keep hb, hH2.2.2.keep hb⟩) (fun hH3 => ?_)
      clear hK K
      try simp only [Act.put, List.getElem_toArray, List.getElem_cons_zero, List.getElem_cons_succ, List.setIfInBounds_toArray, List.set_cons_zero, List.set_cons_succ]
      clear hb
      refine wpAnyH_ready (rs := [13]) (by kernel_rfl) (by simp) (AllReadyH.cons rfl (fun K hK => ?_) AllReadyH.nil)
      go_simp
      go_wp2_with (go_at_call 23; (with_reducible refine (refValid_any _ Dx _ Xf.out.dev HF.out).mono ?_); rintro e W3 ⟨rfl, hb⟩)
      have Xg := Lib.hid (Xf.out.keep hb)
      have Cg := Lib.hid (codL_keep Cf.out hb)
      have Gg := Lib.hid (grownBy_below Gf.out hb)
      clear Xf Cf Gf
      refine hK.out _ _ (⟨hH3.1.keep hb, hH3.2.1.keep hb, hH3.2.2.keep hb⟩) (fun hH4 => ?_)
      clear hK K
      try simp only [Act.put, List.getElem_toArray, List.getElem_cons_zero, List.getElem_cons_succ, List.setIfInBounds_toArray, List.set_cons_zero, List.set_cons_succ]
      clear hb
      refine wpAnyH_take (i := 14) (v := ?_) rfl (by kernel_rfl) (by kernel_rfl) (by kernel_rfl) (fun _ _ _ h => h) (Or.inl ⟨by rfl, ?_⟩) (by assumption) ?_
      rotate_left
      · (intro W hSW; go_simp; try with_reducible rfl)
      try simp only [Act.put, List.getElem_toArray, List.getElem_cons_zero, List.getElem_cons_succ, List.setIfInBounds_toArray, List.set_cons_zero, List.set_cons_succ]
      refine wpAnyH_take (i := 15) (v := ?_) rfl (by kernel_rfl) (by kernel_rfl) (by kernel_rfl) (fun _ _ _ h => h) (Or.inl ⟨by rfl, ?_⟩) (by assumption) ?_
      rotate_left
      · (intro W hSW; go_simp; try with_reducible rfl)
      try simp only [Act.put, List.getElem_toArray, List.getElem_cons_zero, List.getElem_cons_succ, List.setIfInBounds_toArray, List.set_cons_zero, List.set_cons_succ]
      refine wpAnyH_done (by kernel_rfl) ?_ _
      go_wp2_with fail
      go_meet
      exact ⟨rfl, Xg.out, hH4.2.1, hH4.2.2, Cg.out, Gg.out⟩
    case rest =>
    obtain ⟨rfl, hX, hP, hQ, hC, hG⟩ := hcut
    have PL := Lib.hid V13.out.length
    have QL := Lib.hid U13.out.length
    have X14 := Lib.hid hX
    have C14 := Lib.hid hC
    have G14 := Lib.hid hG
    have P14 := Lib.hid hP
    have Q14 := Lib.hid hQ
    clear hX hP hQ hC hG X13 P13 Q13 C13 G13 V13 U13 HN
    go_upto_region 19 with fail
    have HVD := Lib.hid (var_facts X14.out)
    have F14 : Hid (RowAt xf f.vals wc) := Lib.hid (FR.out.grown G14.out (fun e => by injection e with e; have := KS.out; omega))
    go_cut [125, 126, 127] from 117 to 127 (fun s125 s126 s127 wx => ∃ (xg m' : Nat) (g : Flt), s125 = .slice (some ⟨xg, 0, none⟩) 2 2 ∧ s126 = .int .i64 2 ∧ s127 = .int .i64 0 ∧ xb < xg ∧ RowAt xg (f.vals ++ g.vals) wx ∧ VarAt wo.heap.size [xb, xa, xc] vx Dx wx ∧ RowAt xa va wx ∧ RowAt xb vb wx ∧ CodL xc m' wx ∧ wo.grownBy wx (some xc))
    case first =>
      obtain ⟨hv5, ⟨sp, cp, hcp0⟩, hcw0⟩ := HVD.out
      refine wp_region_held_drew (S := fun W => RowAt xf f.vals W ∧ RowAt wo.heap.size vx W) (by kernel_rfl) ⟨RowAt.drew F14.out, X14.out.row.drew⟩ (fun hHeld => ?_)
      have HCP := Lib.hid hcp0
      have HCW := Lib.hid hcw0
      clear hcp0 hcw0 HVD
      have Xd := Lib.hid (X14.out.keep (Below.refl _ _).drew)
      have Cd := Lib.hid (codL_keep C14.out (Below.refl _ _).drew)
      have Gd := Lib.hid (grownBy_below G14.out (Below.refl _ _).drew)
      have Pd := Lib.hid (RowAt.drew P14.out)
      have Qd := Lib.hid (RowAt.drew Q14.out)
      clear X14 C14 G14 P14 Q14 F14
      refine wpAnyH_take (i := 0) (v := .agg (f.vals).toArray) rfl (by kernel_rfl) (by kernel_rfl) (by kernel_rfl) (fun _ _ _ h => h) (yieldsIf_load_mid (by rfl) 29 _ rfl xf 0 rfl (f.vals) _ (fun W hSw => RowAt.range (hSw.1) 0 (fun j v hv => by rw [Nat.zero_add]; exact hv)) Try.underlying29 rfl (by exact info_flt)) (by assumption) ?_
      try simp only [Act.put, List.getElem_toArray, List.getElem_cons_zero, List.getElem_cons_succ, List.setIfInBounds_toArray, List.set_cons_zero, List.set_cons_succ]
      refine wpAnyH_take (i := 1) (v := ?_) rfl (by kernel_rfl) (by kernel_rfl) (by kernel_rfl) (fun _ _ _ h => h) (Or.inl ⟨by rfl, ?_⟩) (by assumption) ?_
      rotate_left
      · (intro W hSW; go_simp; try with_reducible rfl)
      try simp only [Act.put, List.getElem_toArray, List.getElem_cons_zero, List.getElem_cons_succ, List.setIfInBounds_toArray, List.set_cons_zero, List.set_cons_succ]
      refine wpAnyH_take (i := 2) (v := ?_) rfl (by kernel_rfl) (by kernel_rfl) (by kernel_rfl) (fun _ _ _ h => h) (Or.inl ⟨by rfl, ?_⟩) (by assumption) ?_
      rotate_left
      · (intro W hSW; go_simp; try with_reducible rfl)
      try simp only [Act.put, List.getElem_toArray, List.getElem_cons_zero, List.getElem_cons_succ, List.setIfInBounds_toArray, List.set_cons_zero, List.set_cons_succ]
      refine wpAnyH_take (i := 3) (v := ?_) rfl (by kernel_rfl) (by kernel_rfl) (by kernel_rfl) (fun _ _ _ h => h) (Or.inl ⟨by rfl, ?_⟩) (by assumption) ?_
      rotate_left
      · (intro W hSW; have hcp := HCP.out W hSW.2; go_simp; try with_reducible rfl)
      try simp only [Act.put, List.getElem_toArray, List.getElem_cons_zero, List.getElem_cons_succ, List.setIfInBounds_toArray, List.set_cons_zero, List.set_cons_succ]
      refine wpAnyH_take (i := 4) (v := ?_) rfl (by kernel_rfl) (by kernel_rfl) (by kernel_rfl) (fun _ _ _ h => h) (Or.inl ⟨by rfl, ?_⟩) (by assumption) ?_
      rotate_left
      · (intro W hSW; go_simp; try with_reducible rfl)
      try simp only [Act.put, List.getElem_toArray, List.getElem_cons_zero, List.getElem_cons_succ, List.setIfInBounds_toArray, List.set_cons_zero, List.set_cons_succ]
      refine wpAnyH_take (i := 5) (v := ?_) rfl (by kernel_rfl) (by kernel_rfl) (by kernel_rfl) (fun _ _ _ h => h) (Or.inl ⟨by rfl, ?_⟩) (by assumption) ?_
      rotate_left
      · (intro W hSW; go_simp; try with_reducible rfl)
      try simp only [Act.put, List.getElem_toArray, List.getElem_cons_zero, List.getElem_cons_succ, List.setIfInBounds_toArray, List.set_cons_zero, List.set_cons_succ]
      refine wpAnyH_take (i := 6) (v := ?_) rfl (by kernel_rfl) (by kernel_rfl) (by kernel_rfl) (fun _ _ _ h => h) (Or.inl ⟨by rfl, ?_⟩) (by assumption) ?_
      rotate_left
      · (intro W hSW; have hcw := HCW.out W hSW.2; go_simp; try with_reducible rfl)
      try simp only [Act.put, List.getElem_toArray, List.getElem_cons_zero, List.getElem_cons_succ, List.setIfInBounds_toArray, List.set_cons_zero, List.set_cons_succ]
      refine wpAnyH_take (i := 10) (v := ?_) rfl (by kernel_rfl) (by kernel_rfl) (by kernel_rfl) (fun _ _ _ h => h) (Or.inl ⟨by rfl, ?_⟩) (by assumption) ?_
      rotate_left
      · (intro W hSW; go_simp; try with_reducible rfl)
      try simp only [Act.put, List.getElem_toArray, List.getElem_cons_zero, List.getElem_cons_succ, List.setIfInBounds_toArray, List.set_cons_zero, List.set_cons_succ]
      refine wpAnyH_ready (rs := [7]) (by kernel_rfl) (by simp) (AllReadyH.cons rfl (fun K hK => ?_) AllReadyH.nil)
      go_simp
      go_wp2_with (go_at_call 24; (with_reducible refine (fault_any xc _ _ _ _ Cd.out HPL.out).mono ?_); rintro e W1 ⟨g, rfl, ⟨m8, _, hC⟩, hg⟩)
      have Xe := Lib.hid (Xd.out.grown hg (fun k e => by injection e with e; subst e; simp))
      have Pe := Lib.hid (Pd.out.grown hg (fun e => by injection e with e; have := KS.out; omega))
      have Qe := Lib.hid (Qd.out.grown hg (fun e => by injection e with e; have := KS.out; omega))
      have Ce := Lib.hid hC
      have Ge := Lib.hid (grownBy_trans Gd.out hg)
      clear hC Xd Cd Gd Pd Qd
      refine hK.out _ _ (⟨hHeld.1.grown hg (fun e => by injection e with e; have := KS.out; omega), hHeld.2.grown hg (fun e => by injection e with e; have := KS.out; omega)⟩) (fun hH2 => ?_)
      clear hK K
      try simp only [Act.put, List.getElem_toArray, List.getElem_cons_zero, List.getElem_cons_succ, List.setIfInBounds_toArray, List.set_cons_zero, List.set_cons_succ]
      clear hg
      refine wpAnyH_ready (rs := [8]) (by kernel_rfl) (by simp) (AllReadyH.cons rfl (fun K hK => ?_) AllReadyH.nil)
      simp only [List.getElem_toArray, List.getElem_cons_zero, List.getElem_cons_succ]
      rw [if_pos (by rfl)]
      with_reducible refine op_buildF f g (by rfl) ?_ ?_ (fun Wb hP hb _ => ?_)
      · rfl
      · rfl
      have Xf := Lib.hid (Xe.out.keep hb)
      have Pf := Lib.hid (RowAt.keep Pe.out hb)
      have Qf := Lib.hid (RowAt.keep Qe.out hb)
      have Cf := Lib.hid (codL_keep Ce.out hb)
      have Gf := Lib.hid (grownBy_below Ge.out hb)
      have Zf := Lib.hid hP
      have KT := Lib.hid Qe.out.lt
      refine hK.out _ _ (⟨hH2.1.keep hb, hH2.2.keep hb⟩) (fun hH3 => ?_)
      clear hK K
      try simp only [Act.put, List.getElem_toArray, List.getElem_cons_zero, List.getElem_cons_succ, List.setIfInBounds_toArray, List.set_cons_zero, List.set_cons_succ]
      clear hb hP
      refine wpAnyH_take (i := 9) (v := ?_) rfl (by kernel_rfl) (by kernel_rfl) (by kernel_rfl) (fun _ _ _ h => h) (Or.inl ⟨by rfl, ?_⟩) (by assumption) ?_
      rotate_left
      · (intro W hSW; go_simp; try with_reducible rfl)
      try simp only [Act.put, List.getElem_toArray, List.getElem_cons_zero, List.getElem_cons_succ, List.setIfInBounds_toArray, List.set_cons_zero, List.set_cons_succ]
      refine wpAnyH_done (by kernel_rfl) ?_ _
      go_wp2_with fail
      go_meet
      exact ⟨_, _, _, rfl, rfl, rfl, KT.out, Zf.out, Xf.out, Pf.out, Qf.out, Cf.out, Gf.out⟩
    case rest =>
    obtain ⟨xg, m8, g, rfl, rfl, rfl, hxg, hZ, hX, hP, hQ, hC, hG⟩ := hcut
    have KG := Lib.hid hxg
    have Z15 := Lib.hid hZ
    have X15 := Lib.hid hX
    have P15 := Lib.hid hP
    have Q15 := Lib.hid hQ
    have C15 := Lib.hid hC
    have G15 := Lib.hid hG
    clear hxg hZ hX hP hQ hC hG X14 P14 Q14 C14 G14 F14 HVD
    go_upto_block 2 with fail
    go_cut [21, 23] from 127 to 152 (fun s21 s23 wx => s21 = .pointer (some ⟨xa, 0, none⟩) ∧ s23 = .pointer (some ⟨xb, 0, none⟩) ∧ ∃ (va vb : List Value), va.length = 5 ∧ vb.length = 5 ∧ VarAt wo.heap.size [xb, xa, xc] vx Dx wx ∧ RowAt xa va wx ∧ RowAt xb vb wx ∧ CodL xc m8 wx ∧ wo.grownBy wx (some xc))
    case first =>
      go_wp2_with fail
      go_loopw [127] (fun s127 wr => ∃ (i : Nat) (va vb : List Value), i ≤ 2 ∧ s127 = .int .i64 (i : Int) ∧ Hid (va.length = 5) ∧ Hid (vb.length = 5) ∧ Hid (RowAt xg (f.vals ++ g.vals) wr) ∧ Hid (VarAt wo.heap.size [xb, xa, xc] vx Dx wr) ∧ Hid (RowAt xa va wr) ∧ Hid (RowAt xb vb wr) ∧ Hid (CodL xc m8 wr) ∧ Hid (wo.grownBy wr (some xc))) (fun s127 _ => 2 - (intOf s127).toNat)
      case atStart => exact ⟨0, _, _, by omega, rfl, PL, QL, Z15, X15, P15, Q15, C15, G15⟩
      case round =>
        clear Z15 X15 P15 Q15 C15 G15 PL QL
        obtain ⟨i, va, vb, hi, rfl, PL, QL, Z, X, P, Q, C, G⟩ := hrel
        by_cases hi2 : i < 2
        rotate_left
        · have q2 : ¬ (i : Int) < 2 := by omega
          go_wp2_with fail
          go_meet
          exact ⟨rfl, rfl, _, _, PL.out, QL.out, X.out, P.out, Q.out, C.out, G.out⟩
        have q2 : (0 : Int) ≤ (i : Int) := by omega
        have q3 : (i : Int) < 2 := by omega
        obtain ⟨z, hz⟩ : ∃ z : Flt, ∀ k u, z.vals[k]? = some u → wr.cell? ⟨xg, i * 6 + k, none⟩ = some u := by
          have hz := two_flts Z.out hi2
          exact hz
        have HZ := Lib.hid hz
        clear hz
        obtain ⟨n2, hn⟩ : ∃ n, injectE Dx z = n := ⟨_, rfl⟩
        have HN := Lib.hid hn
        have KZ := Lib.hid Z.out.lt
        clear hn
        go_wp2_with (first
          | (refine wp_loadFltAt z (i * 6) HZ.out rfl rfl rfl ?_)
          | (have hq := HZ.out; clear hq; refine wp_newW flt0.vals _ zero_flt rfl rfl ?_; intro w1 hP hb _; have N1 := Lib.hid hP; have M1 := Lib.hid hb; clear hP hb)
          | (refine wp_storeFltW z N1.out rfl rfl rfl rfl rfl ?_; intro w2 hP hS; have T2 := Lib.hid hP; have MB := Lib.hid (hS.below M1.out (Nat.le_refl _)); have X2 := Lib.hid (X.out.keep MB.out); have C2 := Lib.hid (codL_keep C.out MB.out); have G2 := Lib.hid (grownBy_below G.out MB.out); have P2 := Lib.hid (RowAt.keep P.out MB.out); have Q2 := Lib.hid (RowAt.keep Q.out MB.out); have Z2 := Lib.hid (RowAt.keep Z.out MB.out); clear hP hS MB N1 M1 HZ X C G P Q Z)
          | (refine wp_loadV _ X2.out.row X2.out.len rfl rfl rfl ?_)
          | (refine wp_loadFlt z T2.out rfl rfl rfl ?_)
          | (go_at_call 25; refine (inject_b _ Dx (injectD Dx z) z n2 HN.out rfl _ X2.out.dev HF.out).mono ?_; rintro e w3 ⟨v3, rfl, hV, hL, hb⟩; have V3 := Lib.hid hV; have L3 := Lib.hid (hL _ (Nat.le_refl _)); have K3 : Hid (xg < w2.heap.size ∧ wr.heap.size < w2.heap.size) := Lib.hid ⟨Z2.out.lt, T2.out.lt⟩; have X3 := Lib.hid (X2.out.keep hb); have C3 := Lib.hid (codL_keep C2.out hb); have G3 := Lib.hid (grownBy_below G2.out hb); have P3 := Lib.hid (RowAt.keep P2.out hb); have Q3 := Lib.hid (RowAt.keep Q2.out hb); have Z3 := Lib.hid (RowAt.keep Z2.out hb); have T3 := Lib.hid (RowAt.keep T2.out hb); clear hV hL hb X2 C2 G2 P2 Q2 Z2 T2)
          | (refine wp_storeV V3.out P3.out PL.out rfl rfl rfl rfl ?_; intro w4 hP hS; have P4 := Lib.hid hP; have X4 := Lib.hid (X3.out.stored hS (by simp)); have C4 := Lib.hid (codL_stored C3.out hS (by have := KS.out; omega)); have G4 := Lib.hid (nq.grown_step G3.out (stored_grown hS) (fun k e => by injection e with e; have := KS.out; omega)); have Q4 := Lib.hid (hS.row Q3.out (fun e => by have := KS.out; omega)); have Z4 := Lib.hid (hS.row Z3.out (fun e => by have := KS.out; have := KG.out; omega)); have T4 := Lib.hid (hS.row T3.out (fun e => by have := KS.out; have := KG.out; have := KZ.out; omega)); have V4 := Lib.hid (devV_stored V3.out hS (off_lo L3.out (by have := KS.out; have := KG.out; have := K3.out; omega))); clear hP hS X3 C3 G3 Q3 P3 Z3 T3 V3)
          | (refine wp_loadV _ X4.out.row X4.out.len rfl rfl rfl ?_)
          | (refine wp_loadFlt z T4.out rfl rfl rfl ?_)
          | (go_at_call 26; refine (refInject_b _ Dx (injectD Dx z) z n2 HN.out rfl _ X4.out.dev HF.out).mono ?_; rintro e w5 ⟨v5, rfl, hV, hL, hb⟩; have U5 := Lib.hid hV; have L5 := Lib.hid (hL _ (Nat.le_refl _)); have K5 := Lib.hid Z4.out.lt; have X5 := Lib.hid (X4.out.keep hb); have C5 := Lib.hid (codL_keep C4.out hb); have G5 := Lib.hid (grownBy_below G4.out hb); have V5 := Lib.hid (V4.out.keep hb); have P5 := Lib.hid (RowAt.keep P4.out hb); have Q5 := Lib.hid (RowAt.keep Q4.out hb); have Z5 := Lib.hid (RowAt.keep Z4.out hb); clear hV hL hb X4 C4 G4 P4 Q4 Z4 T4 V4)
          | (refine wp_storeV U5.out Q5.out QL.out rfl rfl rfl rfl ?_; intro w6 hP hS; have Q6 := Lib.hid hP; have X6 := Lib.hid (X5.out.stored hS (by simp)); have C6 := Lib.hid (codL_stored C5.out hS (by have := KS.out; omega)); have G6 := Lib.hid (nq.grown_step G5.out (stored_grown hS) (fun k e => by injection e with e; have := KS.out; omega)); have P6 := Lib.hid (hS.row P5.out (fun e => by have := KS.out; omega)); have Z6 := Lib.hid (hS.row Z5.out (fun e => by have := KS.out; have := KG.out; omega)); have V6 := Lib.hid (devV_stored V5.out hS (off_lo L3.out (by have := KS.out; have := KG.out; have := K3.out; omega))); have U6 := Lib.hid (devV_stored U5.out hS (off_lo L5.out (by have := KS.out; have := KG.out; have := K5.out; omega))); clear hP hS X5 C5 G5 Q5 P5 Z5 V5 U5)
          | (refine wp_loadV _ P6.out V6.out.length rfl rfl rfl ?_)
          | (refine wp_loadV _ Q6.out U6.out.length rfl rfl rfl ?_)
          | (go_at_call 15; refine (refSame_any _ _ (injectD Dx z) _ V6.out U6.out).mono ?_; rintro e w7 ⟨rfl, hb⟩; have X7 := Lib.hid (X6.out.keep hb); have C7 := Lib.hid (codL_keep C6.out hb); have G7 := Lib.hid (grownBy_below G6.out hb); have V7 := Lib.hid (V6.out.keep hb); have U7 := Lib.hid (U6.out.keep hb); have P7 := Lib.hid (RowAt.keep P6.out hb); have Q7 := Lib.hid (RowAt.keep Q6.out hb); have Z7 := Lib.hid (RowAt.keep Z6.out hb); clear hb X6 C6 G6 P6 Q6 Z6 V6 U6))
        go_roundw
        case measure => simp [intOf]; omega
        case rel => exact ⟨i + 1, _, _, by omega, by go_num, Lib.hid V7.out.length, Lib.hid U7.out.length, Z7, X7, P7, Q7, C7, G7⟩
    case rest =>
    obtain ⟨rfl, rfl, va2, vb2, hpl, hql, hX, hP, hQ, hC, hG⟩ := hcut
    have PL2 := Lib.hid hpl
    have QL2 := Lib.hid hql
    have X16 := Lib.hid hX
    have P16 := Lib.hid hP
    have Q16 := Lib.hid hQ
    have C16 := Lib.hid hC
    have G16 := Lib.hid hG
    clear hpl hql hX hP hQ hC hG X15 P15 Q15 C15 G15 Z15 PL QL KG
    go_upto_block 4 with (first
      | (go_at_call 17; refine (nextL_any xc m8 257 _ C16.out (by decide)).mono ?_; rintro e w17 ⟨r3, rfl, _, _, _, ⟨m9, _, _, hC⟩, hg⟩; have X17 := Lib.hid (X16.out.grown hg (fun k e => by injection e with e; subst e; simp)); have G17 := Lib.hid (grownBy_trans G16.out hg); have P17 := Lib.hid (P16.out.grown hg (fun e => by injection e with e; have := KS.out; omega)); have Q17 := Lib.hid (Q16.out.grown hg (fun e => by injection e with e; have := KS.out; omega)); have C17 := Lib.hid hC; clear hC hg X16 C16 G16 P16 Q16)
      | (refine wp_buildI2W cut r3 rfl rfl rfl rfl ?_; intro w18 hP hb _; have Z18 := Lib.hid hP; have KI := Lib.hid Q17.out.lt; have X18 := Lib.hid (X17.out.keep hb); have C18 := Lib.hid (codL_keep C17.out hb); have G18 := Lib.hid (grownBy_below G17.out hb); have P18 := Lib.hid (RowAt.keep P17.out hb); have Q18 := Lib.hid (RowAt.keep Q17.out hb); clear hP hb X17 C17 G17 P17 Q17))
    generalize w17.heap.size = xi at *
    go_cut [21, 23] from 158 to 187 (fun s21 s23 wx => s21 = .pointer (some ⟨xa, 0, none⟩) ∧ s23 = .pointer (some ⟨xb, 0, none⟩) ∧ ∃ (va vb : List Value), va.length = 5 ∧ vb.length = 5 ∧ VarAt wo.heap.size [xb, xa, xc] vx Dx wx ∧ RowAt xa va wx ∧ RowAt xb vb wx ∧ CodL xc m9 wx ∧ wo.grownBy wx (some xc))
    case first =>
      go_wp2_with fail
      go_loopw [158] (fun s158 wr => ∃ (i : Nat) (va vb : List Value), i ≤ 2 ∧ s158 = .int .i64 (i : Int) ∧ Hid (va.length = 5) ∧ Hid (vb.length = 5) ∧ Hid (RowAt xi [.int .i64 cut, .int .i64 r3] wr) ∧ Hid (VarAt wo.heap.size [xb, xa, xc] vx Dx wr) ∧ Hid (RowAt xa va wr) ∧ Hid (RowAt xb vb wr) ∧ Hid (CodL xc m9 wr) ∧ Hid (wo.grownBy wr (some xc))) (fun s158 _ => 2 - (intOf s158).toNat)
      case atStart => exact ⟨0, _, _, by omega, rfl, PL2, QL2, Z18, X18, P18, Q18, C18, G18⟩
      case round =>
        clear Z18 X18 P18 Q18 C18 G18 PL2 QL2
        obtain ⟨i, va, vb, hi, rfl, PL, QL, Z, X, P, Q, C, G⟩ := hrel
        by_cases hi2 : i < 2
        rotate_left
        · have q2 : ¬ (i : Int) < 2 := by omega
          go_wp2_with fail
          go_meet
          exact ⟨rfl, rfl, _, _, PL.out, QL.out, X.out, P.out, Q.out, C.out, G.out⟩
        have q2 : (0 : Int) ≤ (i : Int) := by omega
        have q3 : (i : Int) < 2 := by omega
        obtain ⟨z, c0⟩ : ∃ z : Int, wr.cell? ⟨xi, i, none⟩ = some (.int .i64 z) := by
          rcases (show i = 0 ∨ i = 1 by omega) with rfl | rfl
          · exact ⟨cut, Z.out.cells 0 _ rfl⟩
          · exact ⟨r3, Z.out.cells 1 _ rfl⟩
        obtain ⟨n2, hn⟩ : ∃ n, tearE Dx p s z = n := ⟨_, rfl⟩
        have HN := Lib.hid hn
        clear hn
        go_upto_region 30 with fail
        clear c0
        go_wp2_with (first
          | (refine wp_loadV _ X.out.row X.out.len rfl rfl rfl ?_)
          | (go_at_call 27; refine (tear_b _ Dx p s z n2 HN.out _ X.out.dev HF.out).mono ?_; rintro e y1 ⟨v1, rfl, hV, hL, hb⟩; have V1 := Lib.hid hV; have L1 := Lib.hid (hL _ (Nat.le_refl _)); have K1 := Lib.hid (And.intro P.out.lt Q.out.lt); have X1 := Lib.hid (X.out.keep hb); have C1 := Lib.hid (codL_keep C.out hb); have G1 := Lib.hid (grownBy_below G.out hb); have P1 := Lib.hid (RowAt.keep P.out hb); have Q1 := Lib.hid (RowAt.keep Q.out hb); have Z1 := Lib.hid (RowAt.keep Z.out hb); clear hV hL hb X C G P Q Z)
          | (refine wp_storeV V1.out P1.out PL.out rfl rfl rfl rfl ?_; intro y2 hP hS; have P2 := Lib.hid hP; have X2 := Lib.hid (X1.out.stored hS (by simp)); have C2 := Lib.hid (codL_stored C1.out hS (by have := KS.out; omega)); have G2 := Lib.hid (nq.grown_step G1.out (stored_grown hS) (fun k e => by injection e with e; have := KS.out; omega)); have Q2 := Lib.hid (hS.row Q1.out (fun e => by have := KS.out; omega)); have Z2 := Lib.hid (hS.row Z1.out (fun e => by have := KS.out; have := KI.out; omega)); have V2 := Lib.hid (devV_stored V1.out hS (off_lo L1.out K1.out.1)); clear hP hS V1 X1 C1 G1 P1 Q1 Z1)
          | (refine wp_loadV _ X2.out.row X2.out.len rfl rfl rfl ?_)
          | (go_at_call 28; refine (refTear_any _ Dx p s z n2 HN.out _ X2.out.dev HF.out).mono ?_; rintro e y3 ⟨v3, rfl, hV, hL, hb⟩; have U3 := Lib.hid hV; have L3 := Lib.hid (hL _ (Nat.le_refl _)); have K3 := Lib.hid Q2.out.lt; have X3 := Lib.hid (X2.out.keep hb); have C3 := Lib.hid (codL_keep C2.out hb); have G3 := Lib.hid (grownBy_below G2.out hb); have V3 := Lib.hid (V2.out.keep hb); have P3 := Lib.hid (RowAt.keep P2.out hb); have Q3 := Lib.hid (RowAt.keep Q2.out hb); have Z3 := Lib.hid (RowAt.keep Z2.out hb); clear hV hL hb V2 X2 C2 G2 P2 Q2 Z2)
          | (refine wp_storeV U3.out Q3.out QL.out rfl rfl rfl rfl ?_; intro y4 hP hS; have Q4 := Lib.hid hP; have X4 := Lib.hid (X3.out.stored hS (by simp)); have C4 := Lib.hid (codL_stored C3.out hS (by have := KS.out; omega)); have G4 := Lib.hid (nq.grown_step G3.out (stored_grown hS) (fun k e => by injection e with e; have := KS.out; omega)); have P4 := Lib.hid (hS.row P3.out (fun e => by have := KS.out; omega)); have Z4 := Lib.hid (hS.row Z3.out (fun e => by have := KS.out; have := KI.out; omega)); have V4 := Lib.hid (devV_stored V3.out hS (off_lo L1.out K1.out.2)); have U4 := Lib.hid (devV_stored U3.out hS (off_lo L3.out K3.out)); clear hP hS V3 U3 X3 C3 G3 P3 Q3 Z3)

          | (refine wp_loadV _ P4.out V4.out.length rfl rfl rfl ?_)
          | (refine wp_loadV _ Q4.out U4.out.length rfl rfl rfl ?_)
          | (go_at_call 15; refine (refSame_any _ _ (tearD Dx p s z) _ V4.out U4.out).mono ?_; rintro e y5 ⟨rfl, hb⟩; have X5 := Lib.hid (X4.out.keep hb); have C5 := Lib.hid (codL_keep C4.out hb); have G5 := Lib.hid (grownBy_below G4.out hb); have V5 := Lib.hid (V4.out.keep hb); have U5 := Lib.hid (U4.out.keep hb); have P5 := Lib.hid (RowAt.keep P4.out hb); have Q5 := Lib.hid (RowAt.keep Q4.out hb); have Z5 := Lib.hid (RowAt.keep Z4.out hb); clear hb X4 C4 G4 V4 U4 P4 Q4 Z4))
        go_roundw
        case measure => simp [intOf]; omega
        case rel => exact ⟨i + 1, _, _, by omega, by go_num, Lib.hid V5.out.length, Lib.hid U5.out.length, Z5, X5, P5, Q5, C5, G5⟩
    case rest =>
    obtain ⟨rfl, rfl, va3, vb3, hpl, hql, hX, hP, hQ, hC, hG⟩ := hcut
    have PL := Lib.hid hpl
    have QL := Lib.hid hql
    have X30 := Lib.hid hX
    have P30 := Lib.hid hP
    have Q30 := Lib.hid hQ
    have C30 := Lib.hid hC
    have G30 := Lib.hid hG
    clear hpl hql hX hP hQ hC hG X18 P18 Q18 C18 G18 Z18 PL2 QL2 KI
    obtain ⟨n4, hn4⟩ : ∃ n, repE Dx = n := ⟨_, rfl⟩
    obtain ⟨n5, hn5⟩ : ∃ n, readE Dx p = n := ⟨_, rfl⟩
    obtain ⟨t5, ht5⟩ : ∃ t, readS Dx p = t := ⟨_, rfl⟩
    have HR4 := Lib.hid hn4
    have HR5 := Lib.hid hn5
    have HT5 := Lib.hid ht5
    clear hn4 hn5 ht5
    go_wp2_with (first
      | (refine wp_loadV _ X30.out.row X30.out.len rfl rfl rfl ?_)
      | (go_at_call 29; refine (replace_b _ Dx n4 HR4.out _ X30.out.dev HF.out).mono ?_; rintro e y31 ⟨v31, rfl, hV, hL, hb⟩; have V31 := Lib.hid hV; have L31 := Lib.hid (hL _ (Nat.le_refl _)); have K31 := Lib.hid (And.intro P30.out.lt Q30.out.lt); have X31 := Lib.hid (X30.out.keep hb); have C31 := Lib.hid (codL_keep C30.out hb); have G31 := Lib.hid (grownBy_below G30.out hb); have P31 := Lib.hid (RowAt.keep P30.out hb); have Q31 := Lib.hid (RowAt.keep Q30.out hb); clear hV hL hb X30 C30 G30 P30 Q30)
      | (refine wp_storeV V31.out P31.out PL.out rfl rfl rfl rfl ?_; intro y32 hP hS; have P32 := Lib.hid hP; have X32 := Lib.hid (X31.out.stored hS (by simp)); have C32 := Lib.hid (codL_stored C31.out hS (by have := KS.out; omega)); have G32 := Lib.hid (nq.grown_step G31.out (stored_grown hS) (fun k e => by injection e with e; have := KS.out; omega)); have Q32 := Lib.hid (hS.row Q31.out (fun e => by have := KS.out; omega)); have V32 := Lib.hid (devV_stored V31.out hS (off_lo L31.out K31.out.1)); clear hP hS V31 X31 C31 G31 P31 Q31)
      | (refine wp_loadV _ X32.out.row X32.out.len rfl rfl rfl ?_)
      | (go_at_call 30; refine (refReplace_b _ Dx n4 HR4.out _ X32.out.dev HF.out).mono ?_; rintro e y33 ⟨v33, rfl, hV, hL, hb⟩; have U33 := Lib.hid hV; have L33 := Lib.hid (hL _ (Nat.le_refl _)); have K33 := Lib.hid Q32.out.lt; have X33 := Lib.hid (X32.out.keep hb); have C33 := Lib.hid (codL_keep C32.out hb); have G33 := Lib.hid (grownBy_below G32.out hb); have V33 := Lib.hid (V32.out.keep hb); have P33 := Lib.hid (RowAt.keep P32.out hb); have Q33 := Lib.hid (RowAt.keep Q32.out hb); clear hV hL hb V32 X32 C32 G32 P32 Q32)
      | (refine wp_storeV U33.out Q33.out QL.out rfl rfl rfl rfl ?_; intro y34 hP hS; have Q34 := Lib.hid hP; have X34 := Lib.hid (X33.out.stored hS (by simp)); have C34 := Lib.hid (codL_stored C33.out hS (by have := KS.out; omega)); have G34 := Lib.hid (nq.grown_step G33.out (stored_grown hS) (fun k e => by injection e with e; have := KS.out; omega)); have P34 := Lib.hid (hS.row P33.out (fun e => by have := KS.out; omega)); have V34 := Lib.hid (devV_stored V33.out hS (off_lo L31.out K31.out.2)); have U34 := Lib.hid (devV_stored U33.out hS (off_lo L33.out K33.out)); clear hP hS V33 U33 X33 C33 G33 P33 Q33)
      | (refine wp_loadV _ X34.out.row X34.out.len rfl rfl rfl ?_)
      | (go_at_call 31; refine (read_b _ Dx p t5 n5 HR5.out HT5.out _ X34.out.dev HF.out).mono ?_; rintro e y35 ⟨rfl, hb⟩; have X35 := Lib.hid (X34.out.keep hb); have C35 := Lib.hid (codL_keep C34.out hb); have G35 := Lib.hid (grownBy_below G34.out hb); have V35 := Lib.hid (V34.out.keep hb); have U35 := Lib.hid (U34.out.keep hb); have P35 := Lib.hid (RowAt.keep P34.out hb); have Q35 := Lib.hid (RowAt.keep Q34.out hb); clear hb X34 C34 G34 V34 U34 P34 Q34)
      | (refine wp_loadV _ X35.out.row X35.out.len rfl rfl rfl ?_)
      | (go_at_call 32; refine (refRead_b _ Dx p t5 n5 HR5.out HT5.out _ X35.out.dev HF.out).mono ?_; rintro e y36 ⟨rfl, hb⟩; have X36 := Lib.hid (X35.out.keep hb); have C36 := Lib.hid (codL_keep C35.out hb); have G36 := Lib.hid (grownBy_below G35.out hb); have V36 := Lib.hid (V35.out.keep hb); have U36 := Lib.hid (U35.out.keep hb); have P36 := Lib.hid (RowAt.keep P35.out hb); have Q36 := Lib.hid (RowAt.keep Q35.out hb); clear hb X35 C35 G35 V35 U35 P35 Q35)    | (refine wp_loadV _ P36.out V36.out.length rfl rfl rfl ?_)
      | (refine wp_loadV _ Q36.out U36.out.length rfl rfl rfl ?_)
      | (go_at_call 15; refine (refSame_any _ _ (repD Dx) _ V36.out U36.out).mono ?_; rintro e y37 ⟨rfl, hb⟩; have X37 := Lib.hid (X36.out.keep hb); have C37 := Lib.hid (codL_keep C36.out hb); have G37 := Lib.hid (grownBy_below G36.out hb); have V37 := Lib.hid (V36.out.keep hb); have U37 := Lib.hid (U36.out.keep hb); have P37 := Lib.hid (RowAt.keep P36.out hb); have Q37 := Lib.hid (RowAt.keep Q36.out hb); clear hb X36 C36 G36 V36 U36 P36 Q36))
    go_roundw
    case measure => simp [intOf]; omega
    case rel => exact ⟨j + 1, _, by omega, by go_num, Lib.hid (TR.out.grown G37.out), Lib.hid (FR.out.grown G37.out (fun e => by injection e with e; have := KS.out; omega)), C37, Lib.hid (below_grown BR.out G37.out (Nat.le_of_lt KK.out.2.2))⟩
end Go.Proofs.Ytikpchhhenonaaa.nw
