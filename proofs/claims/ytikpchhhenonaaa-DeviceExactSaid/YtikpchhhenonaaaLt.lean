/- Write: the program. -/
import Derived.Test.YtikpchhhenonaaaLs
namespace Go.Proofs.Ytikpchhhenonaaa.lt
open Go.ChangeShapes Go.WideShapes Go.ChangeAt Go.RowKit Go.Proofs.Ytikpchhhenonaaa.cx Go.Proofs.Ytikpchhhenonaaa.ra Go.Proofs.Ytikpchhhenonaaa.la Go.Proofs.Ytikpchhhenonaaa.lb Go.Proofs.Ytikpchhhenonaaa.lc Go.Proofs.Ytikpchhhenonaaa.ld Go.Proofs.Ytikpchhhenonaaa.le Go.Proofs.Ytikpchhhenonaaa.lf Go.Proofs.Ytikpchhhenonaaa.lg Go.Proofs.Ytikpchhhenonaaa.lh Go.Proofs.Ytikpchhhenonaaa.li Go.Proofs.Ytikpchhhenonaaa.lj Go.Proofs.Ytikpchhhenonaaa.lk Go.Proofs.Ytikpchhhenonaaa.ll Go.Proofs.Ytikpchhhenonaaa.lm Go.Proofs.Ytikpchhhenonaaa.ln Go.Proofs.Ytikpchhhenonaaa.lo Go.Proofs.Ytikpchhhenonaaa.lp Go.Proofs.Ytikpchhhenonaaa.lq Go.Proofs.Ytikpchhhenonaaa.lr Go.Proofs.Ytikpchhhenonaaa.ls

/-- The device that Write returns with an error. -/
def writeErrD (_ : Dev) : Dev := noDev
def writeR (d : Dev) (page : Int) (s : ByteArray) : Dev := if writeE d page s = 0 then writeD d page s else writeErrD d
theorem writeError_b (vs : List Value) (d : Dev) (page : Int) (s : ByteArray) (n : Int) (hn : writeE d page s = n) (w : World) (h : DevV vs d w) (hf : FitsD d) :
    Calls Try.prog 39 #[.agg vs.toArray, .int .i64 page, .string s] w fun e w' => e = .returned (.int .i64 n) ∧ Below w.heap.size w w' := hn ▸ writeError_any vs d page s w h hf
/-- The lists of a device value lie in no block ahead of b. -/
def Lo (b : Nat) (vs : List Value) : Prop := ∀ v ∈ vs, ∀ g, v.ownBlock = some g → b ≤ g
theorem lo_dvals {b : Nat} {vp vu vf : Value} {n : Int} {z : Bool} (h1 : ∀ g, vp.ownBlock = some g → b ≤ g) (h2 : ∀ g, vu.ownBlock = some g → b ≤ g) (h3 : ∀ g, vf.ownBlock = some g → b ≤ g) : Lo b (dvals vp n vu z vf) := fun v hv g hg => by
  simp only [dvals, List.mem_cons, List.not_mem_nil, or_false] at hv
  rcases hv with rfl | rfl | rfl | rfl | rfl
  · exact h1 g hg
  · cases hg
  · exact h2 g hg
  · cases hg
  · exact h3 g hg
theorem lo_zero (b : Nat) : Lo b dev0 := lo_dvals (fun _ h => by cases h) (fun _ h => by cases h) (fun _ h => by cases h)
theorem own_dv {B R : Nat} {vp vu vf : Value} {d : Dev} {w0 w w' : World} (hB : B < R) (hR : R < w0.heap.size) (hr : RowAt B (dvals vp d.writes vu d.dead vf) w') (hs : StoredAt B w w')
    (h1 : w.ownsRow w0.heap.size 9 1 vp d.pages.length (strL d.pages)) (h2 : w.ownsRow w0.heap.size 3 1 vu d.unr.length (intL d.unr)) (h3 : w.ownsRow w0.heap.size 29 6 vf d.faults.length (fltL d.faults))
    (a1 : Apart vp vu) (a2 : Apart vp vf) (a3 : Apart vu vf) (hle : w0.heap.size ≤ w.heap.size) : Dv B [R] vp vu vf d w' := by
  have p := fun g e => (h1.lt g e).1
  have u := fun g e => (h2.lt g e).1
  have f := fun g e => (h3.lt g e).1
  refine ⟨hr, own_base (own_storedNe h1 hs (fun g e => by have := p g e; omega)) (by omega), own_base (own_storedNe h2 hs (fun g e => by have := u g e; omega)) (by omega), own_base (own_storedNe h3 hs (fun g e => by have := f g e; omega)) (by omega),
    fun e => by have := p B e; omega, fun e => by have := u B e; omega, fun e => by have := f B e; omega, a1, a2, a3, fun k hk => ?_⟩
  obtain rfl : k = R := by simpa using hk
  exact ⟨by rw [hs.size]; omega, by omega, fun e => by have := p k e; omega, fun e => by have := u k e; omega, fun e => by have := f k e; omega⟩
set_option maxHeartbeats 8000000 in
set_option maxRecDepth 4000 in
theorem write_any (vs : List Value) (d : Dev) (page : Int) (s : ByteArray) (w : World) (h : DevV vs d w) (hf : FitsD d) :
    Calls Try.prog 20 #[.agg vs.toArray, .int .i64 page, .string s] w fun e w' => ∃ vs', e = .returned (.tuple #[.agg vs'.toArray, .int .i64 (writeE d page s)]) ∧ DevV vs' (writeR d page s) w' ∧ (∀ b, b ≤ w.heap.size → (writeE d page s = 0 ∨ Lo b vs) → Lo b vs') ∧ Below w.heap.size w w' := by
  obtain ⟨sp, cp, su, cu, sf, cf, rfl, P, U, F⟩ := h.form
  have DV := Lib.hid h
  have HF := Lib.hid hf
  clear h P U F hf
  by_cases c1 : writeE d page s = 0
  rotate_left
  · have E : Hid (writeR d page s = writeErrD d) := Lib.hid (by unfold writeR; rw [if_neg c1])
    have hz : (writeE d page s == 0) = false := by simpa using c1
    obtain ⟨n, hn⟩ : ∃ n, writeE d page s = n := ⟨_, rfl⟩
    rw [hn] at hz
    have HN := Lib.hid hn
    clear c1 hn
    go_enter Try.func20, Try.ntmps20
    go_wp2_with (first
      | (refine wp_boxW (dvals (.slice sp d.pages.length cp) d.writes (.slice su d.unr.length cu) d.dead (.slice sf d.faults.length cf)) _ rfl rfl rfl ?_; intro w0 hP hb0 hz0; have HB0 := Lib.hid hb0; have HD0 := Lib.hid hP; clear hP hb0)
      | (refine wp_newW dev0 _ zero_dev rfl rfl ?_; intro w1 hP hb1 hz1; have HB1 := Lib.hid (HB0.out.trans (hb1.mono HB0.out.size)); have HD1 := Lib.hid (HD0.out.keep hb1); have HR1 := Lib.hid hP; have HV1 := Lib.hid (DV.out.keep HB1.out); clear hP hb1 HD0 HB0)
      | (refine wp_loadDev _ _ _ _ _ HD1.out rfl rfl rfl ?_)
      | (refine wp_loadDev _ _ _ _ _ HD2.out rfl rfl rfl ?_)
      | (go_at_call 39; (with_reducible refine (writeError_b _ d page s n HN.out _ HV1.out HF.out).mono ?_); rintro e w2 ⟨rfl, hb2⟩; have HB2 := Lib.hid (HB1.out.trans (hb2.mono HB1.out.size)); have HD2 := Lib.hid (HD1.out.keep hb2); have HR2 := Lib.hid (HR1.out.keep hb2); have HV2 := Lib.hid (HV1.out.keep hb2); clear hb2 HB1 HD1 HR1 HV1)
      | (refine wp_storeDevW nil3 0 nil3 false nil3 (one_slice ..) (one_slice ..) (one_slice ..) HR2.out rfl rfl rfl rfl rfl ?_; intro w3 hP hS; have HR3 := Lib.hid hP; have HB3 := Lib.hid (hS.below HB2.out (Nat.le_of_lt hz0)); clear hP hS))
    refine bodyPost_ret (res_devE rfl rfl HR3.out rfl) rfl ⟨_, by rw [HN.out]; rfl, ?_, fun b _ _ => lo_zero b, HB3.out⟩
    rw [E.out]
    exact devV0 _
  obtain ⟨ha, hss, hw9⟩ := write_in c1
  obtain ⟨hv, _, hp0, hp1⟩ := access_in ha
  have IV := Lib.hid (valid_is hv)
  have E : Hid (writeR d page s = writeD d page s) := Lib.hid (by unfold writeR; rw [if_pos c1])
  obtain ⟨k, rfl⟩ : ∃ k : Nat, page = (k : Int) := ⟨page.toNat, by omega⟩
  have hkl : k < d.pages.length := by omega
  have hw0 := IV.out.writes.1
  have hw1 : d.writes < 1099511627776 := by have := IV.out.writes.2; omega
  have HN := Lib.hid c1
  have HNN := HN
  have SS := Lib.hid hss
  have L1 := Lib.hid (show d.pages.length ≤ 1000 by have := IV.out.pages.1.2; omega)
  have L2 := Lib.hid (show d.unr.length ≤ 1000 by have := IV.out.unrLen; omega)
  have L3 := Lib.hid (show d.faults.length ≤ 1000 by have := IV.out.faults.1; omega)
  have DL := Lib.hid (show (dueF (countD d)).length ≤ 64 from Nat.le_trans (due_len _) IV.out.faults.1)
  have FM := Lib.hid (show ∀ f ∈ dueF (countD d), okFault d f = true from fun f hf => IV.out.faults.2 f (due_mem (d := countD d) hf))
  have FT := Lib.hid (fate_of (m := d.pages.length) (dueF (countD d)) fun f hf => by have := okFault_in (FM.out f hf); exact ⟨this.2.2.1, this.2.2.2⟩)
  have G0 : Hid (Goes d.pages.length { countD d with faults := restF (countD d) }) := Lib.hid ⟨rfl, IV.out.pages.2, IV.out.unr.1⟩
  have G1 := Lib.hid (goes_carry (k := k) (s := s) G0.out hkl hss FT.out)
  have U1 := Lib.hid (show (carryD { countD d with faults := restF (countD d) } k s (becomeF (dueF (countD d)))).unr.length ≤ 64 from Nat.le_trans (carry_unr_len ..) IV.out.unrLen)
  clear c1 hss hv ha hw9
  rename_i hdead
  clear hdead
  go_enter Try.func20, Try.ntmps20
  go_wp2_with (first
    | (refine wp_boxW (dvals (.slice sp d.pages.length cp) d.writes (.slice su d.unr.length cu) d.dead (.slice sf d.faults.length cf)) _ rfl rfl rfl ?_; intro w0 hP hb0 hz0; have HB0 := Lib.hid hb0; have HD0 := Lib.hid hP; clear hP hb0)
    | (refine wp_newW dev0 _ zero_dev rfl rfl ?_; intro w1 hP hb1 hz1; have HB1 := Lib.hid (HB0.out.trans (hb1.mono HB0.out.size)); have HD1 := Lib.hid (HD0.out.keep hb1); have HR1 := Lib.hid hP; have HV1 := Lib.hid (DV.out.keep HB1.out); clear hP hb1 HD0 HB0)
    | (refine wp_loadDev _ _ _ _ _ HD1.out rfl rfl rfl ?_)
    | (refine wp_loadDev _ _ _ _ _ HD2.out rfl rfl rfl ?_)
    | (go_at_call 39; (with_reducible refine (writeError_b _ d _ s 0 HN.out _ HV1.out HF.out).mono ?_); rintro e w2 ⟨rfl, hb2⟩; have hz2 := hb2.size; have HB2 := Lib.hid (HB1.out.trans (hb2.mono HB1.out.size)); have HD2 := Lib.hid (HD1.out.keep hb2); have HR2 := Lib.hid (HR1.out.keep hb2); have HV2 := Lib.hid (HV1.out.keep hb2); clear hb2 HB1 HD1 HR1 HV1)
    | (go_at_call 40; refine (own_any _ d _ HV2.out L1.out L2.out L3.out).mono ?_; rintro e w3 ⟨vp, vu, vf, rfl, o1, o2, o3, p1, p2, p3, hb3⟩; have hz3 := hb3.size; have HB3 := Lib.hid (HB2.out.trans (hb3.mono HB2.out.size)); have HD3 := Lib.hid (HD2.out.keep hb3); have HR3 := Lib.hid (HR2.out.keep hb3); have O1 := Lib.hid o1; have O2 := Lib.hid o2; have O3 := Lib.hid o3; have A1 := Lib.hid p1; have A2 := Lib.hid p2; have A3 := Lib.hid p3; clear hb3 o1 o2 o3 p1 p2 p3 HB2 HD2 HR2 HV2)
    | (refine wp_storeDevW vp d.writes vu d.dead vf (one_own O1.out) (one_own O2.out) (one_own O3.out) HD3.out rfl rfl rfl rfl rfl ?_; intro w4 hP hS; have D4 := Lib.hid (own_dv (B := w.heap.size) (R := w0.heap.size) (w0 := w2) hz0 (by omega) hP hS O1.out O2.out O3.out A1.out A2.out A3.out hz3); have HR4 := Lib.hid (hS.row HR3.out (Nat.ne_of_lt hz0)); have HB4 := Lib.hid (hS.below HB3.out (Nat.le_refl _)); obtain ⟨a0, a1, a2, a3, a4⟩ := D4.out.row.all5; clear hP hS O1 O2 O3 A1 A2 A3 HD3 HR3 HB3)
    | (refine wp_storeFieldW 3 (.int .i64 (d.writes + 1)) rfl rfl info_int1 D4.out.row (show 1 < 5 by decide) rfl rfl rfl rfl ?_; intro w5 hP hS; have D5 := Lib.hid (D4.out.setRow (n := d.writes + 1) (b := d.dead) (d' := countD d) hS hP rfl); have K5 := Lib.hid (Kp.stored (X := [w0.heap.size]) (fun k hk => (D4.out.outs k hk).2.1) hS); clear a0 a1 a2 a3 a4 hP hS D4)
    | (go_at_call 41; refine (takeDue_any w.heap.size [w0.heap.size] vp vu vf (countD d) _ D5.out L3.out).mono ?_; rintro e w6 ⟨v, vf', rfl, hO, hD, hK⟩; obtain ⟨sv, cv, rfl, _⟩ := (Sl.of_own hO).form; have D6 := Lib.hid hD; have O6 := Lib.hid hO; have K6 := Lib.hid (K5.out.trans hK); clear hO hD hK D5 K5)
    | (go_at_call 43; (with_reducible refine (becomes_any _ (dueF (countD d)) _ (Sl.of_own O6.out)).mono ?_); rintro e w7 ⟨rfl, hb7⟩; have D7 := Lib.hid (D6.out.keep hb7); have K7 := Lib.hid (K6.out.trans (D6.out.kp hb7 |> fun h => ⟨h.1, fun k hk => h.2 k (List.mem_append_right _ hk)⟩)); have O7 := Lib.hid (own_keep O6.out hb7); clear hb7 D6 K6 O6)
    | (go_at_call 42; refine (carryOut_any w.heap.size _ vp vu vf' _ k s _ _ D7.out hkl IV.out.pages.2 SS.out FT.out L2.out).mono ?_; rintro e w8 ⟨rfl, vu2, hD, hb, hK⟩; have D8 := Lib.hid hD; have K8 := Lib.hid (K7.out.trans ⟨hK.1, fun k hk => hK.2 k (List.mem_append_right _ hk)⟩); have O8 := Lib.hid (own_heap O7.out fun g e => hK.2 g (List.mem_append_left _ (by rw [e]; simp))); clear hD hb hK D7 K7 O7))
  have HR8 := Lib.hid (HR4.out.same (K8.out.2 w0.heap.size (by simp)))
  have HB8 := Lib.hid (HB4.out.trans K8.out.1)
  have hdl := DL.out
  clear K8 HR4 HB4 L1 L2 L3 FT G0 HF IV HN SS DV
  go_loopw [11, 34] (fun _ s34 wr => ∃ (kk : Nat) (vu3 : Value), kk ≤ (dueF (countD d)).length ∧ s34 = .int .i64 kk ∧
      Hid (Dv w.heap.size ((Value.slice sv (dueF (countD d)).length cv).ownBlock.toList ++ [w0.heap.size]) vp vu3 vf' (((dueF (countD d)).take kk).foldl harmD (carryD { countD d with faults := restF (countD d) } k s (becomeF (dueF (countD d))))) wr) ∧
      Hid (Below w.heap.size w wr) ∧ Hid (RowAt w0.heap.size dev0 wr) ∧ Hid (wr.ownsRow w5.heap.size 29 6 (.slice sv (dueF (countD d)).length cv) (dueF (countD d)).length (fltL (dueF (countD d))))) (fun _ s34 _ => (dueF (countD d)).length - (intOf s34).toNat)
  case atStart => exact ⟨0, vu2, Nat.zero_le _, rfl, D8, HB8, HR8, O8⟩
  case round =>
    obtain ⟨kk, vu3, hkk, rfl, D9, B9, R9, O9⟩ := hrel
    clear D8 HB8 HR8 O8
    by_cases hlt : kk < (dueF (countD d)).length
    · have hltz : (kk : Int) < ((dueF (countD d)).length : Int) := by omega
      have q0 : (0 : Int) ≤ (kk : Int) := by omega
      obtain ⟨x, hx⟩ : ∃ x, (dueF (countD d))[kk]? = some x := ⟨_, List.getElem?_eq_getElem hlt⟩
      have XF := Lib.hid (okFault_in (FM.out x (List.mem_of_getElem? hx)))
      have GH := Lib.hid (goes_harms ((dueF (countD d)).take kk) G1.out (fun f hf => (okFault_in (FM.out f (List.mem_of_mem_take hf))).2.1))
      have GL : Hid ((((dueF (countD d)).take kk).foldl harmD (carryD { countD d with faults := restF (countD d) } k s (becomeF (dueF (countD d))))).unr.length ≤ 1000) := Lib.hid (by
        have h1 := GH.out.2
        have h2 := U1.out
        rw [List.length_take] at h1
        exact Nat.le_trans h1 (Nat.le_trans (Nat.add_le_add h2 (Nat.min_le_right _ _)) (by omega)))
      have NX : Hid (((dueF (countD d)).take (kk + 1)).foldl harmD (carryD { countD d with faults := restF (countD d) } k s (becomeF (dueF (countD d)))) = harmD (((dueF (countD d)).take kk).foldl harmD (carryD { countD d with faults := restF (countD d) } k s (becomeF (dueF (countD d))))) x) := Lib.hid (by
        rw [List.take_add_one, hx, List.foldl_append]; rfl)
      obtain ⟨gv, cv', e, _, hgv⟩ := O9.out.form (by omega)
      simp only [Value.slice.injEq, true_and] at e
      obtain ⟨rfl, rfl⟩ := e
      have LC : Hid (∀ t u, x.vals[t]? = some u → wr.cell? ⟨gv, kk * 6 + t, none⟩ = some u) := Lib.hid fun t u hu => by
        rw [O9.out.cellAt _ (by have ht : t < 6 := (List.getElem?_eq_some_iff.1 hu).1; omega)]
        exact fltL_at _ kk x t u hx hu
      clear hx
      generalize ((dueF (countD d)).take kk).foldl harmD (carryD { countD d with faults := restF (countD d) } k s (becomeF (dueF (countD d)))) = D at *
      go_wp2_with (first
        | (refine wp_loadFltAt x (kk * 6) LC.out rfl rfl rfl ?_)
        | (refine wp_newW flt0.vals _ zero_flt rfl rfl ?_; intro wa hP hb1 _; have N1 := Lib.hid hP; have M1 := Lib.hid hb1; clear hP hb1 LC)
        | (refine wp_storeFltW x N1.out rfl rfl rfl rfl rfl ?_; intro wb hP hS; have NB := Lib.hid hP; have MB := Lib.hid (hS.below M1.out (Nat.le_refl _)); have DB := Lib.hid (D9.out.keep MB.out); have BB := Lib.hid (B9.out.trans (MB.out.mono B9.out.size)); have RB := Lib.hid (R9.out.keep MB.out); have OB := Lib.hid (own_keep O9.out MB.out); clear hP hS N1 M1 MB D9 B9 R9 O9)
        | (refine wp_loadFlt x NB.out rfl rfl rfl ?_)
        | (go_at_call 44; refine (harm_any w.heap.size _ vp vu3 vf' D x _ DB.out GH.out.1.size (by rw [GH.out.1.len]; exact XF.out.2.1) XF.out.2.2.2 GH.out.1.asc GL.out).mono ?_; rintro e wc ⟨rfl, vu4, hD, hK⟩; have DC := Lib.hid hD; have BC := Lib.hid (BB.out.trans hK.1); have RC := Lib.hid (RB.out.same (hK.2 w0.heap.size (by simp))); have OC := Lib.hid (own_heap OB.out fun g e => hK.2 g (List.mem_append_left _ (by rw [e]; simp))); clear hD hK DB BB RB OB NB))
      go_roundw
      case measure => simp [intOf]; omega
      case rel => exact ⟨kk + 1, vu4, by omega, by go_num, by rw [NX.out]; exact DC, BC, RC, OC⟩
    · have hltz : ¬ (kk : Int) < ((dueF (countD d)).length : Int) := by omega
      have hke : kk = (dueF (countD d)).length := by omega
      have FIN : Hid (((dueF (countD d)).take kk).foldl harmD (carryD { countD d with faults := restF (countD d) } k s (becomeF (dueF (countD d)))) = writeD d (k : Int) s) := Lib.hid (by
        rw [hke, List.take_length]
        unfold writeD
        rw [Int.toNat_natCast])
      clear hke
      generalize ((dueF (countD d)).take kk).foldl harmD (carryD { countD d with faults := restF (countD d) } k s (becomeF (dueF (countD d)))) = D at *
      have HO := Lib.hid (D9.out.outs w0.heap.size (by simp))
      go_wp2_with (first
        | (refine wp_loadDev _ _ _ _ _ D9.out.row rfl rfl rfl ?_)
        | (refine wp_storeDevW vp D.writes vu3 D.dead vf' (one_own D9.out.pages) (one_own D9.out.unr) (one_own D9.out.faults) R9.out rfl rfl rfl rfl rfl ?_; intro wb hP hS; have RB := Lib.hid hP; have VB : Hid (DevV (dvals vp D.writes vu3 D.dead vf') D wb) := Lib.hid ⟨vp, vu3, vf', rfl, Sl.of_own (own_storedNe D9.out.pages hS (fun g e e' => HO.out.2.2.1 (by rw [e, e']))), Sl.of_own (own_storedNe D9.out.unr hS (fun g e e' => HO.out.2.2.2.1 (by rw [e, e']))), Sl.of_own (own_storedNe D9.out.faults hS (fun g e e' => HO.out.2.2.2.2 (by rw [e, e'])))⟩; have BB := Lib.hid (hS.below B9.out (Nat.le_of_lt hz0)); clear hP hS))
      refine bodyPost_ret (res_devE rfl rfl RB.out rfl) rfl ⟨_, by rw [HNN.out]; rfl, ?_, fun b hb _ => lo_dvals (fun g e => Nat.le_trans hb (D9.out.pages.lt g e).1) (fun g e => Nat.le_trans hb (D9.out.unr.lt g e).1) (fun g e => Nat.le_trans hb (D9.out.faults.lt g e).1), BB.out⟩
      rw [E.out, ← FIN.out]
      exact VB.out
end Go.Proofs.Ytikpchhhenonaaa.lt
