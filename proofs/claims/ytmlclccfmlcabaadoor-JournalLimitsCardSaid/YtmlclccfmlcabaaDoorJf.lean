/- journal: Cut. -/
import Derived.Test.YtmlclccfmlcabaaDoorJe
namespace Go.Proofs.YtmlclccfmlcabaaDoor.jf
open Go.ChangeShapes Go.WideShapes Go.ChangeAt Go.RowKit Go.Proofs.YtmlclccfmlcabaaDoor.cx Go.Proofs.YtmlclccfmlcabaaDoor.ra Go.Proofs.YtmlclccfmlcabaaDoor.rb Go.Proofs.YtmlclccfmlcabaaDoor.rc Go.Proofs.YtmlclccfmlcabaaDoor.da Go.Proofs.YtmlclccfmlcabaaDoor.ea Go.Proofs.YtmlclccfmlcabaaDoor.eb Go.Proofs.YtmlclccfmlcabaaDoor.ed Go.Proofs.YtmlclccfmlcabaaDoor.fb Go.Proofs.YtmlclccfmlcabaaDoor.ka Go.Proofs.YtmlclccfmlcabaaDoor.kb Go.Proofs.YtmlclccfmlcabaaDoor.kg Go.Proofs.YtmlclccfmlcabaaDoor.kj Go.Proofs.YtmlclccfmlcabaaDoor.oa Go.Proofs.YtmlclccfmlcabaaDoor.os Go.Proofs.YtmlclccfmlcabaaDoor.od Go.Proofs.YtmlclccfmlcabaaDoor.oh Go.Proofs.YtmlclccfmlcabaaDoor.qa Go.Proofs.YtmlclccfmlcabaaDoor.qc Go.Proofs.YtmlclccfmlcabaaDoor.qd Go.Proofs.YtmlclccfmlcabaaDoor.ja Go.Proofs.YtmlclccfmlcabaaDoor.jg Go.Proofs.YtmlclccfmlcabaaDoor.jb Go.Proofs.YtmlclccfmlcabaaDoor.jc Go.Proofs.YtmlclccfmlcabaaDoor.jd Go.Proofs.YtmlclccfmlcabaaDoor.je
set_option linter.unusedSimpArgs false

theorem cutError_b (vs : List Value) (l : Lg) (n k : Int) (hk : cutE l n = k) (w : World) (h : LogV vs l w) (hf : FitsL l) :
    Calls Tryd.prog 16 #[.agg vs.toArray, .int .i64 n] w fun e w' => e = .returned (.int .i64 k) ∧ Below w.heap.size w w' := hk ▸ cutError_any vs l n w h hf
theorem sl_drop {so : Option Addr} {n cap k : Nat} {l : List Ent} {w : World} (h : Sl (.slice so n cap) 13 n (entL l) w) (hk : k ≤ n) : (so = none ∧ n = 0 ∧ cap = 0 ∧ k = 0) ∨ (∃ b off, so = some ⟨b, off, none⟩ ∧ n ≤ cap ∧ Sl (.slice (some ⟨b, off + k * 13, none⟩) (n - k) (cap - k)) 13 (n - k) (entL (l.drop k)) w ∧ (cap = k → Sl (.slice (some ⟨b, off, none⟩) (n - k) (cap - k)) 13 (n - k) (entL (l.drop k)) w)) := by
  have h0 := h
  rcases h.2.2 with ⟨e, rfl⟩ | ⟨b, off, cap', e, h1, h2, h3⟩
  · simp only [Value.slice.injEq, true_and] at e
    exact .inl ⟨e.1, rfl, e.2, by omega⟩
  · simp only [Value.slice.injEq, true_and] at e
    obtain ⟨rfl, rfl⟩ := e
    refine .inr ⟨b, off, rfl, h1, Sl.from h0 hk, fun hc => ?_⟩
    have hf := Sl.from h0 hk
    obtain ⟨a1, a2, a3⟩ := hf
    have hz : n - k = 0 := by omega
    refine ⟨a1, a2, .inr ⟨b, off, _, rfl, by omega, h2, fun i u hu => ?_⟩⟩
    have hnil : entL (l.drop k) = [] := List.eq_nil_of_length_eq_zero (by rw [a2, hz, Nat.zero_mul])
    rw [hnil] at hu
    cases hu
set_option maxRecDepth 4000 in
set_option maxHeartbeats 4000000 in
theorem cut_any (vs : List Value) (l : Lg) (n : Int) (w : World) (h : LogV vs l w) (hf : FitsL l) :
    Calls Tryd.prog 7 #[.agg vs.toArray, .int .i64 n] w (GivesL w (cutL l n) [.int .i64 (cutE l n)]) := by
  have LV := Lib.hid h
  obtain ⟨so, cap, rfl, SL⟩ := h.form
  clear h
  have HF := Lib.hid hf
  clear hf
  have HS : Hid (Sw [] w w) := Lib.hid (sw_nil w)
  by_cases c1 : cutE l n = 0
  rotate_left
  · rw [cut_no rfl c1]
    obtain ⟨q, hq⟩ : ∃ q, cutE l n = q := ⟨_, rfl⟩
    rw [hq] at c1 ⊢
    have z : (q != 0) = true := by simpa using c1
    have C1 := Lib.hid hq
    clear c1 hq
    go_enter Tryd.func7, Tryd.ntmps7
    go_wp2_with (first
    | (refine wp_load1S _ HS rfl rfl (by first | exact at0 | exact at1 | exact at2 | exact at3 | exact at4 | exact at5) (by rfl) (by decide +kernel) rfl ?_)
    | (refine wp_loadS _ HS rfl rfl (by first | exact at0 | exact at1 | exact at2 | exact at3 | exact at4 | exact at5) (sub_all _) ⟨by decide +kernel, by kernel_rfl⟩ rfl ?_)
    | (have leL := HS.out.size; refine wp_boxS _ HS rfl rfl rfl ?_; clear HS; intro WL HS ltL hbL; clear hbL)
    | (have leN := HS.out.size; refine wp_newS log0 zero_log HS rfl rfl ?_; clear HS; intro WN HS ltN hbN; clear hbN)
    | (go_at_call 16; (with_reducible refine (cutError_b _ l _ q C1.out _ (LogV.keep LV.out HS.out.below) HF.out).mono ?_); rintro ec wc ⟨rfl, hbc⟩; replace HS := Lib.hid (Sw.keep HS.out hbc); clear hbc)
    | (refine wp_storeS log0 HS rfl rfl rfl (by first | exact at0 | exact at1 | exact at2 | exact at3 | exact at4 | exact at5) (by rfl) rfl ⟨by kernel_rfl, by kernel_rfl⟩ rfl ?_; clear HS; intro Ws HS hSs; clear hSs; simp only [List.set_cons_zero, List.set_cons_succ] at HS))
    refine bodyPost_ret (resS2 rfl HS rfl at0 ⟨by decide +kernel, by kernel_rfl⟩) rfl ⟨log0, rfl, logV0 _, HS.out.below, fresh0 _⟩
  obtain ⟨i0, i1, i2, i3, i4⟩ := cutE_in c1
  rw [cut_yes c1, c1]
  have hmx := valid_is i0
  have j1 := hmx.first1
  have j3 := hmx.len
  clear hmx
  obtain ⟨k, hk⟩ : ∃ k : Nat, n = l.first + k := ⟨(n - l.first).toNat, by omega⟩
  subst hk
  have hk : k ≤ l.ents.length := by unfold lastN at i2; omega
  rw [show (l.first + (k : Int) - l.first).toNat = k by omega]
  have C1 := Lib.hid c1
  have g5 : l.ents.length - k ≤ 100000 := by omega
  clear c1 i0 i2
  rcases sl_drop SL.out hk with ⟨rfl, h1, rfl, rfl⟩ | ⟨b, off, rfl, hcap, hs1, hs2⟩
  · have SK : Hid (Sl (.slice none (l.ents.length - 0) 0) 13 (l.ents.length - 0) (entL (l.ents.drop 0)) w) := Lib.hid (by have h := SL.out; simpa using h)
    have e0 : l.first + ((0 : Nat) : Int) = l.first := by omega
    have e1 : l.ents.length - 0 = l.ents.length := by omega
    have e2 : l.ents.drop 0 = l.ents := rfl
    rw [e0] at C1
    rw [e1, e2] at SK
    rw [e0, e2]
    have H1 := Lib.hid h1
    rw [e1] at g5
    clear h1 e0 e1 e2 i1 i3 i4
    have z0 : (l.ents.length : Int) = 0 := by have := H1.out; omega
    go_enter Tryd.func7, Tryd.ntmps7
    go_wp2_with (first
    | (refine wp_load1S _ HS rfl rfl (by first | exact at0 | exact at1 | exact at2 | exact at3 | exact at4 | exact at5) (by rfl) (by decide +kernel) rfl ?_)
    | (refine wp_loadS _ HS rfl rfl (by first | exact at0 | exact at1 | exact at2 | exact at3 | exact at4 | exact at5) (sub_all _) ⟨by decide +kernel, by kernel_rfl⟩ rfl ?_)
    | (have leL := HS.out.size; refine wp_boxS _ HS rfl rfl rfl ?_; clear HS; intro WL HS ltL hbL; clear hbL)
    | (have leN := HS.out.size; refine wp_newS log0 zero_log HS rfl rfl ?_; clear HS; intro WN HS ltN hbN; clear hbN)
    | (go_at_call 16; (with_reducible refine (cutError_b _ l _ 0 C1.out _ (LogV.keep LV.out HS.out.below) HF.out).mono ?_); rintro ec wc ⟨rfl, hbc⟩; replace HS := Lib.hid (Sw.keep HS.out hbc); clear hbc)
    | (go_at_call 15; refine (clone_ent _ (l.ents.length) (entL (l.ents)) _ (SK.out.keep HS.out.below) (entL_one _) g5).mono ?_; rintro ec WD ⟨vN, rfl, hO, hbD⟩; obtain ⟨sN, kN, cN, rfl, HkN⟩ := own_form hO; have hlow : ∀ g, Value.ownBlock (.slice sN kN cN) = some g → w.heap.size < g ∧ WL.heap.size < g := (fun g hg => by have h1 := (hO.lt g hg).1; have h2 := (HS.out.row at0).lt; have h3 := (HS.out.row at1).lt; omega); have HLO := Lib.hid hlow; replace HS := Lib.hid (Sw.keep HS.out hbD); have HO := Lib.hid hO; have HONE : Hid (One (.slice sN kN cN)) := Lib.hid (own_one hO); clear hO hbD hlow)
    | (refine wp_store1S (us := (lvals l.first (.slice sN kN cN) l.dur)) _ HS rfl rfl rfl (by first | exact at0 | exact at1 | exact at2 | exact at3 | exact at4 | exact at5) (of_decide_eq_true (by rfl)) (by rfl) rfl rfl ⟨by kernel_rfl, by kernel_rfl⟩ rfl ?_; clear HS; intro Ws HS hSs; simp only [List.set_cons_zero, List.set_cons_succ] at HS; have HO2 := Lib.hid (own_storedNe HO.out hSs (fun g hg => by have := HLO.out g hg; omega)); clear hSs HO)
    | (refine wp_store1S (us := (lvals l.first (.slice sN kN cN) l.dur)) _ HS rfl rfl rfl (by first | exact at0 | exact at1 | exact at2 | exact at3 | exact at4 | exact at5) (of_decide_eq_true (by rfl)) (by rfl) rfl rfl ⟨by kernel_rfl, by kernel_rfl⟩ rfl ?_; clear HS; intro Ws HS hSs; simp only [List.set_cons_zero, List.set_cons_succ] at HS; have HO3 := Lib.hid (own_storedNe HO2.out hSs (fun g hg => by have := HLO.out g hg; omega)); clear hSs HO2)
    | (refine wp_storeS (lvals l.first (.slice sN kN cN) l.dur) HS rfl rfl rfl (by first | exact at0 | exact at1 | exact at2 | exact at3 | exact at4 | exact at5) (by rfl) (lvals_one _ _ HONE.out) ⟨by kernel_rfl, by kernel_rfl⟩ rfl ?_; clear HS; intro Ws HS hSs; have HO4 := Lib.hid (own_storedNe HO3.out hSs (fun g hg => by have := HLO.out g hg; omega)); clear hSs HO3; simp only [List.set_cons_zero, List.set_cons_succ] at HS))
    refine bodyPost_ret (resS2 rfl HS rfl at0 ⟨by decide +kernel, by kernel_rfl⟩) rfl ⟨_, rfl, ⟨_, rfl, Sl.of_own HO4.out⟩, HS.out.below, fun g hg => Nat.le_of_lt (HLO.out g hg).1⟩
  by_cases hc : cap = k
  · have SK0 := hs2 hc
    obtain rfl := hc.symm
    have hd : l.ents.drop k = [] := List.drop_of_length_le (by omega)
    have hz : l.ents.length - k = 0 := by omega
    rw [hd, hz, Nat.sub_self] at SK0
    rw [hd]
    have SK : Hid (Sl (.slice (some ⟨b, off, none⟩) 0 0) 13 0 [] w) := Lib.hid SK0
    clear SK0 hd hz hs1 hs2 g5
    have g5 : 0 ≤ 100000 := by decide
    have hkk : (l.first + (k : Int) - l.first).toNat = k := by omega
    go_enter Tryd.func7, Tryd.ntmps7
    go_wp2_with (first
    | (refine wp_load1S _ HS rfl rfl (by first | exact at0 | exact at1 | exact at2 | exact at3 | exact at4 | exact at5) (by rfl) (by decide +kernel) rfl ?_)
    | (refine wp_loadS _ HS rfl rfl (by first | exact at0 | exact at1 | exact at2 | exact at3 | exact at4 | exact at5) (sub_all _) ⟨by decide +kernel, by kernel_rfl⟩ rfl ?_)
    | (have leL := HS.out.size; refine wp_boxS _ HS rfl rfl rfl ?_; clear HS; intro WL HS ltL hbL; clear hbL)
    | (have leN := HS.out.size; refine wp_newS log0 zero_log HS rfl rfl ?_; clear HS; intro WN HS ltN hbN; clear hbN)
    | (go_at_call 16; (with_reducible refine (cutError_b _ l _ 0 C1.out _ (LogV.keep LV.out HS.out.below) HF.out).mono ?_); rintro ec wc ⟨rfl, hbc⟩; replace HS := Lib.hid (Sw.keep HS.out hbc); clear hbc)
    | (go_at_call 15; refine (clone_ent _ (0) (entL []) _ (SK.out.keep HS.out.below) (entL_one _) g5).mono ?_; rintro ec WD ⟨vN, rfl, hO, hbD⟩; obtain ⟨sN, kN, cN, rfl, HkN⟩ := own_form hO; have hlow : ∀ g, Value.ownBlock (.slice sN kN cN) = some g → w.heap.size < g ∧ WL.heap.size < g := (fun g hg => by have h1 := (hO.lt g hg).1; have h2 := (HS.out.row at0).lt; have h3 := (HS.out.row at1).lt; omega); have HLO := Lib.hid hlow; replace HS := Lib.hid (Sw.keep HS.out hbD); have HO := Lib.hid hO; have HONE : Hid (One (.slice sN kN cN)) := Lib.hid (own_one hO); clear hO hbD hlow)
    | (refine wp_store1S (us := (lvals l.first (.slice sN kN cN) l.dur)) _ HS rfl rfl rfl (by first | exact at0 | exact at1 | exact at2 | exact at3 | exact at4 | exact at5) (of_decide_eq_true (by rfl)) (by rfl) rfl rfl ⟨by kernel_rfl, by kernel_rfl⟩ rfl ?_; clear HS; intro Ws HS hSs; simp only [List.set_cons_zero, List.set_cons_succ] at HS; have HO2 := Lib.hid (own_storedNe HO.out hSs (fun g hg => by have := HLO.out g hg; omega)); clear hSs HO)
    | (refine wp_store1S (us := (lvals (l.first + k) (.slice sN kN cN) l.dur)) _ HS rfl rfl rfl (by first | exact at0 | exact at1 | exact at2 | exact at3 | exact at4 | exact at5) (of_decide_eq_true (by rfl)) (by rfl) rfl rfl ⟨by kernel_rfl, by kernel_rfl⟩ rfl ?_; clear HS; intro Ws HS hSs; simp only [List.set_cons_zero, List.set_cons_succ] at HS; have HO3 := Lib.hid (own_storedNe HO2.out hSs (fun g hg => by have := HLO.out g hg; omega)); clear hSs HO2)
    | (refine wp_storeS (lvals (l.first + k) (.slice sN kN cN) l.dur) HS rfl rfl rfl (by first | exact at0 | exact at1 | exact at2 | exact at3 | exact at4 | exact at5) (by rfl) (lvals_one _ _ HONE.out) ⟨by kernel_rfl, by kernel_rfl⟩ rfl ?_; clear HS; intro Ws HS hSs; have HO4 := Lib.hid (own_storedNe HO3.out hSs (fun g hg => by have := HLO.out g hg; omega)); clear hSs HO3; simp only [List.set_cons_zero, List.set_cons_succ] at HS))
    refine bodyPost_ret (resS2 rfl HS rfl at0 ⟨by decide +kernel, by kernel_rfl⟩) rfl ⟨_, rfl, ⟨_, rfl, Sl.of_own HO4.out⟩, HS.out.below, fun g hg => Nat.le_of_lt (HLO.out g hg).1⟩
  · have SK := Lib.hid hs1
    have hc2 : k < cap := by omega
    have hc3 : ¬ (cap = k) := hc
    have hkk : (l.first + (k : Int) - l.first).toNat = k := by omega
    go_enter Tryd.func7, Tryd.ntmps7
    clear hs1 hs2
    go_wp2_with (first
    | (refine wp_load1S _ HS rfl rfl (by first | exact at0 | exact at1 | exact at2 | exact at3 | exact at4 | exact at5) (by rfl) (by decide +kernel) rfl ?_)
    | (refine wp_loadS _ HS rfl rfl (by first | exact at0 | exact at1 | exact at2 | exact at3 | exact at4 | exact at5) (sub_all _) ⟨by decide +kernel, by kernel_rfl⟩ rfl ?_)
    | (have leL := HS.out.size; refine wp_boxS _ HS rfl rfl rfl ?_; clear HS; intro WL HS ltL hbL; clear hbL)
    | (have leN := HS.out.size; refine wp_newS log0 zero_log HS rfl rfl ?_; clear HS; intro WN HS ltN hbN; clear hbN)
    | (go_at_call 16; (with_reducible refine (cutError_b _ l _ 0 C1.out _ (LogV.keep LV.out HS.out.below) HF.out).mono ?_); rintro ec wc ⟨rfl, hbc⟩; replace HS := Lib.hid (Sw.keep HS.out hbc); clear hbc)
    | (go_at_call 15; refine (clone_ent _ (l.ents.length - k) (entL (l.ents.drop k)) _ (SK.out.keep HS.out.below) (entL_one _) g5).mono ?_; rintro ec WD ⟨vN, rfl, hO, hbD⟩; obtain ⟨sN, kN, cN, rfl, HkN⟩ := own_form hO; have hlow : ∀ g, Value.ownBlock (.slice sN kN cN) = some g → w.heap.size < g ∧ WL.heap.size < g := (fun g hg => by have h1 := (hO.lt g hg).1; have h2 := (HS.out.row at0).lt; have h3 := (HS.out.row at1).lt; omega); have HLO := Lib.hid hlow; replace HS := Lib.hid (Sw.keep HS.out hbD); have HO := Lib.hid hO; have HONE : Hid (One (.slice sN kN cN)) := Lib.hid (own_one hO); clear hO hbD hlow)
    | (refine wp_store1S (us := (lvals l.first (.slice sN kN cN) l.dur)) _ HS rfl rfl rfl (by first | exact at0 | exact at1 | exact at2 | exact at3 | exact at4 | exact at5) (of_decide_eq_true (by rfl)) (by rfl) rfl rfl ⟨by kernel_rfl, by kernel_rfl⟩ rfl ?_; clear HS; intro Ws HS hSs; simp only [List.set_cons_zero, List.set_cons_succ] at HS; have HO2 := Lib.hid (own_storedNe HO.out hSs (fun g hg => by have := HLO.out g hg; omega)); clear hSs HO)
    | (refine wp_store1S (us := (lvals (l.first + k) (.slice sN kN cN) l.dur)) _ HS rfl rfl rfl (by first | exact at0 | exact at1 | exact at2 | exact at3 | exact at4 | exact at5) (of_decide_eq_true (by rfl)) (by rfl) rfl rfl ⟨by kernel_rfl, by kernel_rfl⟩ rfl ?_; clear HS; intro Ws HS hSs; simp only [List.set_cons_zero, List.set_cons_succ] at HS; have HO3 := Lib.hid (own_storedNe HO2.out hSs (fun g hg => by have := HLO.out g hg; omega)); clear hSs HO2)
    | (refine wp_storeS (lvals (l.first + k) (.slice sN kN cN) l.dur) HS rfl rfl rfl (by first | exact at0 | exact at1 | exact at2 | exact at3 | exact at4 | exact at5) (by rfl) (lvals_one _ _ HONE.out) ⟨by kernel_rfl, by kernel_rfl⟩ rfl ?_; clear HS; intro Ws HS hSs; have HO4 := Lib.hid (own_storedNe HO3.out hSs (fun g hg => by have := HLO.out g hg; omega)); clear hSs HO3; simp only [List.set_cons_zero, List.set_cons_succ] at HS))
    have HO5 := HO4.out
    rw [← List.length_drop] at HO5
    refine bodyPost_ret (resS2 rfl HS rfl at0 ⟨by decide +kernel, by kernel_rfl⟩) rfl ⟨_, rfl, ⟨_, rfl, Sl.of_own HO5⟩, HS.out.below, fun g hg => Nat.le_of_lt (HLO.out g hg).1⟩
end Go.Proofs.YtmlclccfmlcabaaDoor.jf
