/- Which devices and faults are valid: the program. -/
import Derived.Test.YtikpchhhenonaaaLg
import Derived.Laws.StructEq
namespace Go.Proofs.Ytikpchhhenonaaa.lh
open Go.ChangeShapes Go.WideShapes Go.ChangeAt Go.RowKit Go.Proofs.Ytikpchhhenonaaa.cx Go.Proofs.Ytikpchhhenonaaa.ra Go.Proofs.Ytikpchhhenonaaa.la Go.Proofs.Ytikpchhhenonaaa.lb Go.Proofs.Ytikpchhhenonaaa.lc Go.Proofs.Ytikpchhhenonaaa.ld Go.Proofs.Ytikpchhhenonaaa.lg

theorem _root_.Go.Proofs.Ytikpchhhenonaaa.lb.DevV.form {vs : List Value} {d : Dev} {w : World} (h : DevV vs d w) : ∃ sp cp su cu sf cf, vs = dvals (.slice sp d.pages.length cp) d.writes (.slice su d.unr.length cu) d.dead (.slice sf d.faults.length cf) ∧
    Hid (Sl (.slice sp d.pages.length cp) 1 d.pages.length (strL d.pages) w) ∧ Hid (Sl (.slice su d.unr.length cu) 1 d.unr.length (intL d.unr) w) ∧ Hid (Sl (.slice sf d.faults.length cf) 6 d.faults.length (fltL d.faults) w) := by
  obtain ⟨vp, vu, vf, rfl, h1, h2, h3⟩ := h
  obtain ⟨sp, cp, rfl, _⟩ := h1.form
  obtain ⟨su, cu, rfl, _⟩ := h2.form
  obtain ⟨sf, cf, rfl, _⟩ := h3.form
  exact ⟨sp, cp, su, cu, sf, cf, rfl, h1, h2, h3⟩
theorem Sl.len_le {v : Value} {k n : Nat} {xs : List Value} {w : World} (h : Sl v k n xs w) : n ≤ 9223372036854775807 := by have := h.1; unfold maxLen at this; omega
def inR (n : Int) (m : Nat) : Bool := decide (0 ≤ n ∧ n < (m : Int))
theorem hasPage_any (vs : List Value) (d : Dev) (n : Int) (w : World) (h : DevV vs d w) :
    Calls Try.prog 70 #[.agg vs.toArray, .int .i64 n] w fun e w' => e = .returned (.bool (inR n d.pages.length)) ∧ Below w.heap.size w w' := by
  obtain ⟨sp, cp, su, cu, sf, cf, rfl, P, _, _⟩ := h.form
  have hlen := Sl.len_le P.out
  clear h P
  generalize d.pages.length = m at *
  by_cases h0 : 0 ≤ n
  · have hv : inR n m = decide (n < (m : Int)) := by unfold inR; simp [h0]
    rw [hv]; clear hv
    go_enter Try.func70, Try.ntmps70
    go_wp2_with (first
      | (refine wp_boxW _ _ rfl rfl rfl ?_; intro w0 hP hb0 hz0; have HB := Lib.hid hb0; obtain ⟨a0, a1, a2, a3, a4⟩ := hP.all5; clear hP hb0 hz0))
    go_ret
    exact ⟨rfl, HB.out⟩
  · have hv : inR n m = false := decide_eq_false (fun h => h0 h.1)
    rw [hv]; clear hv
    have hd : decide (0 ≤ n) = false := by simpa using h0
    go_enter Try.func70, Try.ntmps70
    go_wp2_with (first
      | (refine wp_boxW _ _ rfl rfl rfl ?_; intro w0 hP hb0 hz0; have HB := Lib.hid hb0; obtain ⟨a0, a1, a2, a3, a4⟩ := hP.all5; clear hP hb0 hz0))
    go_ret
    exact ⟨rfl, HB.out⟩
theorem hasPage_b (vs : List Value) (d : Dev) (n : Int) (b : Bool) (hb : inR n d.pages.length = b) (w : World) (h : DevV vs d w) :
    Calls Try.prog 70 #[.agg vs.toArray, .int .i64 n] w fun e w' => e = .returned (.bool b) ∧ Below w.heap.size w w' := hb ▸ hasPage_any vs d n w h
def okWrites (n : Int) : Bool := decide (0 ≤ n ∧ n ≤ 1099511627776)
theorem validWrites_any (n : Int) (w : World) :
    Calls Try.prog 49 #[.int .i64 n] w fun e w' => e = .returned (.bool (okWrites n)) ∧ w = w' := by
  by_cases h0 : 0 ≤ n
  · have hv : okWrites n = decide (n ≤ 1099511627776) := by unfold okWrites; simp [h0]
    rw [hv]; clear hv
    go_enter Try.func49, Try.ntmps49
    go_wp2
    go_ret
    exact ⟨rfl, rfl⟩
  · have hv : okWrites n = false := decide_eq_false (fun h => h0 h.1)
    rw [hv]; clear hv
    have hd : decide (0 ≤ n) = false := by simpa using h0
    go_enter Try.func49, Try.ntmps49
    go_wp2
    go_ret
    exact ⟨rfl, rfl⟩
def okPages (l : List ByteArray) : Bool := decide (1 ≤ l.length ∧ l.length ≤ 64) && l.all fun s => s.size == 256
theorem okPages_iff {l : List ByteArray} : okPages l = true ↔ (1 ≤ l.length ∧ l.length ≤ 64) ∧ ∀ s ∈ l, s.size = 256 := by
  unfold okPages
  simp [List.all_eq_true]
/-- No string of the device is longer than anything may be. -/
abbrev FitsD (d : Dev) : Prop := ∀ s ∈ d.pages, s.size ≤ 9223372036854775807
set_option maxHeartbeats 1000000 in
theorem validPages_any (v : Value) (l : List ByteArray) (w : World) (h : Sl v 1 l.length (strL l) w) (hf : ∀ s ∈ l, s.size ≤ 9223372036854775807) :
    Calls Try.prog 48 #[v] w fun e w' => e = .returned (.bool (okPages l)) ∧ Below w.heap.size w w' := by
  obtain ⟨so, cap, rfl, hcap⟩ := h.form
  have hlen := Sl.len_le h
  have H3 := Lib.hid h.2.2
  have HF := Lib.hid hf
  clear h hf
  have hvc := validCount_any (l.length : Int)
  have HV := Lib.hid hvc
  clear hvc
  by_cases hc : 1 ≤ (l.length : Int) ∧ (l.length : Int) ≤ 64
  rotate_left
  · have hv : okPages l = false := by
      rw [Bool.eq_false_iff]; intro hh; rw [okPages_iff] at hh; exact hc ⟨by omega, by omega⟩
    rw [hv]; clear hv
    rw [decide_eq_false hc] at HV
    clear hc
    go_enter Try.func48, Try.ntmps48
    go_wp2_with (first
      | (go_at_call 34; (with_reducible refine (HV.out _).mono ?_); rintro e w1 ⟨rfl, rfl⟩))
    go_ret
    exact ⟨rfl, Below.refl _ _⟩
  rw [decide_eq_true hc] at HV
  go_enter Try.func48, Try.ntmps48
  go_wp2_with (first
    | (go_at_call 34; (with_reducible refine (HV.out _).mono ?_); rintro e w1 ⟨rfl, rfl⟩))
  go_loopw [4, 11] (fun _ s11 wr => ∃ kk : Nat, kk ≤ l.length ∧ s11 = .int .i64 kk ∧ Hid (Below w.heap.size w wr) ∧ Hid (∀ j y, j < kk → l[j]? = some y → y.size = 256)) (fun _ s11 _ => l.length - (intOf s11).toNat)
  case atStart => exact ⟨0, Nat.zero_le _, rfl, Below.refl _ w, fun j _ hj => absurd hj (Nat.not_lt_zero _)⟩
  case round =>
    obtain ⟨kk, hkk, rfl, BW, A⟩ := hrel
    by_cases hlt : kk < l.length
    · have hltz : (kk : Int) < (l.length : Int) := by omega
      have q0 : (0 : Int) ≤ (kk : Int) := by omega
      obtain ⟨x, hx⟩ : ∃ x, l[kk]? = some x := ⟨_, List.getElem?_eq_getElem hlt⟩
      obtain ⟨b, off, hso, hb, HC⟩ : ∃ b off, so = some ⟨b, off, none⟩ ∧ b < w.heap.size ∧ Hid (∀ i u, (strL l)[i]? = some u → w.cell? ⟨b, off + i, none⟩ = some u) := by
        rcases H3.out with ⟨_, h0⟩ | ⟨b, off, cap', e, _, hb, hcc⟩
        · omega
        · simp only [Value.slice.injEq, true_and] at e
          exact ⟨b, off, e.1, hb, Lib.hid hcc⟩
      subst hso
      have lc : wr.cell? ⟨b, off + kk, none⟩ = some (.string x) := by
        rw [BW.out.cell (p := ⟨b, off + kk, none⟩) hb]
        exact HC.out _ _ (strL_at hx)
      have hxs : x.size ≤ 9223372036854775807 := HF.out x (List.mem_of_getElem? hx)
      have HX := Lib.hid hx
      clear hx
      by_cases hq : x.size = 256
      · have HQ := Lib.hid hq
        have hq' : ((x.size : Int) == 256) = true := by simp; omega
        clear hq
        go_wp2
        go_roundw
        case measure => simp [intOf]; omega
        case rel =>
          refine ⟨kk + 1, by omega, by go_num, BW, Lib.hid fun j y hj hy => ?_⟩
          by_cases e : j = kk
          · subst e
            rw [HX.out] at hy
            injection hy with hy
            rw [← hy]; exact HQ.out
          · exact A.out j y (by omega) hy
      · have hv : okPages l = false := by
          rw [Bool.eq_false_iff]; intro hh; rw [okPages_iff] at hh; exact hq (hh.2 x (List.mem_of_getElem? HX.out))
        have hq' : ((x.size : Int) == 256) = false := by simp; omega
        have HVV := Lib.hid hv
        clear hv hq
        go_wp2
        go_ret
        exact ⟨by rw [HVV.out]; rfl, BW.out⟩
    · have hltz : ¬ (kk : Int) < (l.length : Int) := by omega
      obtain rfl : kk = l.length := by omega
      have hv : okPages l = true := okPages_iff.2 ⟨⟨by omega, by omega⟩, fun s hs => by
        obtain ⟨j, hj, rfl⟩ := List.mem_iff_getElem.1 hs
        exact A.out j _ hj (List.getElem?_eq_getElem hj)⟩
      have HVV := Lib.hid hv
      clear hv
      go_wp2
      go_ret
      exact ⟨by rw [HVV.out]; rfl, BW.out⟩
def okUnr (m : Nat) : Int → List Int → Bool
  | _, [] => true
  | least, x :: r => (decide (least ≤ x) && inR x m) && okUnr m (x + 1) r
set_option maxHeartbeats 1000000 in
theorem validUnreadable_any (vs : List Value) (d : Dev) (w : World) (h : DevV vs d w) (hm : d.pages.length ≤ 64) :
    Calls Try.prog 50 #[.agg vs.toArray] w fun e w' => e = .returned (.bool (okUnr d.pages.length 0 d.unr)) ∧ Below w.heap.size w w' := by
  obtain ⟨sp, cp, su, cu, sf, cf, rfl, P, U, F⟩ := h.form
  have DV := Lib.hid h
  have hlen := Sl.len_le U.out
  clear h
  go_enter Try.func50, Try.ntmps50
  go_wp2_with (first
    | (refine wp_boxW _ _ rfl rfl rfl ?_; intro w0 hP hb0 hz0; have HB := Lib.hid hb0; have HP := Lib.hid hP; have HD := Lib.hid (DV.out.keep hb0); obtain ⟨a0, a1, a2, a3, a4⟩ := hP.all5; clear hP hb0 hz0))
  go_loopw [3, 5, 9] (fun s3 _ s9 wr => ∃ (kk : Nat) (least : Int), kk ≤ d.unr.length ∧ s9 = .int .i64 kk ∧ s3 = .int .i64 least ∧ 0 ≤ least ∧ least ≤ 64 ∧ Hid (Below w0.heap.size w0 wr) ∧ Hid (okUnr d.pages.length 0 d.unr = okUnr d.pages.length least (d.unr.drop kk))) (fun _ _ s9 _ => d.unr.length - (intOf s9).toNat)
  case atStart => exact ⟨0, 0, Nat.zero_le _, rfl, rfl, by omega, by omega, Below.refl _ _, rfl⟩
  case round =>
    obtain ⟨kk, least, hkk, rfl, rfl, hl0, hl1, BW, A⟩ := hrel
    by_cases hlt : kk < d.unr.length
    · have hltz : (kk : Int) < (d.unr.length : Int) := by omega
      have q0 : (0 : Int) ≤ (kk : Int) := by omega
      obtain ⟨x, hx⟩ : ∃ x, d.unr[kk]? = some x := ⟨_, List.getElem?_eq_getElem hlt⟩
      obtain ⟨b, off, hso, hb, HC⟩ : ∃ b off, su = some ⟨b, off, none⟩ ∧ b < w.heap.size ∧ Hid (∀ i u, (intL d.unr)[i]? = some u → w.cell? ⟨b, off + i, none⟩ = some u) := by
        rcases U.out.2.2 with ⟨_, h0⟩ | ⟨b, off, cap', e, _, hb, hcc⟩
        · omega
        · simp only [Value.slice.injEq, true_and] at e
          exact ⟨b, off, e.1, hb, Lib.hid hcc⟩
      subst hso
      have BWW := Lib.hid (HB.out.trans (BW.out.mono HB.out.size))
      have lc : wr.cell? ⟨b, off + kk, none⟩ = some (.int .i64 x) := by
        rw [BWW.out.cell (p := ⟨b, off + kk, none⟩) hb]
        exact HC.out _ _ (intL_at hx)
      have HR := Lib.hid (HP.out.keep BW.out)
      have HE : Hid (d.unr.drop kk = x :: d.unr.drop (kk + 1)) := Lib.hid (by
        have hxx : d.unr[kk] = x := by rw [List.getElem?_eq_getElem hlt] at hx; injection hx
        rw [List.drop_eq_getElem_cons hlt, hxx])
      have HDV := Lib.hid (HD.out.keep BW.out)
      clear hx HB
      by_cases hq : least ≤ x
      · have hd : decide (x < least) = false := by simp; omega
        have hd' : (x < least) = False := by simp; omega
        cases hr : inR x d.pages.length
        all_goals
          have HRR := Lib.hid hr
          clear hr
        · go_wp2_with (first
            | (refine wp_loadDev _ _ _ _ _ HR.out rfl rfl rfl ?_)
            | (go_at_call 70; (with_reducible refine (hasPage_b _ d x false HRR.out _ HDV.out).mono ?_); rintro e w3 ⟨rfl, hb3⟩; have B3 := Lib.hid (BWW.out.trans (hb3.mono BWW.out.size)); clear hb3))
          go_ret
          refine ⟨?_, B3.out⟩
          rw [A.out, HE.out, okUnr, HRR.out, Bool.and_false, Bool.false_and]; rfl
        · go_wp2_with (first
            | (refine wp_loadDev _ _ _ _ _ HR.out rfl rfl rfl ?_)
            | (go_at_call 70; (with_reducible refine (hasPage_b _ d x true HRR.out _ HDV.out).mono ?_); rintro e w3 ⟨rfl, hb3⟩; have B3 := Lib.hid (BW.out.trans (hb3.mono BW.out.size)); have hx1 : 0 ≤ x ∧ x < 64 := (by have h9 := HRR.out; unfold inR at h9; have h8 := of_decide_eq_true h9; omega); clear hb3))
          go_roundw
          case measure => simp [intOf]; omega
          case rel =>
            refine ⟨kk + 1, x + 1, by omega, by go_num, by go_num, by omega, by omega, B3, Lib.hid ?_⟩
            rw [A.out, HE.out, okUnr, HRR.out, decide_eq_true hq]; rfl
      · have hd : decide (x < least) = true := by simp; omega
        have hd' : (x < least) = True := by simp; omega
        have HQ := Lib.hid hq
        clear hq
        go_wp2
        go_ret
        refine ⟨?_, BWW.out⟩
        rw [A.out, HE.out, okUnr, decide_eq_false (by have := HQ.out; omega), Bool.false_and, Bool.false_and]; rfl
    · have hltz : ¬ (kk : Int) < (d.unr.length : Int) := by omega
      obtain rfl : kk = d.unr.length := by omega
      go_wp2
      go_ret
      refine ⟨?_, HB.out.trans (BW.out.mono HB.out.size)⟩
      rw [A.out, List.drop_length]; rfl
end Go.Proofs.Ytikpchhhenonaaa.lh
