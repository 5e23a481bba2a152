/- Valid, the errors of Read, Write and Tear, Read and New: the program. -/
import Derived.Test.YtikpchhhenonaaaLj
namespace Go.Proofs.Ytikpchhhenonaaa.lk
open Go.ChangeShapes Go.WideShapes Go.ChangeAt Go.RowKit Go.Proofs.Ytikpchhhenonaaa.cx Go.Proofs.Ytikpchhhenonaaa.ra Go.Proofs.Ytikpchhhenonaaa.la Go.Proofs.Ytikpchhhenonaaa.lb Go.Proofs.Ytikpchhhenonaaa.lc Go.Proofs.Ytikpchhhenonaaa.ld Go.Proofs.Ytikpchhhenonaaa.lg Go.Proofs.Ytikpchhhenonaaa.lh Go.Proofs.Ytikpchhhenonaaa.li Go.Proofs.Ytikpchhhenonaaa.lj

def validD (d : Dev) : Bool := okPages d.pages && (okWrites d.writes && (okUnr d.pages.length 0 d.unr && okFaults d))
theorem validPages_b (v : Value) (l : List ByteArray) (b : Bool) (hb : okPages l = b) (w : World) (h : Sl v 1 l.length (strL l) w) (hf : ∀ s ∈ l, s.size ≤ 9223372036854775807) :
    Calls Try.prog 48 #[v] w fun e w' => e = .returned (.bool b) ∧ Below w.heap.size w w' := hb ▸ validPages_any v l w h hf
theorem validWrites_b (n : Int) (b : Bool) (hb : okWrites n = b) (w : World) : Calls Try.prog 49 #[.int .i64 n] w fun e w' => e = .returned (.bool b) ∧ w = w' := hb ▸ validWrites_any n w
theorem validUnreadable_b (vs : List Value) (d : Dev) (b : Bool) (hb : okUnr d.pages.length 0 d.unr = b) (w : World) (h : DevV vs d w) (hm : d.pages.length ≤ 64) :
    Calls Try.prog 50 #[.agg vs.toArray] w fun e w' => e = .returned (.bool b) ∧ Below w.heap.size w w' := hb ▸ validUnreadable_any vs d w h hm
theorem validFaults_b (vs : List Value) (d : Dev) (b : Bool) (hb : okFaults d = b) (w : World) (h : DevV vs d w) :
    Calls Try.prog 51 #[.agg vs.toArray] w fun e w' => e = .returned (.bool b) ∧ Below w.heap.size w w' := hb ▸ validFaults_any vs d w h
set_option maxHeartbeats 2000000 in
set_option maxRecDepth 4000 in
theorem valid_any (vs : List Value) (d : Dev) (w : World) (h : DevV vs d w) (hf : FitsD d) :
    Calls Try.prog 22 #[.agg vs.toArray] w fun e w' => e = .returned (.bool (validD d)) ∧ Below w.heap.size w w' := by
  obtain ⟨sp, cp, su, cu, sf, cf, rfl, P, U, F⟩ := h.form
  have DV := Lib.hid h
  have HF := Lib.hid hf
  clear h U F hf
  unfold validD
  cases c1 : okPages d.pages
  · have C1 := Lib.hid c1
    clear c1
    go_enter Try.func22, Try.ntmps22
    go_wp2_with (first
      | (refine wp_boxW (dvals (.slice sp d.pages.length cp) d.writes (.slice su d.unr.length cu) d.dead (.slice sf d.faults.length cf)) _ rfl rfl rfl ?_; intro w0 hP hb0 _; have HB0 := Lib.hid hb0; have HD0 := Lib.hid hP; have P0 := Lib.hid (P.out.keep hb0); obtain ⟨a0, a1, a2, a3, a4⟩ := hP.all5; clear hP hb0)
      | (go_at_call 48; (with_reducible refine (validPages_b _ d.pages false C1.out _ P0.out (fun s hs => HF.out s hs)).mono ?_); rintro e w1 ⟨rfl, hb1⟩; clear a0 a1 a2 a3 a4; have HB1 := Lib.hid (HB0.out.trans (hb1.mono HB0.out.size)); have HD1 := Lib.hid (HD0.out.keep hb1); have HV1 := Lib.hid (DV.out.keep HB1.out); obtain ⟨a0, a1, a2, a3, a4⟩ := HD1.out.all5; clear hb1 HB0 HD0)
      | (refine wp_loadDev _ _ _ _ _ HD1.out rfl rfl rfl ?_)
      | (refine wp_loadDev _ _ _ _ _ HD2.out rfl rfl rfl ?_))
    go_ret
    exact ⟨rfl, HB1.out⟩
  have C1 := Lib.hid c1
  clear c1
  cases c2 : okWrites d.writes
  · have C2 := Lib.hid c2
    clear c2
    go_enter Try.func22, Try.ntmps22
    go_wp2_with (first
      | (refine wp_boxW (dvals (.slice sp d.pages.length cp) d.writes (.slice su d.unr.length cu) d.dead (.slice sf d.faults.length cf)) _ rfl rfl rfl ?_; intro w0 hP hb0 _; have HB0 := Lib.hid hb0; have HD0 := Lib.hid hP; have P0 := Lib.hid (P.out.keep hb0); obtain ⟨a0, a1, a2, a3, a4⟩ := hP.all5; clear hP hb0)
      | (go_at_call 48; (with_reducible refine (validPages_b _ d.pages true C1.out _ P0.out (fun s hs => HF.out s hs)).mono ?_); rintro e w1 ⟨rfl, hb1⟩; clear a0 a1 a2 a3 a4; have HB1 := Lib.hid (HB0.out.trans (hb1.mono HB0.out.size)); have HD1 := Lib.hid (HD0.out.keep hb1); have HV1 := Lib.hid (DV.out.keep HB1.out); obtain ⟨a0, a1, a2, a3, a4⟩ := HD1.out.all5; clear hb1 HB0 HD0)
      | (go_at_call 49; (with_reducible refine (validWrites_b _ false C2.out _).mono ?_); rintro e w9 ⟨rfl, rfl⟩)
      | (refine wp_loadDev _ _ _ _ _ HD1.out rfl rfl rfl ?_)
      | (refine wp_loadDev _ _ _ _ _ HD2.out rfl rfl rfl ?_))
    go_ret
    exact ⟨rfl, HB1.out⟩
  have C2 := Lib.hid c2
  clear c2
  cases c3 : okUnr d.pages.length 0 d.unr
  · have C3 := Lib.hid c3
    clear c3
    go_enter Try.func22, Try.ntmps22
    go_wp2_with (first
      | (refine wp_boxW (dvals (.slice sp d.pages.length cp) d.writes (.slice su d.unr.length cu) d.dead (.slice sf d.faults.length cf)) _ rfl rfl rfl ?_; intro w0 hP hb0 _; have HB0 := Lib.hid hb0; have HD0 := Lib.hid hP; have P0 := Lib.hid (P.out.keep hb0); obtain ⟨a0, a1, a2, a3, a4⟩ := hP.all5; clear hP hb0)
      | (go_at_call 48; (with_reducible refine (validPages_b _ d.pages true C1.out _ P0.out (fun s hs => HF.out s hs)).mono ?_); rintro e w1 ⟨rfl, hb1⟩; clear a0 a1 a2 a3 a4; have HB1 := Lib.hid (HB0.out.trans (hb1.mono HB0.out.size)); have HD1 := Lib.hid (HD0.out.keep hb1); have HV1 := Lib.hid (DV.out.keep HB1.out); obtain ⟨a0, a1, a2, a3, a4⟩ := HD1.out.all5; clear hb1 HB0 HD0)
      | (go_at_call 49; (with_reducible refine (validWrites_b _ true C2.out _).mono ?_); rintro e w9 ⟨rfl, rfl⟩)
      | (refine wp_loadDev _ _ _ _ _ HD1.out rfl rfl rfl ?_)
      | (refine wp_loadDev _ _ _ _ _ HD2.out rfl rfl rfl ?_)
      | (go_at_call 50; (with_reducible refine (validUnreadable_b _ d false C3.out _ HV1.out (okPages_iff.1 C1.out).1.2).mono ?_); rintro e w2 ⟨rfl, hb2⟩; clear a0 a1 a2 a3 a4; have HB2 := Lib.hid (HB1.out.trans (hb2.mono HB1.out.size)); have HD2 := Lib.hid (HD1.out.keep hb2); have HV2 := Lib.hid (HV1.out.keep hb2); clear hb2 HB1 HD1 HV1))
    go_ret
    exact ⟨rfl, HB2.out⟩
  have C3 := Lib.hid c3
  clear c3
  go_enter Try.func22, Try.ntmps22
  go_wp2_with (first
      | (refine wp_boxW (dvals (.slice sp d.pages.length cp) d.writes (.slice su d.unr.length cu) d.dead (.slice sf d.faults.length cf)) _ rfl rfl rfl ?_; intro w0 hP hb0 _; have HB0 := Lib.hid hb0; have HD0 := Lib.hid hP; have P0 := Lib.hid (P.out.keep hb0); obtain ⟨a0, a1, a2, a3, a4⟩ := hP.all5; clear hP hb0)
      | (go_at_call 48; (with_reducible refine (validPages_b _ d.pages true C1.out _ P0.out (fun s hs => HF.out s hs)).mono ?_); rintro e w1 ⟨rfl, hb1⟩; clear a0 a1 a2 a3 a4; have HB1 := Lib.hid (HB0.out.trans (hb1.mono HB0.out.size)); have HD1 := Lib.hid (HD0.out.keep hb1); have HV1 := Lib.hid (DV.out.keep HB1.out); obtain ⟨a0, a1, a2, a3, a4⟩ := HD1.out.all5; clear hb1 HB0 HD0)
      | (go_at_call 49; (with_reducible refine (validWrites_b _ true C2.out _).mono ?_); rintro e w9 ⟨rfl, rfl⟩)
      | (refine wp_loadDev _ _ _ _ _ HD1.out rfl rfl rfl ?_)
      | (refine wp_loadDev _ _ _ _ _ HD2.out rfl rfl rfl ?_)
      | (go_at_call 50; (with_reducible refine (validUnreadable_b _ d true C3.out _ HV1.out (okPages_iff.1 C1.out).1.2).mono ?_); rintro e w2 ⟨rfl, hb2⟩; clear a0 a1 a2 a3 a4; have HB2 := Lib.hid (HB1.out.trans (hb2.mono HB1.out.size)); have HD2 := Lib.hid (HD1.out.keep hb2); have HV2 := Lib.hid (HV1.out.keep hb2); clear hb2 HB1 HD1 HV1)
      | (go_at_call 51; (with_reducible refine (validFaults_any _ d _ HV2.out).mono ?_); rintro e w3 ⟨rfl, hb3⟩; have HB3 := Lib.hid (HB2.out.trans (hb3.mono HB2.out.size)); clear hb3 HB2))
  go_ret
  exact ⟨rfl, HB3.out⟩
theorem valid_b (vs : List Value) (d : Dev) (b : Bool) (hb : validD d = b) (w : World) (h : DevV vs d w) (hf : FitsD d) :
    Calls Try.prog 22 #[.agg vs.toArray] w fun e w' => e = .returned (.bool b) ∧ Below w.heap.size w w' := hb ▸ valid_any vs d w h hf
def accessE (d : Dev) (page : Int) : Int := if validD d = true then (if d.dead = true then 10 else if inR page d.pages.length = true then 0 else 1) else 15
theorem ret_int {a b : Int} (h : a = b) : Ending.returned (.int .i64 a) = .returned (.int .i64 b) := by rw [h]
set_option maxHeartbeats 2000000 in
set_option maxRecDepth 4000 in
theorem accessError_any (vs : List Value) (d : Dev) (page : Int) (w : World) (h : DevV vs d w) (hf : FitsD d) :
    Calls Try.prog 57 #[.agg vs.toArray, .int .i64 page] w fun e w' => e = .returned (.int .i64 (accessE d page)) ∧ Below w.heap.size w w' := by
  obtain ⟨sp, cp, su, cu, sf, cf, rfl, P, U, F⟩ := h.form
  have DV := Lib.hid h
  have HF := Lib.hid hf
  clear h P U F hf
  cases c1 : validD d
  · have E : Hid (accessE d page = 15) := Lib.hid (by unfold accessE; rw [c1]; rfl)
    have C1 := Lib.hid c1
    clear c1
    go_enter Try.func57, Try.ntmps57
    go_wp2_with (first
      | (refine wp_boxW (dvals (.slice sp d.pages.length cp) d.writes (.slice su d.unr.length cu) d.dead (.slice sf d.faults.length cf)) _ rfl rfl rfl ?_; intro w0 hP hb0 _; have HB0 := Lib.hid hb0; have HD0 := Lib.hid hP; have HV0 := Lib.hid (DV.out.keep hb0); clear hP hb0)
      | (refine wp_loadDev _ _ _ _ _ HD0.out rfl rfl rfl ?_)
      | (refine wp_loadDev _ _ _ _ _ HD1.out rfl rfl rfl ?_)
      | (go_at_call 22; (with_reducible refine (valid_b _ d false C1.out _ HV0.out HF.out).mono ?_); rintro e w1 ⟨rfl, hb1⟩; have HB1 := Lib.hid (HB0.out.trans (hb1.mono HB0.out.size)); have HD1 := Lib.hid (HD0.out.keep hb1); have HV1 := Lib.hid (HV0.out.keep hb1); obtain ⟨a0, a1, a2, a3, a4⟩ := HD1.out.all5; clear hb1 HB0 HD0 HV0))
    go_ret
    exact ⟨by rw [E.out]; rfl, HB1.out⟩
  by_cases c2 : d.dead = true
  · have E : Hid (accessE d page = 10) := Lib.hid (by unfold accessE; rw [c1, c2]; rfl)
    have C1 := Lib.hid c1
    have C2 := Lib.hid c2
    clear c1 c2
    go_enter Try.func57, Try.ntmps57
    go_wp2_with (first
      | (refine wp_boxW (dvals (.slice sp d.pages.length cp) d.writes (.slice su d.unr.length cu) d.dead (.slice sf d.faults.length cf)) _ rfl rfl rfl ?_; intro w0 hP hb0 _; have HB0 := Lib.hid hb0; have HD0 := Lib.hid hP; have HV0 := Lib.hid (DV.out.keep hb0); clear hP hb0)
      | (refine wp_loadDev _ _ _ _ _ HD0.out rfl rfl rfl ?_)
      | (refine wp_loadDev _ _ _ _ _ HD1.out rfl rfl rfl ?_)
      | (go_at_call 22; (with_reducible refine (valid_b _ d true C1.out _ HV0.out HF.out).mono ?_); rintro e w1 ⟨rfl, hb1⟩; have HB1 := Lib.hid (HB0.out.trans (hb1.mono HB0.out.size)); have HD1 := Lib.hid (HD0.out.keep hb1); have HV1 := Lib.hid (HV0.out.keep hb1); obtain ⟨a0, a1, a2, a3, a4⟩ := HD1.out.all5; rw [C2.out] at a3; clear hb1 HB0 HD0 HV0))
    go_ret
    exact ⟨by rw [E.out]; rfl, HB1.out⟩
  have c2f : d.dead = false := by simpa using c2
  clear c2
  have c2 := c2f
  clear c2f
  cases c3 : inR page d.pages.length
  · have E : Hid (accessE d page = 1) := Lib.hid (by unfold accessE; rw [c1, c2, c3]; rfl)
    have C1 := Lib.hid c1
    have C2 := Lib.hid c2
    have C3 := Lib.hid c3
    clear c1 c2 c3
    go_enter Try.func57, Try.ntmps57
    go_wp2_with (first
      | (refine wp_boxW (dvals (.slice sp d.pages.length cp) d.writes (.slice su d.unr.length cu) d.dead (.slice sf d.faults.length cf)) _ rfl rfl rfl ?_; intro w0 hP hb0 _; have HB0 := Lib.hid hb0; have HD0 := Lib.hid hP; have HV0 := Lib.hid (DV.out.keep hb0); clear hP hb0)
      | (refine wp_loadDev _ _ _ _ _ HD0.out rfl rfl rfl ?_)
      | (refine wp_loadDev _ _ _ _ _ HD1.out rfl rfl rfl ?_)
      | (go_at_call 22; (with_reducible refine (valid_b _ d true C1.out _ HV0.out HF.out).mono ?_); rintro e w1 ⟨rfl, hb1⟩; have HB1 := Lib.hid (HB0.out.trans (hb1.mono HB0.out.size)); have HD1 := Lib.hid (HD0.out.keep hb1); have HV1 := Lib.hid (HV0.out.keep hb1); obtain ⟨a0, a1, a2, a3, a4⟩ := HD1.out.all5; rw [C2.out] at a3; clear hb1 HB0 HD0 HV0)
      | (go_at_call 70; (with_reducible refine (hasPage_b _ d page false C3.out _ HV1.out).mono ?_); rintro e w2 ⟨rfl, hb2⟩; have HB2 := Lib.hid (HB1.out.trans (hb2.mono HB1.out.size)); clear hb2 HB1))
    go_ret
    exact ⟨by rw [E.out]; rfl, HB2.out⟩
  have E : Hid (accessE d page = 0) := Lib.hid (by unfold accessE; rw [c1, c2, c3]; rfl)
  have C1 := Lib.hid c1
  have C2 := Lib.hid c2
  have C3 := Lib.hid c3
  clear c1 c2 c3
  go_enter Try.func57, Try.ntmps57
  go_wp2_with (first
      | (refine wp_boxW (dvals (.slice sp d.pages.length cp) d.writes (.slice su d.unr.length cu) d.dead (.slice sf d.faults.length cf)) _ rfl rfl rfl ?_; intro w0 hP hb0 _; have HB0 := Lib.hid hb0; have HD0 := Lib.hid hP; have HV0 := Lib.hid (DV.out.keep hb0); clear hP hb0)
      | (refine wp_loadDev _ _ _ _ _ HD0.out rfl rfl rfl ?_)
      | (refine wp_loadDev _ _ _ _ _ HD1.out rfl rfl rfl ?_)
      | (go_at_call 22; (with_reducible refine (valid_b _ d true C1.out _ HV0.out HF.out).mono ?_); rintro e w1 ⟨rfl, hb1⟩; have HB1 := Lib.hid (HB0.out.trans (hb1.mono HB0.out.size)); have HD1 := Lib.hid (HD0.out.keep hb1); have HV1 := Lib.hid (HV0.out.keep hb1); obtain ⟨a0, a1, a2, a3, a4⟩ := HD1.out.all5; rw [C2.out] at a3; clear hb1 HB0 HD0 HV0)
      | (go_at_call 70; (with_reducible refine (hasPage_b _ d page true C3.out _ HV1.out).mono ?_); rintro e w2 ⟨rfl, hb2⟩; have HB2 := Lib.hid (HB1.out.trans (hb2.mono HB1.out.size)); clear hb2 HB1))
  go_ret
  exact ⟨by rw [E.out]; rfl, HB2.out⟩
theorem accessError_b (vs : List Value) (d : Dev) (page : Int) (n : Int) (hn : accessE d page = n) (w : World) (h : DevV vs d w) (hf : FitsD d) :
    Calls Try.prog 57 #[.agg vs.toArray, .int .i64 page] w fun e w' => e = .returned (.int .i64 n) ∧ Below w.heap.size w w' := hn ▸ accessError_any vs d page w h hf
def writeE (d : Dev) (page : Int) (s : ByteArray) : Int := if accessE d page = 0 then (if s.size = 256 then (if d.writes = 1099511627776 then 21 else 0) else 2) else accessE d page
def tearE (d : Dev) (page : Int) (s : ByteArray) (cut : Int) : Int := if accessE d page = 0 then (if 0 ≤ cut ∧ cut ≤ 256 then (if s.size = 256 then 0 else 2) else 1) else accessE d page
set_option maxHeartbeats 2000000 in
set_option maxRecDepth 4000 in
theorem writeError_any (vs : List Value) (d : Dev) (page : Int) (s : ByteArray) (w : World) (h : DevV vs d w) (hf : FitsD d) :
    Calls Try.prog 39 #[.agg vs.toArray, .int .i64 page, .string s] w fun e w' => e = .returned (.int .i64 (writeE d page s)) ∧ Below w.heap.size w w' := by
  obtain ⟨sp, cp, su, cu, sf, cf, rfl, P, U, F⟩ := h.form
  have DV := Lib.hid h
  have HF := Lib.hid hf
  clear h P U F hf
  by_cases c1 : accessE d page = 0
  rotate_left
  · have E : Hid (writeE d page s = accessE d page) := Lib.hid (by unfold writeE; rw [if_neg c1])
    have hz : (accessE d page == 0) = false := by simpa using c1
    obtain ⟨n, hn⟩ : ∃ n, accessE d page = n := ⟨_, rfl⟩
    rw [hn] at E hz
    have C1 := Lib.hid hn
    clear c1 hn
    go_enter Try.func39, Try.ntmps39
    go_wp2_with (first
      | (refine wp_boxW (dvals (.slice sp d.pages.length cp) d.writes (.slice su d.unr.length cu) d.dead (.slice sf d.faults.length cf)) _ rfl rfl rfl ?_; intro w0 hP hb0 _; have HB0 := Lib.hid hb0; have HD0 := Lib.hid hP; have HV0 := Lib.hid (DV.out.keep hb0); clear hP hb0)
      | (refine wp_loadDev _ _ _ _ _ HD0.out rfl rfl rfl ?_)
      | (go_at_call 57; (with_reducible refine (accessError_b _ d page n C1.out _ HV0.out HF.out).mono ?_); rintro e w1 ⟨rfl, hb1⟩; have HB1 := Lib.hid (HB0.out.trans (hb1.mono HB0.out.size)); have HD1 := Lib.hid (HD0.out.keep hb1); obtain ⟨a0, a1, a2, a3, a4⟩ := HD1.out.all5; clear hb1 HB0 HD0 HV0))
    go_ret
    exact ⟨by rw [E.out]; rfl, HB1.out⟩
  by_cases c2 : s.size = 256
  rotate_left
  · have E : Hid (writeE d page s = 2) := Lib.hid (by unfold writeE; rw [if_pos c1, if_neg c2])
    have hz : ((s.size : Int) == 256) = false := by simp; omega
    have C1 := Lib.hid c1
    clear c1 c2
    go_enter Try.func39, Try.ntmps39
    go_wp2_with (first
      | (refine wp_boxW (dvals (.slice sp d.pages.length cp) d.writes (.slice su d.unr.length cu) d.dead (.slice sf d.faults.length cf)) _ rfl rfl rfl ?_; intro w0 hP hb0 _; have HB0 := Lib.hid hb0; have HD0 := Lib.hid hP; have HV0 := Lib.hid (DV.out.keep hb0); clear hP hb0)
      | (refine wp_loadDev _ _ _ _ _ HD0.out rfl rfl rfl ?_)
      | (go_at_call 57; (with_reducible refine (accessError_b _ d page 0 C1.out _ HV0.out HF.out).mono ?_); rintro e w1 ⟨rfl, hb1⟩; have HB1 := Lib.hid (HB0.out.trans (hb1.mono HB0.out.size)); have HD1 := Lib.hid (HD0.out.keep hb1); obtain ⟨a0, a1, a2, a3, a4⟩ := HD1.out.all5; clear hb1 HB0 HD0 HV0))
    go_ret
    exact ⟨by rw [E.out]; rfl, HB1.out⟩
  have hz : ((s.size : Int) == 256) = true := by simp; omega
  by_cases c3 : d.writes = 1099511627776
  · have E : Hid (writeE d page s = 21) := Lib.hid (by unfold writeE; rw [if_pos c1, if_pos c2, if_pos c3])
    have hy : (d.writes == 1099511627776) = true := by simp; omega
    have C1 := Lib.hid c1
    clear c1 c2 c3
    go_enter Try.func39, Try.ntmps39
    go_wp2_with (first
      | (refine wp_boxW (dvals (.slice sp d.pages.length cp) d.writes (.slice su d.unr.length cu) d.dead (.slice sf d.faults.length cf)) _ rfl rfl rfl ?_; intro w0 hP hb0 _; have HB0 := Lib.hid hb0; have HD0 := Lib.hid hP; have HV0 := Lib.hid (DV.out.keep hb0); clear hP hb0)
      | (refine wp_loadDev _ _ _ _ _ HD0.out rfl rfl rfl ?_)
      | (go_at_call 57; (with_reducible refine (accessError_b _ d page 0 C1.out _ HV0.out HF.out).mono ?_); rintro e w1 ⟨rfl, hb1⟩; have HB1 := Lib.hid (HB0.out.trans (hb1.mono HB0.out.size)); have HD1 := Lib.hid (HD0.out.keep hb1); obtain ⟨a0, a1, a2, a3, a4⟩ := HD1.out.all5; clear hb1 HB0 HD0 HV0))
    go_ret
    exact ⟨by rw [E.out]; rfl, HB1.out⟩
  have E : Hid (writeE d page s = 0) := Lib.hid (by unfold writeE; rw [if_pos c1, if_pos c2, if_neg c3])
  have hy : (d.writes == 1099511627776) = false := by simp; omega
  have C1 := Lib.hid c1
  clear c1 c2 c3
  go_enter Try.func39, Try.ntmps39
  go_wp2_with (first
      | (refine wp_boxW (dvals (.slice sp d.pages.length cp) d.writes (.slice su d.unr.length cu) d.dead (.slice sf d.faults.length cf)) _ rfl rfl rfl ?_; intro w0 hP hb0 _; have HB0 := Lib.hid hb0; have HD0 := Lib.hid hP; have HV0 := Lib.hid (DV.out.keep hb0); clear hP hb0)
      | (refine wp_loadDev _ _ _ _ _ HD0.out rfl rfl rfl ?_)
      | (go_at_call 57; (with_reducible refine (accessError_b _ d page 0 C1.out _ HV0.out HF.out).mono ?_); rintro e w1 ⟨rfl, hb1⟩; have HB1 := Lib.hid (HB0.out.trans (hb1.mono HB0.out.size)); have HD1 := Lib.hid (HD0.out.keep hb1); obtain ⟨a0, a1, a2, a3, a4⟩ := HD1.out.all5; clear hb1 HB0 HD0 HV0))
  go_ret
  exact ⟨by rw [E.out]; rfl, HB1.out⟩
set_option maxHeartbeats 2000000 in
set_option maxRecDepth 4000 in
theorem tearError_any (vs : List Value) (d : Dev) (page : Int) (s : ByteArray) (cut : Int) (w : World) (h : DevV vs d w) (hf : FitsD d) :
    Calls Try.prog 54 #[.agg vs.toArray, .int .i64 page, .string s, .int .i64 cut] w fun e w' => e = .returned (.int .i64 (tearE d page s cut)) ∧ Below w.heap.size w w' := by
  obtain ⟨sp, cp, su, cu, sf, cf, rfl, P, U, F⟩ := h.form
  have DV := Lib.hid h
  have HF := Lib.hid hf
  clear h P U F hf
  by_cases c1 : accessE d page = 0
  rotate_left
  · have E : Hid (tearE d page s cut = accessE d page) := Lib.hid (by unfold tearE; rw [if_neg c1])
    have hz : (accessE d page == 0) = false := by simpa using c1
    obtain ⟨n, hn⟩ : ∃ n, accessE d page = n := ⟨_, rfl⟩
    rw [hn] at E hz
    have C1 := Lib.hid hn
    clear c1 hn
    go_enter Try.func54, Try.ntmps54
    go_wp2_with (first
      | (refine wp_boxW (dvals (.slice sp d.pages.length cp) d.writes (.slice su d.unr.length cu) d.dead (.slice sf d.faults.length cf)) _ rfl rfl rfl ?_; intro w0 hP hb0 _; have HB0 := Lib.hid hb0; have HD0 := Lib.hid hP; have HV0 := Lib.hid (DV.out.keep hb0); clear hP hb0)
      | (refine wp_loadDev _ _ _ _ _ HD0.out rfl rfl rfl ?_)
      | (go_at_call 57; (with_reducible refine (accessError_b _ d page n C1.out _ HV0.out HF.out).mono ?_); rintro e w1 ⟨rfl, hb1⟩; have HB1 := Lib.hid (HB0.out.trans (hb1.mono HB0.out.size)); have HD1 := Lib.hid (HD0.out.keep hb1); obtain ⟨a0, a1, a2, a3, a4⟩ := HD1.out.all5; clear hb1 HB0 HD0 HV0))
    go_ret
    exact ⟨by rw [E.out]; rfl, HB1.out⟩
  by_cases c0 : 0 ≤ cut
  rotate_left
  · have E : Hid (tearE d page s cut = 1) := Lib.hid (by unfold tearE; rw [if_pos c1, if_neg (fun h => c0 h.1)])
    have hz : decide (cut < 0) = true := by simp; omega
    have C1 := Lib.hid c1
    clear c1 c0
    go_enter Try.func54, Try.ntmps54
    go_wp2_with (first
      | (refine wp_boxW (dvals (.slice sp d.pages.length cp) d.writes (.slice su d.unr.length cu) d.dead (.slice sf d.faults.length cf)) _ rfl rfl rfl ?_; intro w0 hP hb0 _; have HB0 := Lib.hid hb0; have HD0 := Lib.hid hP; have HV0 := Lib.hid (DV.out.keep hb0); clear hP hb0)
      | (refine wp_loadDev _ _ _ _ _ HD0.out rfl rfl rfl ?_)
      | (go_at_call 57; (with_reducible refine (accessError_b _ d page 0 C1.out _ HV0.out HF.out).mono ?_); rintro e w1 ⟨rfl, hb1⟩; have HB1 := Lib.hid (HB0.out.trans (hb1.mono HB0.out.size)); have HD1 := Lib.hid (HD0.out.keep hb1); obtain ⟨a0, a1, a2, a3, a4⟩ := HD1.out.all5; clear hb1 HB0 HD0 HV0))
    go_ret
    exact ⟨by rw [E.out]; rfl, HB1.out⟩
  have hz0 : decide (cut < 0) = false := by simp; omega
  by_cases c3 : cut ≤ 256
  rotate_left
  · have E : Hid (tearE d page s cut = 1) := Lib.hid (by unfold tearE; rw [if_pos c1, if_neg (fun h => c3 h.2)])
    have hz : decide (256 < cut) = true := by simp; omega
    have C1 := Lib.hid c1
    clear c1 c0 c3
    go_enter Try.func54, Try.ntmps54
    go_wp2_with (first
      | (refine wp_boxW (dvals (.slice sp d.pages.length cp) d.writes (.slice su d.unr.length cu) d.dead (.slice sf d.faults.length cf)) _ rfl rfl rfl ?_; intro w0 hP hb0 _; have HB0 := Lib.hid hb0; have HD0 := Lib.hid hP; have HV0 := Lib.hid (DV.out.keep hb0); clear hP hb0)
      | (refine wp_loadDev _ _ _ _ _ HD0.out rfl rfl rfl ?_)
      | (go_at_call 57; (with_reducible refine (accessError_b _ d page 0 C1.out _ HV0.out HF.out).mono ?_); rintro e w1 ⟨rfl, hb1⟩; have HB1 := Lib.hid (HB0.out.trans (hb1.mono HB0.out.size)); have HD1 := Lib.hid (HD0.out.keep hb1); obtain ⟨a0, a1, a2, a3, a4⟩ := HD1.out.all5; clear hb1 HB0 HD0 HV0))
    go_ret
    exact ⟨by rw [E.out]; rfl, HB1.out⟩
  have hz1 : decide (256 < cut) = false := by simp; omega
  by_cases c2 : s.size = 256
  rotate_left
  · have E : Hid (tearE d page s cut = 2) := Lib.hid (by unfold tearE; rw [if_pos c1, if_pos ⟨c0, c3⟩, if_neg c2])
    have hz : ((s.size : Int) == 256) = false := by simp; omega
    have C1 := Lib.hid c1
    clear c1 c2 c0 c3
    go_enter Try.func54, Try.ntmps54
    go_wp2_with (first
      | (refine wp_boxW (dvals (.slice sp d.pages.length cp) d.writes (.slice su d.unr.length cu) d.dead (.slice sf d.faults.length cf)) _ rfl rfl rfl ?_; intro w0 hP hb0 _; have HB0 := Lib.hid hb0; have HD0 := Lib.hid hP; have HV0 := Lib.hid (DV.out.keep hb0); clear hP hb0)
      | (refine wp_loadDev _ _ _ _ _ HD0.out rfl rfl rfl ?_)
      | (go_at_call 57; (with_reducible refine (accessError_b _ d page 0 C1.out _ HV0.out HF.out).mono ?_); rintro e w1 ⟨rfl, hb1⟩; have HB1 := Lib.hid (HB0.out.trans (hb1.mono HB0.out.size)); have HD1 := Lib.hid (HD0.out.keep hb1); obtain ⟨a0, a1, a2, a3, a4⟩ := HD1.out.all5; clear hb1 HB0 HD0 HV0))
    go_ret
    exact ⟨by rw [E.out]; rfl, HB1.out⟩
  have hz : ((s.size : Int) == 256) = true := by simp; omega
  have E : Hid (tearE d page s cut = 0) := Lib.hid (by unfold tearE; rw [if_pos c1, if_pos ⟨c0, c3⟩, if_pos c2])
  have C1 := Lib.hid c1
  clear c1 c2 c0 c3
  go_enter Try.func54, Try.ntmps54
  go_wp2_with (first
      | (refine wp_boxW (dvals (.slice sp d.pages.length cp) d.writes (.slice su d.unr.length cu) d.dead (.slice sf d.faults.length cf)) _ rfl rfl rfl ?_; intro w0 hP hb0 _; have HB0 := Lib.hid hb0; have HD0 := Lib.hid hP; have HV0 := Lib.hid (DV.out.keep hb0); clear hP hb0)
      | (refine wp_loadDev _ _ _ _ _ HD0.out rfl rfl rfl ?_)
      | (go_at_call 57; (with_reducible refine (accessError_b _ d page 0 C1.out _ HV0.out HF.out).mono ?_); rintro e w1 ⟨rfl, hb1⟩; have HB1 := Lib.hid (HB0.out.trans (hb1.mono HB0.out.size)); have HD1 := Lib.hid (HD0.out.keep hb1); obtain ⟨a0, a1, a2, a3, a4⟩ := HD1.out.all5; clear hb1 HB0 HD0 HV0))
  go_ret
  exact ⟨by rw [E.out]; rfl, HB1.out⟩
theorem index_any (v : Value) (l : List Int) (x : Int) (w : World) (h : Sl v 1 l.length (intL l) w) :
    Calls Try.prog 74 #[v, .int .i64 x] w fun e w' => e = .returned (.int .i64 (idxOf (fun y => y == x) l)) ∧ w = w' := by
  obtain ⟨so, cap, rfl, hcap⟩ := h.form
  have hlen := Sl.len_le h
  have H3 := Lib.hid h.2.2
  clear h
  go_enter Try.func74, Try.ntmps74
  go_wp2
  go_loopw [5, 8] (fun _ s8 wr => ∃ kk : Nat, kk ≤ l.length ∧ s8 = .int .i64 kk ∧ w = wr ∧ Hid (∀ j y, j < kk → l[j]? = some y → (y == x) = false)) (fun _ s8 _ => l.length - (intOf s8).toNat)
  case atStart => exact ⟨0, Nat.zero_le _, rfl, rfl, fun j _ hj => absurd hj (Nat.not_lt_zero _)⟩
  case round =>
    obtain ⟨kk, hkk, rfl, rfl, A⟩ := hrel
    by_cases hlt : kk < l.length
    · have hltz : (kk : Int) < (l.length : Int) := by omega
      have q0 : (0 : Int) ≤ (kk : Int) := by omega
      obtain ⟨z, hx⟩ : ∃ z, l[kk]? = some z := ⟨_, List.getElem?_eq_getElem hlt⟩
      obtain ⟨b, off, hso, hb, HC⟩ : ∃ b off, so = some ⟨b, off, none⟩ ∧ b < w.heap.size ∧ Hid (∀ i u, (intL l)[i]? = some u → w.cell? ⟨b, off + i, none⟩ = some u) := by
        rcases H3.out with ⟨_, h0⟩ | ⟨b, off, cap', e, _, hb, hcc⟩
        · omega
        · simp only [Value.slice.injEq, true_and] at e
          exact ⟨b, off, e.1, hb, Lib.hid hcc⟩
      subst hso
      have lc : w.cell? ⟨b, off + kk, none⟩ = some (.int .i64 z) := HC.out _ _ (intL_at hx)
      have HX := Lib.hid hx
      clear hx
      cases hq : (z == x)
      all_goals
        have HQ := Lib.hid hq
        have hq2 : (x == z) = _ := (Bool.beq_comm (a := x) (b := z)).trans hq
        clear hq
      · go_wp2
        go_roundw
        case measure => simp [intOf]; omega
        case rel =>
          refine ⟨kk + 1, by omega, by go_num, by first | rfl | trivial, Lib.hid fun j y hj hy => ?_⟩
          by_cases e : j = kk
          · subst e
            rw [HX.out] at hy
            injection hy with hy
            rw [← hy]; exact HQ.out
          · exact A.out j y (by omega) hy
      · go_wp2
        go_ret
        refine ⟨?_, rfl⟩
        obtain ⟨e1, e2⟩ := idx_hit HX.out HQ.out A.out
        unfold idxOf
        rw [e1, if_pos e2]
        rfl
    · have hltz : ¬ (kk : Int) < (l.length : Int) := by omega
      obtain rfl : kk = l.length := by omega
      go_wp2
      go_ret
      refine ⟨?_, rfl⟩
      unfold idxOf
      rw [idx_miss A.out, if_neg (Nat.lt_irrefl _)]
      rfl
theorem idx_contains (l : List Int) (x : Int) : decide (0 ≤ idxOf (fun y => y == x) l) = l.contains x := by
  rw [Bool.eq_iff_iff, decide_eq_true_eq, List.contains_iff_mem]
  unfold idxOf
  by_cases h : l.findIdx (fun y => y == x) < l.length
  · rw [if_pos h]
    rw [List.findIdx_lt_length] at h
    obtain ⟨y, hy, he⟩ := h
    simp only [beq_iff_eq] at he
    subst he
    exact ⟨fun _ => hy, fun _ => by omega⟩
  · rw [if_neg h]
    refine ⟨fun h0 => by omega, fun hm => absurd ?_ h⟩
    rw [List.findIdx_lt_length]
    exact ⟨x, hm, by simp⟩
theorem contains_any (v : Value) (l : List Int) (x : Int) (w : World) (h : Sl v 1 l.length (intL l) w) :
    Calls Try.prog 58 #[v, .int .i64 x] w fun e w' => e = .returned (.bool (l.contains x)) ∧ w = w' := by
  rw [← idx_contains]
  have H := Lib.hid (index_any v l x w h)
  generalize idxOf (fun y => y == x) l = n at *
  obtain ⟨so, cap, rfl, hcap⟩ := h.form
  clear h
  go_enter Try.func58, Try.ntmps58
  go_wp2_with (first
    | (go_at_call 74; refine (H.out).mono ?_; rintro e w1 ⟨rfl, rfl⟩))
  go_ret
  exact ⟨rfl, rfl⟩
/-- What Read gives. -/
def readE (d : Dev) (page : Int) : Int := if accessE d page = 0 then (if d.unr.contains page = true then 11 else 0) else accessE d page
def readS (d : Dev) (page : Int) : ByteArray := if readE d page = 0 then d.pages.getD page.toNat ByteArray.empty else ByteArray.empty
theorem access_in {d : Dev} {page : Int} (h : accessE d page = 0) : validD d = true ∧ d.dead = false ∧ 0 ≤ page ∧ page < d.pages.length := by
  unfold accessE at h
  by_cases h1 : validD d = true
  · rw [if_pos h1] at h
    by_cases h2 : d.dead = true
    · rw [if_pos h2] at h; cases h
    · rw [if_neg h2] at h
      by_cases h3 : inR page d.pages.length = true
      · have := of_decide_eq_true h3
        exact ⟨h1, by simpa using h2, this.1, this.2⟩
      · rw [if_neg h3] at h; cases h
  · rw [if_neg h1] at h; cases h
theorem contains_b (v : Value) (l : List Int) (x : Int) (b : Bool) (hb : l.contains x = b) (w : World) (h : Sl v 1 l.length (intL l) w) :
    Calls Try.prog 58 #[v, .int .i64 x] w fun e w' => e = .returned (.bool b) ∧ w = w' := hb ▸ contains_any v l x w h
set_option maxHeartbeats 2000000 in
set_option maxRecDepth 4000 in
theorem read_any (vs : List Value) (d : Dev) (page : Int) (w : World) (h : DevV vs d w) (hf : FitsD d) :
    Calls Try.prog 31 #[.agg vs.toArray, .int .i64 page] w fun e w' => e = .returned (.tuple #[.string (readS d page), .int .i64 (readE d page)]) ∧ Below w.heap.size w w' := by
  obtain ⟨sp, cp, su, cu, sf, cf, rfl, P, U, F⟩ := h.form
  have DV := Lib.hid h
  have HF := Lib.hid hf
  clear h F hf
  by_cases c1 : accessE d page = 0
  rotate_left
  · have E : Hid (readE d page = accessE d page) := Lib.hid (by unfold readE; rw [if_neg c1])
    have E2 : Hid (readS d page = ByteArray.empty) := Lib.hid (by unfold readS; rw [E.out, if_neg c1])
    have hz : (accessE d page == 0) = false := by simpa using c1
    obtain ⟨n, hn⟩ : ∃ n, accessE d page = n := ⟨_, rfl⟩
    rw [hn] at E hz
    have C1 := Lib.hid hn
    clear c1 hn
    go_enter Try.func31, Try.ntmps31
    go_wp2_with (first
      | (refine wp_boxW (dvals (.slice sp d.pages.length cp) d.writes (.slice su d.unr.length cu) d.dead (.slice sf d.faults.length cf)) _ rfl rfl rfl ?_; intro w0 hP hb0 _; have HB0 := Lib.hid hb0; have HD0 := Lib.hid hP; have HV0 := Lib.hid (DV.out.keep hb0); clear hP hb0)
      | (refine wp_loadDev _ _ _ _ _ HD0.out rfl rfl rfl ?_)
      | (go_at_call 57; (with_reducible refine (accessError_b _ d _ n C1.out _ HV0.out HF.out).mono ?_); rintro e w1 ⟨rfl, hb1⟩; have HB1 := Lib.hid (HB0.out.trans (hb1.mono HB0.out.size)); have HD1 := Lib.hid (HD0.out.keep hb1); obtain ⟨a0, a1, a2, a3, a4⟩ := HD1.out.all5; have U1 := Lib.hid (U.out.keep HB1.out); clear hb1 HB0 HD0 HV0))
    go_ret2
    exact ⟨by rw [E.out, E2.out]; rfl, HB1.out⟩
  obtain ⟨hv1, hv2, hp0, hp1⟩ := access_in c1
  clear hv1 hv2
  cases c2 : d.unr.contains page
  rotate_left
  · have E : Hid (readE d page = 11) := Lib.hid (by unfold readE; rw [if_pos c1, if_pos c2])
    have E2 : Hid (readS d page = ByteArray.empty) := Lib.hid (by unfold readS; rw [E.out]; rfl)
    have C1 := Lib.hid c1
    have C2 := Lib.hid c2
    clear c1 c2
    go_enter Try.func31, Try.ntmps31
    go_wp2_with (first
      | (refine wp_boxW (dvals (.slice sp d.pages.length cp) d.writes (.slice su d.unr.length cu) d.dead (.slice sf d.faults.length cf)) _ rfl rfl rfl ?_; intro w0 hP hb0 _; have HB0 := Lib.hid hb0; have HD0 := Lib.hid hP; have HV0 := Lib.hid (DV.out.keep hb0); clear hP hb0)
      | (refine wp_loadDev _ _ _ _ _ HD0.out rfl rfl rfl ?_)
      | (go_at_call 57; (with_reducible refine (accessError_b _ d _ 0 C1.out _ HV0.out HF.out).mono ?_); rintro e w1 ⟨rfl, hb1⟩; have HB1 := Lib.hid (HB0.out.trans (hb1.mono HB0.out.size)); have HD1 := Lib.hid (HD0.out.keep hb1); obtain ⟨a0, a1, a2, a3, a4⟩ := HD1.out.all5; have U1 := Lib.hid (U.out.keep HB1.out); clear hb1 HB0 HD0 HV0)
      | (go_at_call 58; (with_reducible refine (contains_b _ d.unr _ true C2.out _ U1.out).mono ?_); rintro e w2 ⟨rfl, rfl⟩))
    go_ret2
    exact ⟨by rw [E.out, E2.out]; rfl, HB1.out⟩
  have E : Hid (readE d page = 0) := Lib.hid (by unfold readE; rw [if_pos c1, c2]; rfl)
  obtain ⟨k, rfl⟩ : ∃ k : Nat, page = (k : Int) := ⟨page.toNat, by omega⟩
  have hk : k < d.pages.length := by omega
  obtain ⟨x, hx⟩ : ∃ x, d.pages[k]? = some x := ⟨_, List.getElem?_eq_getElem hk⟩
  have E2 : Hid (readS d (k : Int) = x) := Lib.hid (by unfold readS; rw [E.out, if_pos rfl]; simp [List.getD, hx])
  obtain ⟨b, off, hso, hb, HC⟩ : ∃ b off, sp = some ⟨b, off, none⟩ ∧ b < w.heap.size ∧ w.cell? ⟨b, off + k, none⟩ = some (.string x) := by
    rcases P.out.2.2 with ⟨_, h0⟩ | ⟨b, off, cap', e, _, hb, hcc⟩
    · omega
    · simp only [Value.slice.injEq, true_and] at e
      exact ⟨b, off, e.1, hb, hcc _ _ (strL_at hx)⟩
  have HSO := Lib.hid hso
  have HCC := Lib.hid HC
  clear hso HC
  have C1 := Lib.hid c1
  have C2 := Lib.hid c2
  clear c1 c2 hx
  go_enter Try.func31, Try.ntmps31
  go_wp2_with (first
      | (refine wp_boxW (dvals (.slice sp d.pages.length cp) d.writes (.slice su d.unr.length cu) d.dead (.slice sf d.faults.length cf)) _ rfl rfl rfl ?_; intro w0 hP hb0 _; have HB0 := Lib.hid hb0; have HD0 := Lib.hid hP; have HV0 := Lib.hid (DV.out.keep hb0); clear hP hb0)
      | (refine wp_loadDev _ _ _ _ _ HD0.out rfl rfl rfl ?_)
      | (go_at_call 57; (with_reducible refine (accessError_b _ d _ 0 C1.out _ HV0.out HF.out).mono ?_); rintro e w1 ⟨rfl, hb1⟩; have HB1 := Lib.hid (HB0.out.trans (hb1.mono HB0.out.size)); have HD1 := Lib.hid (HD0.out.keep hb1); obtain ⟨a0, a1, a2, a3, a4⟩ := HD1.out.all5; have U1 := Lib.hid (U.out.keep HB1.out); have lc := (HB1.out.cell (p := ⟨b, off + k, none⟩) hb).trans HCC.out; rw [HSO.out] at a0; clear hb1 HB0 HD0 HV0)
      | (go_at_call 58; (with_reducible refine (contains_b _ d.unr _ false C2.out _ U1.out).mono ?_); rintro e w2 ⟨rfl, rfl⟩))
  go_ret2
  exact ⟨by rw [E.out, E2.out]; rfl, HB1.out⟩
end Go.Proofs.Ytikpchhhenonaaa.lk
