/- What Frame and Unframe of layer 1 return, those of the program and those of the reference. -/
import Derived.Test.YtpfcnppaancmfaaDoorCa
namespace Go.Proofs.YtpfcnppaancmfaaDoor.cu
open Go.ChangeShapes Go.WideShapes Go.ChangeAt Go.RowKit Go.Proofs.YtpfcnppaancmfaaDoor.cm Go.Proofs.YtpfcnppaancmfaaDoor.cw Go.Proofs.YtpfcnppaancmfaaDoor.cp Go.Proofs.YtpfcnppaancmfaaDoor.cg Go.Proofs.YtpfcnppaancmfaaDoor.ca

/-- The length of a payload and the payload. -/
def lenS (p : ByteArray) : ByteArray := putS ⟨#[]⟩ (p.size : Int) 4 ++ p
def crcN (s : ByteArray) : Nat := crc s.data.toList
theorem crcN_lt (s : ByteArray) : crcN s < 4294967296 := crc_lt _
def frameS (p : ByteArray) : ByteArray := putS (lenS p) (crcN (lenS p) : Nat) 4
theorem lenS_size (p : ByteArray) : (lenS p).size = 4 + p.size := by
  unfold lenS
  rw [ByteArray.size_append, putS_size]
  show 0 + 4 + p.size = _
  omega

theorem put_4 (s : ByteArray) (n : Int) (w : World) (hs : s.size ≤ 1099511627776) :
    Calls Tryd.prog 9 #[.string s, .int .i64 n, .int .i64 4] w fun e w' => e = .returned (.string (putS s n 4)) ∧ Below w.heap.size w w' := put_yes s n 4 w hs (by decide) (by decide)
theorem refPut_4 (s : ByteArray) (n : Int) (w : World) (hs : s.size ≤ 1099511627776) :
    Calls Tryd.prog 10 #[.string s, .int .i64 n, .int .i64 4] w fun e w' => e = .returned (.string (putS s n 4)) ∧ Below w.heap.size w w' := refPut_yes s n 4 w hs (by decide) (by decide)
theorem sum_n (s : ByteArray) (w : World) (hs : s.size ≤ 1099511627776) (hw : TabOk w) :
    Calls Tryd.prog 19 #[.string s] w fun e w' => e = .returned (.int .u32 ((crcN s : Nat) : Int)) ∧ w = w' := sum_any s w (by unfold maxLen; omega) hw
theorem refSum_n (s : ByteArray) (w : World) (hs : s.size ≤ 1099511627776) :
    Calls Tryd.prog 20 #[.string s] w fun e w' => e = .returned (.int .u32 ((crcN s : Nat) : Int)) ∧ w = w' := refSum_any s w (by unfold maxLen; omega)

theorem frame_yes (p : ByteArray) (w : World) (hw : TabOk w) (h : p.size ≤ 8392) :
    Calls Tryd.prog 21 #[.string p] w fun e w' => e = .returned (.string (frameS p)) ∧ Below w.heap.size w w' := by
  have hz := tab_size hw
  have hcat : (putS ⟨#[]⟩ (p.size : Int) 4).size + p.size ≤ 9223372036854775807 := by
    have := lenS_size p
    unfold lenS at this
    rw [ByteArray.size_append] at this
    omega
  have hl : (putS ⟨#[]⟩ (p.size : Int) 4 ++ p).size ≤ 1099511627776 := by
    have := lenS_size p
    unfold lenS at this
    omega
  have hc := crcN_lt (putS ⟨#[]⟩ (p.size : Int) 4 ++ p)
  go_enter Tryd.func21, Tryd.ntmps21
  go_wp2_with (first
    | (go_at_call 9; (with_reducible refine (put_4 ⟨#[]⟩ _ _ (by decide)).mono ?_); rintro e w1 ⟨rfl, hb1⟩)
    | (go_at_call 19; refine (sum_n _ _ hl (tab_below hw (by assumption) hz)).mono ?_; rintro e w2 ⟨rfl, rfl⟩)
    | (go_at_call 9; refine (put_4 _ _ _ hl).mono ?_; rintro e w2 ⟨rfl, hb2⟩))
  go_ret
  exact ⟨rfl, hb1.trans (hb2.mono hb1.size)⟩
theorem frame_no (p : ByteArray) (w : World) (h : 8392 < p.size) :
    Calls Tryd.prog 21 #[.string p] w fun e w' => e = .returned (.string ⟨#[]⟩) ∧ Below w.heap.size w w' := by
  go_enter Tryd.func21, Tryd.ntmps21
  go_wp2
  go_ret
  exact ⟨rfl, Below.refl _ _⟩
theorem refFrame_yes (p : ByteArray) (w : World) (h : p.size ≤ 8392) :
    Calls Tryd.prog 14 #[.string p] w fun e w' => e = .returned (.string (frameS p)) ∧ Below w.heap.size w w' := by
  have hcat : (putS ⟨#[]⟩ (p.size : Int) 4).size + p.size ≤ 9223372036854775807 := by
    have := lenS_size p
    unfold lenS at this
    rw [ByteArray.size_append] at this
    omega
  have hl : (putS ⟨#[]⟩ (p.size : Int) 4 ++ p).size ≤ 1099511627776 := by
    have := lenS_size p
    unfold lenS at this
    omega
  have hc := crcN_lt (putS ⟨#[]⟩ (p.size : Int) 4 ++ p)
  go_enter Tryd.func14, Tryd.ntmps14
  go_wp2_with (first
    | (go_at_call 10; (with_reducible refine (refPut_4 ⟨#[]⟩ _ _ (by decide)).mono ?_); rintro e w1 ⟨rfl, hb1⟩)
    | (go_at_call 20; refine (refSum_n _ _ hl).mono ?_; rintro e w2 ⟨rfl, rfl⟩)
    | (go_at_call 10; refine (refPut_4 _ _ _ hl).mono ?_; rintro e w2 ⟨rfl, hb2⟩))
  go_ret
  exact ⟨rfl, hb1.trans (hb2.mono hb1.size)⟩
theorem refFrame_no (p : ByteArray) (w : World) (h : 8392 < p.size) :
    Calls Tryd.prog 14 #[.string p] w fun e w' => e = .returned (.string ⟨#[]⟩) ∧ Below w.heap.size w w' := by
  go_enter Tryd.func14, Tryd.ntmps14
  go_wp2
  go_ret
  exact ⟨rfl, Below.refl _ _⟩

theorem slice_s (s : ByteArray) (x y : Int) (i j : Nat) (hx : x = i) (hy : y = j) (h1 : i ≤ j) (h2 : j ≤ s.size) (W : World) :
    (Instr.slice 9 (.string s) (some (.int .i64 x)) (some (.int .i64 y)) none).run Tryd.prog W = .ok (.string (s.extract i j)) W := by
  subst hx; subst hy
  have := run_slice_string (P := Tryd.prog) W 9 s .i64 .i64 (i : Int) (j : Int) Tryd.underlying9 (by omega) (by omega) (by omega)
  simpa using this
theorem eq_nat (a b : Nat) (h : a = b) : ((a : Int) != (b : Int)) = false := by subst h; simp
theorem ne_nat (a b : Nat) (h : a ≠ b) : ((a : Int) != (b : Int)) = true := by
  have : (a : Int) ≠ b := by omega
  simpa using this

theorem get4 (s : ByteArray) (x : Int) (i v : Nat) (w : World) (hs : s.size ≤ 1099511627776) (hx : x = i) (h : i + 4 ≤ s.size) (hv : uget s i 4 = v) :
    Calls Tryd.prog 11 #[.string s, .int .i64 x, .int .i64 4] w fun e w' => e = .returned (.tuple #[.int .i64 (v : Int), .int .i64 0]) ∧ w = w' := by
  subst hx
  have hl := uget_lt s i 4
  have := get_yes s i 4 w hs (by decide) (by decide) h
  rwa [getN_small s i 4 (by decide), hv] at this
theorem get4_short (s : ByteArray) (x : Int) (w : World) (hs : s.size ≤ 1099511627776) (h0 : 0 ≤ x) (h : (s.size : Int) < x + 4) :
    Calls Tryd.prog 11 #[.string s, .int .i64 x, .int .i64 4] w fun e w' => e = .returned (.tuple #[.int .i64 0, .int .i64 5]) ∧ w = w' :=
  get_short s x 4 w hs (by decide) (by decide) h0 h

theorem unframe_range (s : ByteArray) (x : Int) (w : World) (h : x < 0 ∨ (s.size : Int) < x) :
    Calls Tryd.prog 17 #[.string s, .int .i64 x] w fun e w' => e = .returned (.tuple #[.string ⟨#[]⟩, .int .i64 0, .int .i64 1]) ∧ w = w' := by
  by_cases h0 : x < 0
  · go_enter Tryd.func17, Tryd.ntmps17
    go_wp2
    go_ret3
    exact ⟨rfl, rfl⟩
  · have h1 : (s.size : Int) < x := by omega
    go_enter Tryd.func17, Tryd.ntmps17
    go_wp2
    go_ret3
    exact ⟨rfl, rfl⟩
theorem unframe_short (s : ByteArray) (x : Int) (w : World) (hs : s.size ≤ 1099511627776) (h0 : 0 ≤ x) (h1 : x ≤ s.size) (h : (s.size : Int) < x + 4) :
    Calls Tryd.prog 17 #[.string s, .int .i64 x] w fun e w' => e = .returned (.tuple #[.string ⟨#[]⟩, .int .i64 0, .int .i64 5]) ∧ w = w' := by
  go_enter Tryd.func17, Tryd.ntmps17
  go_wp2_with (go_at_call 11; refine (get4_short s x _ hs h0 h).mono ?_; rintro e w1 ⟨rfl, rfl⟩)
  go_ret3
  exact ⟨rfl, rfl⟩
theorem unframe_size (s : ByteArray) (a L : Nat) (w : World) (hs : s.size ≤ 1099511627776) (h : a + 4 ≤ s.size) (hL : uget s a 4 = L) (hbig : 8392 < L) :
    Calls Tryd.prog 17 #[.string s, .int .i64 (a : Int)] w fun e w' => e = .returned (.tuple #[.string ⟨#[]⟩, .int .i64 0, .int .i64 2]) ∧ w = w' := by
  have HL := Lib.hid hL
  clear hL
  go_enter Tryd.func17, Tryd.ntmps17
  go_wp2_with (go_at_call 11; refine (get4 s _ a L _ hs (by omega) h HL.out).mono ?_; rintro e w1 ⟨rfl, rfl⟩)
  go_ret3
  exact ⟨rfl, rfl⟩
theorem unframe_cut (s : ByteArray) (a L : Nat) (w : World) (hs : s.size ≤ 1099511627776) (h : a + 4 ≤ s.size) (hL : uget s a 4 = L) (hbig : L ≤ 8392) (hcut : s.size < a + 8 + L) :
    Calls Tryd.prog 17 #[.string s, .int .i64 (a : Int)] w fun e w' => e = .returned (.tuple #[.string ⟨#[]⟩, .int .i64 0, .int .i64 5]) ∧ w = w' := by
  have HL := Lib.hid hL
  clear hL
  go_enter Tryd.func17, Tryd.ntmps17
  go_wp2_with (first
    | (go_at_call 11; (with_reducible refine (get4 s _ a L _ hs (by omega) h HL.out).mono ?_); rintro e w1 ⟨rfl, rfl⟩)
    | (go_at_call 11; refine (get4_short s _ _ hs (by omega) (by omega)).mono ?_; rintro e w1 ⟨rfl, rfl⟩))
  go_ret3
  exact ⟨rfl, rfl⟩
theorem unframe_sum (s : ByteArray) (a L C : Nat) (w : World) (hs : s.size ≤ 1099511627776) (hw : TabOk w) (h : a + 8 + L ≤ s.size) (hL : uget s a 4 = L) (hbig : L ≤ 8392) (hC : uget s (a + 4 + L) 4 = C) (hne : C ≠ crcN (s.extract a (a + 4 + L))) :
    Calls Tryd.prog 17 #[.string s, .int .i64 (a : Int)] w fun e w' => e = .returned (.tuple #[.string ⟨#[]⟩, .int .i64 0, .int .i64 3]) ∧ w = w' := by
  have hc := crcN_lt (s.extract a (a + 4 + L))
  have hC4 := uget_lt s (a + 4 + L) 4
  rw [hC] at hC4
  have HL := Lib.hid hL
  have HC := Lib.hid hC
  clear hL hC
  have hze : (s.extract a (a + 4 + L)).size ≤ 1099511627776 := by rw [ByteArray.size_extract]; omega
  have hs1 := slice_s s (a : Int) (a + 4 + L) a (a + 4 + L) rfl (by omega) (by omega) (by omega)
  have hT := ne_nat C _ hne
  have hc4 : C < 4294967296 := hC4
  clear hne hC4
  go_enter Tryd.func17, Tryd.ntmps17
  go_wp2_with (first
    | (go_at_call 11; (with_reducible refine (get4 s _ a L _ hs (by omega) (by omega) HL.out).mono ?_); rintro e w1 ⟨rfl, rfl⟩)
    | (go_at_call 11; (with_reducible refine (get4 s _ (a + 4 + L) C _ hs (by omega) (by omega) HC.out).mono ?_); rintro e w1 ⟨rfl, rfl⟩)
    | (go_at_call 19; refine (sum_n _ _ hze hw).mono ?_; rintro e w1 ⟨rfl, rfl⟩))
  go_ret3
  exact ⟨rfl, rfl⟩
theorem unframe_yes (s : ByteArray) (a L C : Nat) (w : World) (hs : s.size ≤ 1099511627776) (hw : TabOk w) (h : a + 8 + L ≤ s.size) (hL : uget s a 4 = L) (hbig : L ≤ 8392) (hC : uget s (a + 4 + L) 4 = C) (hne : C = crcN (s.extract a (a + 4 + L))) :
    Calls Tryd.prog 17 #[.string s, .int .i64 (a : Int)] w fun e w' => e = .returned (.tuple #[.string (s.extract (a + 4) (a + 4 + L)), .int .i64 (a + 8 + L : Nat), .int .i64 0]) ∧ w = w' := by
  have hc := crcN_lt (s.extract a (a + 4 + L))
  have hT := eq_nat C _ hne
  have HL := Lib.hid hL
  have HC := Lib.hid hC
  clear hL hC
  have hze : (s.extract a (a + 4 + L)).size ≤ 1099511627776 := by rw [ByteArray.size_extract]; omega
  have hs1 := slice_s s (a : Int) (a + 4 + L) a (a + 4 + L) rfl (by omega) (by omega) (by omega)
  have hs2 := slice_s s (a + 4 : Int) (a + 4 + L) (a + 4) (a + 4 + L) (by omega) (by omega) (by omega) (by omega)
  have hc4 : C < 4294967296 := by rw [hne]; exact hc
  clear hne
  go_enter Tryd.func17, Tryd.ntmps17
  go_wp2_with (first
    | (go_at_call 11; (with_reducible refine (get4 s _ a L _ hs (by omega) (by omega) HL.out).mono ?_); rintro e w1 ⟨rfl, rfl⟩)
    | (go_at_call 11; (with_reducible refine (get4 s _ (a + 4 + L) C _ hs (by omega) (by omega) HC.out).mono ?_); rintro e w1 ⟨rfl, rfl⟩)
    | (go_at_call 19; refine (sum_n _ _ hze hw).mono ?_; rintro e w1 ⟨rfl, rfl⟩))
  go_ret3
  exact ⟨by first | (simp; done) | (simp; omega), rfl⟩

theorem refget4 (s : ByteArray) (x : Int) (i v : Nat) (w : World) (hs : s.size ≤ 1099511627776) (hx : x = i) (h : i + 4 ≤ s.size) (hv : uget s i 4 = v) :
    Calls Tryd.prog 12 #[.string s, .int .i64 x, .int .i64 4] w fun e w' => e = .returned (.tuple #[.int .i64 (v : Int), .int .i64 0]) ∧ w = w' := by
  subst hx
  have hl := uget_lt s i 4
  have := refGet_yes s i 4 w hs (by decide) (by decide) h
  rwa [getN_small s i 4 (by decide), hv] at this
theorem refget4_short (s : ByteArray) (x : Int) (w : World) (hs : s.size ≤ 1099511627776) (h0 : 0 ≤ x) (h : (s.size : Int) < x + 4) :
    Calls Tryd.prog 12 #[.string s, .int .i64 x, .int .i64 4] w fun e w' => e = .returned (.tuple #[.int .i64 0, .int .i64 5]) ∧ w = w' :=
  refGet_short s x 4 w hs (by decide) (by decide) h0 h

theorem refunframe_range (s : ByteArray) (x : Int) (w : World) (h : x < 0 ∨ (s.size : Int) < x) :
    Calls Tryd.prog 18 #[.string s, .int .i64 x] w fun e w' => e = .returned (.tuple #[.string ⟨#[]⟩, .int .i64 0, .int .i64 1]) ∧ w = w' := by
  by_cases h0 : x < 0
  · go_enter Tryd.func18, Tryd.ntmps18
    go_wp2
    go_ret3
    exact ⟨rfl, rfl⟩
  · have h1 : (s.size : Int) < x := by omega
    go_enter Tryd.func18, Tryd.ntmps18
    go_wp2
    go_ret3
    exact ⟨rfl, rfl⟩
theorem refunframe_short (s : ByteArray) (x : Int) (w : World) (hs : s.size ≤ 1099511627776) (h0 : 0 ≤ x) (h1 : x ≤ s.size) (h : (s.size : Int) < x + 4) :
    Calls Tryd.prog 18 #[.string s, .int .i64 x] w fun e w' => e = .returned (.tuple #[.string ⟨#[]⟩, .int .i64 0, .int .i64 5]) ∧ w = w' := by
  go_enter Tryd.func18, Tryd.ntmps18
  go_wp2_with (go_at_call 12; refine (refget4_short s x _ hs h0 h).mono ?_; rintro e w1 ⟨rfl, rfl⟩)
  go_ret3
  exact ⟨rfl, rfl⟩
theorem refunframe_size (s : ByteArray) (a L : Nat) (w : World) (hs : s.size ≤ 1099511627776) (h : a + 4 ≤ s.size) (hL : uget s a 4 = L) (hbig : 8392 < L) :
    Calls Tryd.prog 18 #[.string s, .int .i64 (a : Int)] w fun e w' => e = .returned (.tuple #[.string ⟨#[]⟩, .int .i64 0, .int .i64 2]) ∧ w = w' := by
  have HL := Lib.hid hL
  clear hL
  go_enter Tryd.func18, Tryd.ntmps18
  go_wp2_with (go_at_call 12; refine (refget4 s _ a L _ hs (by omega) h HL.out).mono ?_; rintro e w1 ⟨rfl, rfl⟩)
  go_ret3
  exact ⟨rfl, rfl⟩
theorem refunframe_cut (s : ByteArray) (a L : Nat) (w : World) (hs : s.size ≤ 1099511627776) (h : a + 4 ≤ s.size) (hL : uget s a 4 = L) (hbig : L ≤ 8392) (hcut : s.size < a + 8 + L) :
    Calls Tryd.prog 18 #[.string s, .int .i64 (a : Int)] w fun e w' => e = .returned (.tuple #[.string ⟨#[]⟩, .int .i64 0, .int .i64 5]) ∧ w = w' := by
  have HL := Lib.hid hL
  clear hL
  go_enter Tryd.func18, Tryd.ntmps18
  go_wp2_with (first
    | (go_at_call 12; (with_reducible refine (refget4 s _ a L _ hs (by omega) h HL.out).mono ?_); rintro e w1 ⟨rfl, rfl⟩)
    | (go_at_call 12; refine (refget4_short s _ _ hs (by omega) (by omega)).mono ?_; rintro e w1 ⟨rfl, rfl⟩))
  go_ret3
  exact ⟨rfl, rfl⟩
theorem refunframe_sum (s : ByteArray) (a L C : Nat) (w : World) (hs : s.size ≤ 1099511627776) (h : a + 8 + L ≤ s.size) (hL : uget s a 4 = L) (hbig : L ≤ 8392) (hC : uget s (a + 4 + L) 4 = C) (hne : C ≠ crcN (s.extract a (a + 4 + L))) :
    Calls Tryd.prog 18 #[.string s, .int .i64 (a : Int)] w fun e w' => e = .returned (.tuple #[.string ⟨#[]⟩, .int .i64 0, .int .i64 3]) ∧ w = w' := by
  have hc := crcN_lt (s.extract a (a + 4 + L))
  have hC4 := uget_lt s (a + 4 + L) 4
  rw [hC] at hC4
  have HL := Lib.hid hL
  have HC := Lib.hid hC
  clear hL hC
  have hze : (s.extract a (a + 4 + L)).size ≤ 1099511627776 := by rw [ByteArray.size_extract]; omega
  have hs1 := slice_s s (a : Int) (a + 4 + L) a (a + 4 + L) rfl (by omega) (by omega) (by omega)
  have hT := ne_nat C _ hne
  have hc4 : C < 4294967296 := hC4
  clear hne hC4
  go_enter Tryd.func18, Tryd.ntmps18
  go_wp2_with (first
    | (go_at_call 12; (with_reducible refine (refget4 s _ a L _ hs (by omega) (by omega) HL.out).mono ?_); rintro e w1 ⟨rfl, rfl⟩)
    | (go_at_call 12; (with_reducible refine (refget4 s _ (a + 4 + L) C _ hs (by omega) (by omega) HC.out).mono ?_); rintro e w1 ⟨rfl, rfl⟩)
    | (go_at_call 20; refine (refSum_n _ _ hze).mono ?_; rintro e w1 ⟨rfl, rfl⟩))
  go_ret3
  exact ⟨rfl, rfl⟩
theorem refunframe_yes (s : ByteArray) (a L C : Nat) (w : World) (hs : s.size ≤ 1099511627776) (h : a + 8 + L ≤ s.size) (hL : uget s a 4 = L) (hbig : L ≤ 8392) (hC : uget s (a + 4 + L) 4 = C) (hne : C = crcN (s.extract a (a + 4 + L))) :
    Calls Tryd.prog 18 #[.string s, .int .i64 (a : Int)] w fun e w' => e = .returned (.tuple #[.string (s.extract (a + 4) (a + 4 + L)), .int .i64 (a + 8 + L : Nat), .int .i64 0]) ∧ w = w' := by
  have hc := crcN_lt (s.extract a (a + 4 + L))
  have hT := eq_nat C _ hne
  have HL := Lib.hid hL
  have HC := Lib.hid hC
  clear hL hC
  have hze : (s.extract a (a + 4 + L)).size ≤ 1099511627776 := by rw [ByteArray.size_extract]; omega
  have hs1 := slice_s s (a : Int) (a + 4 + L) a (a + 4 + L) rfl (by omega) (by omega) (by omega)
  have hs2 := slice_s s (a + 4 : Int) (a + 4 + L) (a + 4) (a + 4 + L) (by omega) (by omega) (by omega) (by omega)
  have hc4 : C < 4294967296 := by rw [hne]; exact hc
  clear hne
  go_enter Tryd.func18, Tryd.ntmps18
  go_wp2_with (first
    | (go_at_call 12; (with_reducible refine (refget4 s _ a L _ hs (by omega) (by omega) HL.out).mono ?_); rintro e w1 ⟨rfl, rfl⟩)
    | (go_at_call 12; (with_reducible refine (refget4 s _ (a + 4 + L) C _ hs (by omega) (by omega) HC.out).mono ?_); rintro e w1 ⟨rfl, rfl⟩)
    | (go_at_call 20; refine (refSum_n _ _ hze).mono ?_; rintro e w1 ⟨rfl, rfl⟩))
  go_ret3
  exact ⟨by first | (simp; done) | (simp; omega), rfl⟩

/-- What Frame and Unframe return, for whatever comes in. -/
def frameV (p : ByteArray) : ByteArray := if p.size ≤ 8392 then frameS p else ⟨#[]⟩
def unf (s : ByteArray) (x : Int) : ByteArray × Int × Int :=
  if x < 0 ∨ (s.size : Int) < x then (⟨#[]⟩, 0, 1)
  else if s.size < x.toNat + 4 then (⟨#[]⟩, 0, 5)
  else if 8392 < uget s x.toNat 4 then (⟨#[]⟩, 0, 2)
  else if s.size < x.toNat + 8 + uget s x.toNat 4 then (⟨#[]⟩, 0, 5)
  else if uget s (x.toNat + 4 + uget s x.toNat 4) 4 ≠ crcN (s.extract x.toNat (x.toNat + 4 + uget s x.toNat 4)) then (⟨#[]⟩, 0, 3)
  else (s.extract (x.toNat + 4) (x.toNat + 4 + uget s x.toNat 4), (x.toNat + 8 + uget s x.toNat 4 : Nat), 0)
def unfT (s : ByteArray) (x : Int) : Value := .tuple #[.string (unf s x).1, .int .i64 (unf s x).2.1, .int .i64 (unf s x).2.2]

theorem frame_any (p : ByteArray) (w : World) (hw : TabOk w) : Calls Tryd.prog 21 #[.string p] w fun e w' => e = .returned (.string (frameV p)) ∧ Below w.heap.size w w' := by
  unfold frameV
  split
  · exact frame_yes p w hw ‹_›
  · exact frame_no p w (by omega)
theorem refFrame_any (p : ByteArray) (w : World) : Calls Tryd.prog 14 #[.string p] w fun e w' => e = .returned (.string (frameV p)) ∧ Below w.heap.size w w' := by
  unfold frameV
  split
  · exact refFrame_yes p w ‹_›
  · exact refFrame_no p w (by omega)
theorem unframe_of {s : ByteArray} {f : FuncId} {x : Int} {w : World}
    (h1 : (x < 0 ∨ (s.size : Int) < x) → Calls Tryd.prog f #[.string s, .int .i64 x] w fun e w' => e = .returned (.tuple #[.string ⟨#[]⟩, .int .i64 0, .int .i64 1]) ∧ w = w')
    (h2 : 0 ≤ x → x ≤ s.size → (s.size : Int) < x + 4 → Calls Tryd.prog f #[.string s, .int .i64 x] w fun e w' => e = .returned (.tuple #[.string ⟨#[]⟩, .int .i64 0, .int .i64 5]) ∧ w = w')
    (h3 : ∀ a : Nat, a + 4 ≤ s.size → 8392 < uget s a 4 → Calls Tryd.prog f #[.string s, .int .i64 (a : Int)] w fun e w' => e = .returned (.tuple #[.string ⟨#[]⟩, .int .i64 0, .int .i64 2]) ∧ w = w')
    (h4 : ∀ a : Nat, a + 4 ≤ s.size → uget s a 4 ≤ 8392 → s.size < a + 8 + uget s a 4 → Calls Tryd.prog f #[.string s, .int .i64 (a : Int)] w fun e w' => e = .returned (.tuple #[.string ⟨#[]⟩, .int .i64 0, .int .i64 5]) ∧ w = w')
    (h5 : ∀ a : Nat, a + 8 + uget s a 4 ≤ s.size → uget s a 4 ≤ 8392 → uget s (a + 4 + uget s a 4) 4 ≠ crcN (s.extract a (a + 4 + uget s a 4)) → Calls Tryd.prog f #[.string s, .int .i64 (a : Int)] w fun e w' => e = .returned (.tuple #[.string ⟨#[]⟩, .int .i64 0, .int .i64 3]) ∧ w = w')
    (h6 : ∀ a : Nat, a + 8 + uget s a 4 ≤ s.size → uget s a 4 ≤ 8392 → uget s (a + 4 + uget s a 4) 4 = crcN (s.extract a (a + 4 + uget s a 4)) → Calls Tryd.prog f #[.string s, .int .i64 (a : Int)] w fun e w' => e = .returned (.tuple #[.string (s.extract (a + 4) (a + 4 + uget s a 4)), .int .i64 (a + 8 + uget s a 4 : Nat), .int .i64 0]) ∧ w = w') :
    Calls Tryd.prog f #[.string s, .int .i64 x] w fun e w' => e = .returned (unfT s x) ∧ w = w' := by
  unfold unfT unf
  by_cases c1 : x < 0 ∨ (s.size : Int) < x
  · rw [if_pos c1]; exact h1 c1
  · rw [if_neg c1]
    obtain ⟨a, rfl⟩ := Int.eq_ofNat_of_zero_le (show 0 ≤ x by omega)
    rw [Int.toNat_natCast]
    by_cases c2 : s.size < a + 4
    · rw [if_pos c2]; exact h2 (by omega) (by omega) (by omega)
    · rw [if_neg c2]
      by_cases c3 : 8392 < uget s a 4
      · rw [if_pos c3]; exact h3 a (by omega) c3
      · rw [if_neg c3]
        by_cases c4 : s.size < a + 8 + uget s a 4
        · rw [if_pos c4]; exact h4 a (by omega) (by omega) c4
        · rw [if_neg c4]
          by_cases c5 : uget s (a + 4 + uget s a 4) 4 ≠ crcN (s.extract a (a + 4 + uget s a 4))
          · rw [if_pos c5]; exact h5 a (by omega) (by omega) c5
          · rw [if_neg c5]; exact h6 a (by omega) (by omega) (by simpa using c5)
theorem unframe_any (s : ByteArray) (x : Int) (w : World) (hs : s.size ≤ 1099511627776) (hw : TabOk w) : Calls Tryd.prog 17 #[.string s, .int .i64 x] w fun e w' => e = .returned (unfT s x) ∧ w = w' :=
  unframe_of (fun h => unframe_range s x w h) (fun h0 h1 h => unframe_short s x w hs h0 h1 h) (fun a h h' => unframe_size s a _ w hs h rfl h') (fun a h h' h'' => unframe_cut s a _ w hs h rfl h' h'')
    (fun a h h' h'' => unframe_sum s a _ _ w hs hw h rfl h' rfl h'') (fun a h h' h'' => unframe_yes s a _ _ w hs hw h rfl h' rfl h'')
theorem refUnframe_any (s : ByteArray) (x : Int) (w : World) (hs : s.size ≤ 1099511627776) : Calls Tryd.prog 18 #[.string s, .int .i64 x] w fun e w' => e = .returned (unfT s x) ∧ w = w' :=
  unframe_of (fun h => refunframe_range s x w h) (fun h0 h1 h => refunframe_short s x w hs h0 h1 h) (fun a h h' => refunframe_size s a _ w hs h rfl h') (fun a h h' h'' => refunframe_cut s a _ w hs h rfl h' h'')
    (fun a h h' h'' => refunframe_sum s a _ _ w hs h rfl h' rfl h'') (fun a h h' h'' => refunframe_yes s a _ _ w hs h rfl h' rfl h'')
end Go.Proofs.YtpfcnppaancmfaaDoor.cu
