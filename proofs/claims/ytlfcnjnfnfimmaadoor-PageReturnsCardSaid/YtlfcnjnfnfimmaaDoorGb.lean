/- PageInjective: the walk. -/
import Derived.Test.YtlfcnjnfnfimmaaDoorGa
import Derived.Test.YtlfcnjnfnfimmaaDoorEc
namespace Go.Proofs.YtlfcnjnfnfimmaaDoor.gb
open Go.ChangeShapes Go.WideShapes Go.ChangeAt Go.RowKit Go.Proofs.YtlfcnjnfnfimmaaDoor.cm Go.Proofs.YtlfcnjnfnfimmaaDoor.cw Go.Proofs.YtlfcnjnfnfimmaaDoor.cp Go.Proofs.YtlfcnjnfnfimmaaDoor.cg Go.Proofs.YtlfcnjnfnfimmaaDoor.ch Go.Proofs.YtlfcnjnfnfimmaaDoor.ck Go.Proofs.YtlfcnjnfnfimmaaDoor.cx Go.Proofs.YtlfcnjnfnfimmaaDoor.ra Go.Proofs.YtlfcnjnfnfimmaaDoor.rb Go.Proofs.YtlfcnjnfnfimmaaDoor.rc Go.Proofs.YtlfcnjnfnfimmaaDoor.da Go.Proofs.YtlfcnjnfnfimmaaDoor.db Go.Proofs.YtlfcnjnfnfimmaaDoor.dc Go.Proofs.YtlfcnjnfnfimmaaDoor.dd Go.Proofs.YtlfcnjnfnfimmaaDoor.de Go.Proofs.YtlfcnjnfnfimmaaDoor.df Go.Proofs.YtlfcnjnfnfimmaaDoor.dg Go.Proofs.YtlfcnjnfnfimmaaDoor.dh Go.Proofs.YtlfcnjnfnfimmaaDoor.di Go.Proofs.YtlfcnjnfnfimmaaDoor.dj Go.Proofs.YtlfcnjnfnfimmaaDoor.dk Go.Proofs.YtlfcnjnfnfimmaaDoor.dl Go.Proofs.YtlfcnjnfnfimmaaDoor.ea Go.Proofs.YtlfcnjnfnfimmaaDoor.eb Go.Proofs.YtlfcnjnfnfimmaaDoor.ec Go.Proofs.YtlfcnjnfnfimmaaDoor.ed Go.Proofs.YtlfcnjnfnfimmaaDoor.fa Go.Proofs.YtlfcnjnfnfimmaaDoor.fb Go.Proofs.YtlfcnjnfnfimmaaDoor.fd Go.Proofs.YtlfcnjnfnfimmaaDoor.ga

theorem new_row (so : Option Addr) (len cap m : Nat) (x : Int) (hx : x = m) (w : World) (hl : len ≤ 9223372036854775807) (hc : len ≤ cap) (hm : m ≤ 100000) :
    Calls Tryd.prog 11 #[.slice so len cap, .int .i64 x] w fun e w' => e = .returned (.pointer (some ⟨w.heap.size, 0, none⟩)) ∧ (∃ k c, k ≤ len ∧ k ≤ 1000000 ∧ RowAt w.heap.size [.slice so k c, .int .i64 0] w') ∧ Below w.heap.size w w' ∧ w'.heap.size = w.heap.size + 1 := by
  subst hx
  by_cases h60 : m < len
  · go_enter Tryd.func11, Tryd.ntmps11
    go_wp2
    go_ret
    exact ⟨rfl, ⟨m, cap, by omega, by omega, RowAt.newA #[.slice so m cap, .int .i64 0] w _⟩, (Below.refl _ _).alloc (Nat.le_refl _) _, by simp⟩
  · go_enter Tryd.func11, Tryd.ntmps11
    go_wp2
    go_ret
    exact ⟨rfl, ⟨len, cap, by omega, by omega, RowAt.newA #[.slice so len cap, .int .i64 0] w _⟩, (Below.refl _ _).alloc (Nat.le_refl _) _, by simp⟩
theorem cod_row {p k c len : Nat} {so : Option Addr} {w W : World} (hr : RowAt p [.slice so k c, .int .i64 0] W) (hin : BytesIn so len w) (hB : Below w.heap.size w W) (hk : k ≤ len) (hk2 : k ≤ 1000000) (hp : w.heap.size ≤ p) : Cod p W := by
  refine ⟨so, k, c, 0, hr.cells 0 _ rfl, hr.cells 1 _ rfl, hr.free 1, by omega, hk2, fun i hi => ?_⟩
  obtain ⟨b, off, x, e, hc, hx⟩ := hin i (by omega)
  have hlt := cell_lt hc
  exact ⟨b, off, x, e, by simp at hlt; omega, (hB.cell (p := ⟨b, off + i, none⟩) hlt).trans hc, hx⟩
theorem ne_some {a b : Nat} (h : a ≠ b) : some a ≠ some b := fun e => by injection e with e; exact h e
theorem Stored.cod2 {b p : Nat} {w W : World} (h : Stored b w W) (hc : Cod p w) (hb : p < b) : Cod p W := h.cod hc hb
theorem bytes_same {p q : Pg} (hp : encE p = 0) (hq : encE q = 0) : ((encS p).toList == (encS q).toList) = sameP p q := by
  rw [Bool.eq_iff_iff, beq_iff_eq, ← encS_inj hp hq]
  constructor
  · intro h
    rw [ByteArray.toList_eq, ByteArray.toList_eq] at h
    exact ByteArray.ext (by simpa using h)
  · intro h; rw [h]

set_option maxRecDepth 4000 in
set_option maxHeartbeats 1500000 in
theorem inj_walk (so : Option Addr) (len cap : Nat) (so2 : Option Addr) (len2 cap2 : Nat) (w : World) (hw : TabOk w) (hin : BytesIn so len w) (hl : len ≤ 9223372036854775807) (hc : len ≤ cap) (hin2 : BytesIn so2 len2 w) (hl2 : len2 ≤ 9223372036854775807) (hc2 : len2 ≤ cap2) :
    Calls Tryd.prog 9 #[.slice so len cap, .slice so2 len2 cap2] w fun e w' => e = .returned (.bool true) ∧ Below w.heap.size w w' := by
  have hz := tab_size hw
  have HIN := Lib.hid hin
  have HIN2 := Lib.hid hin2
  clear hin hin2
  have FS : Hid (∀ x : Pg, encE x = 0 → Fits x) := Lib.hid fun x h => fits_of_small (small_of_encE h)
  go_enter Tryd.func9, Tryd.ntmps9
  go_wp2_with fail
  go_at_call 10
  refine (awake_any _ hw).mono ?_
  rintro e w1 ⟨rfl, hb1⟩
  have B1 := Lib.hid hb1
  have hle := hb1.size
  clear hb1
  go_wp2_with fail
  go_at_call 11
  refine (new_is so len cap 100 _ (by decide) _ (bytesIn_below HIN.out B1.out) hl hc (by decide)).mono ?_
  rintro e w2 ⟨rfl, hC2, hb2, hz2⟩
  have C2 := Lib.hid hC2
  have B2 := Lib.hid (B1.out.trans (hb2.mono B1.out.size))
  have hp12 : w1.heap.size < w2.heap.size := by omega
  clear hC2 hb2 hz2
  go_wp2_with fail
  go_at_call 11
  refine (new_row so2 len2 cap2 100 _ (by decide) _ hl2 hc2 (by decide)).mono ?_
  rintro e w3 ⟨rfl, ⟨k2, c2, hk2, hk22, hR3⟩, hb3, hz3⟩
  have R3 := Lib.hid hR3
  have C3 := Lib.hid (cod_keep C2.out hb3)
  have B3 := Lib.hid (B2.out.trans (hb3.mono B2.out.size))
  have hp23 : w2.heap.size < w3.heap.size := by omega
  clear hR3 hb3 C2 hz3
  go_wp2_with fail
  go_at_call 13
  refine (next_any w1.heap.size 3 _ C3.out (by decide)).mono ?_
  rintro e w4 ⟨r, rfl, hr0, hr1, _, hC4, hg4⟩
  have hr3 := hr1 (by decide)
  have R4 := Lib.hid (R3.out.grown hg4 (ne_some (by omega)))
  have C4 := Lib.hid hC4
  have B4 := Lib.hid (B3.out.grown hg4 B3.out.size (fun k e => by injection e with e; omega))
  clear hC4 hg4 hr1 C3 R3
  go_wp2_with fail
  go_at_call 12
  refine (page_any w1.heap.size r _ C4.out).mono ?_
  rintro e w5 ⟨p, rfl, hp1, hp2, hp3, hp4, hC5, hg5⟩
  have HEP : Hid (encE p = 0) := Lib.hid (encE_drawn (by omega) (by omega) hp2 hp3 hp4)
  have R5 := Lib.hid (R4.out.grown hg5 (ne_some (by omega)))
  have C5 := Lib.hid hC5
  have B5 := Lib.hid (B4.out.grown hg5 B4.out.size (fun k e => by injection e with e; omega))
  clear hC5 hg5 hp1 hp2 hp3 hp4 C4 R4
  have D5 := Lib.hid (cod_row R5.out HIN2.out B5.out hk2 hk22 (by omega))
  clear R5
  go_wp2_with fail
  go_at_call 13
  refine (next_any w2.heap.size 3 _ D5.out (by decide)).mono ?_
  rintro e w6 ⟨r2, rfl, hr20, hr21, _, hD6, hg6⟩
  have hr23 := hr21 (by decide)
  have D6 := Lib.hid hD6
  have C6 := Lib.hid (cod_own C5.out hg6 (fun k e => by injection e with e; omega))
  have B6 := Lib.hid (B5.out.grown hg6 B5.out.size (fun k e => by injection e with e; omega))
  clear hD6 hg6 hr21 C5 D5
  go_wp2_with fail
  go_at_call 12
  refine (page_any w2.heap.size r2 _ D6.out).mono ?_
  rintro e w7 ⟨q, rfl, hq1, hq2, hq3, hq4, hD7, hg7⟩
  have HEQ : Hid (encE q = 0) := Lib.hid (encE_drawn (by omega) (by omega) hq2 hq3 hq4)
  have C7 := Lib.hid (cod_own C6.out hg7 (fun k e => by injection e with e; omega))
  have B7 := Lib.hid (B6.out.grown hg7 B6.out.size (fun k e => by injection e with e; omega))
  have hc7 := cod_lt C7.out
  clear hD7 hg7 hq1 hq2 hq3 hq4 C6 D6
  have hl7 := B7.out.size
  go_wp2_with (first
    | (refine wp_newPageW rfl rfl ?_; have _t := B7.out; intro w8 hP8 hb8 hz8; have P8 := Lib.hid hP8; have C8 := Lib.hid (cod_keep C7.out hb8); have B8 := Lib.hid (B7.out.trans (hb8.mono B7.out.size)); clear hP8 hb8 B7 C7 _t)
    | (refine wp_newPageW rfl rfl ?_; have _t := B8.out; intro w9 hP9 hb9 hz9; have P9 := Lib.hid hP9; have P89 := Lib.hid (P8.out.keep hb9); have C9 := Lib.hid (cod_keep C8.out hb9); have B9 := Lib.hid (B8.out.trans (hb9.mono B8.out.size)); clear hP9 hb9 B8 C8 P8 _t)
    | (refine wp_storePageW p P89.out (vals_length _) rfl rfl rfl rfl ?_; intro w10 hP hS; have PA := Lib.hid hP; have PB := Lib.hid (hS.row P9.out (by omega)); have C10 := Lib.hid (hS.cod C9.out (by omega)); have B10 := Lib.hid (hS.below B9.out hl7); clear P89 P9 B9 C9 hP hS)
    | (refine wp_storePageW q PB.out (vals_length _) rfl rfl rfl rfl ?_; intro w11 hP hS; have PQ := Lib.hid hP; have PP := Lib.hid (hS.row PA.out (by omega)); have C11 := Lib.hid (hS.cod C10.out (by omega)); have B11 := Lib.hid (hS.below B10.out (by omega)); clear PA PB B10 C10 hP hS)
    | (refine wp_loadPage p PP.out rfl rfl rfl ?_))
  go_at_call 14
  refine (odd_any w1.heap.size p _ C11.out (FS.out p HEP.out)).mono ?_
  rintro e w12 ⟨o, rfl, hfo, hC12, hg12⟩
  have PP12 := Lib.hid (PP.out.grown hg12 (ne_some (by omega)))
  have PQ12 := Lib.hid (PQ.out.grown hg12 (ne_some (by omega)))
  have B12 := Lib.hid (B11.out.grown hg12 B11.out.size (fun k e => by injection e with e; omega))
  have hp7 := PP12.out.lt
  have hp8 := PQ12.out.lt
  have hl12 := B12.out.size
  clear hC12 hg12 PP PQ B11 C11
  have hst := bytes_same HEP.out HEQ.out
  have peq := page_eql
  by_cases hn : encE o = 0
  · have hso := bytes_same HEP.out hn
    have hvo : validB o = true := by rw [← encE_valid, hn]; rfl
    have HEO : Hid (∀ W, TabOk W → Calls Tryd.prog 15 #[.agg o.arr] W fun e w' => e = .returned (.tuple #[.string (encS o), .int .i64 0]) ∧ Below W.heap.size W w') := Lib.hid fun W hW => encode_ok o hn W hW
    have HV : Hid (∀ W, Calls Tryd.prog 18 #[.agg o.arr] W fun e w' => e = .returned (.bool true) ∧ Below W.heap.size W w') := Lib.hid fun W => by
      have := refValid_any o W hfo
      rwa [hvo] at this
    clear hn hvo hfo
    go_wp2_with (first
      | (refine wp_newPageW rfl rfl ?_; have _t := B12.out; intro w13 hP13 hb13 hz13; have P13 := Lib.hid hP13; have PP13 := Lib.hid (PP12.out.keep hb13); have PQ13 := Lib.hid (PQ12.out.keep hb13); have B13 := Lib.hid (B12.out.trans (hb13.mono B12.out.size)); clear hP13 hb13 B12 PP12 PQ12 _t)
      | (refine wp_storePageW o P13.out (vals_length _) rfl rfl rfl rfl ?_; intro w14 hP hS; have PO := Lib.hid hP; have PP14 := Lib.hid (hS.row PP13.out (by omega)); have PQ14 := Lib.hid (hS.row PQ13.out (by omega)); have B14 := Lib.hid (hS.below B13.out hl12); clear P13 PP13 PQ13 B13 hP hS)
      | (refine wp_loadPage p PP14.out rfl rfl rfl ?_)
      | (refine wp_loadPage q PQ15.out rfl rfl rfl ?_)
      | (refine wp_loadPage o PO16.out rfl rfl rfl ?_)
      | (refine wp_loadPage o PO17.out rfl rfl rfl ?_)
      | (refine wp_loadPage p PP18.out rfl rfl rfl ?_)
      | (refine wp_loadPage q PQ18.out rfl rfl rfl ?_)
      | (refine wp_loadPage o PO18.out rfl rfl rfl ?_)
      | (go_at_call 15; (with_reducible refine (encode_ok p HEP.out _ (tab_below hw B14.out hz)).mono ?_); rintro e w15 ⟨rfl, hb15⟩; have PO15 := Lib.hid (PO.out.keep hb15); have PP15 := Lib.hid (PP14.out.keep hb15); have PQ15 := Lib.hid (PQ14.out.keep hb15); have B15 := Lib.hid (B14.out.trans (hb15.mono B14.out.size)); clear hb15 PO PP14 PQ14 B14)
      | (go_at_call 15; (with_reducible refine (encode_ok q HEQ.out _ (tab_below hw B15.out hz)).mono ?_); rintro e w16 ⟨rfl, hb16⟩; have PO16 := Lib.hid (PO15.out.keep hb16); have PP16 := Lib.hid (PP15.out.keep hb16); have PQ16 := Lib.hid (PQ15.out.keep hb16); have B16 := Lib.hid (B15.out.trans (hb16.mono B15.out.size)); clear hb16 PO15 PP15 PQ15 B15)
      | (go_at_call 15; (with_reducible refine (HEO.out _ (tab_below hw B16.out hz)).mono ?_); rintro e w17 ⟨rfl, hb17⟩; have PO17 := Lib.hid (PO16.out.keep hb17); have PP17 := Lib.hid (PP16.out.keep hb17); have PQ17 := Lib.hid (PQ16.out.keep hb17); have B17 := Lib.hid (B16.out.trans (hb17.mono B16.out.size)); clear hb17 PO16 PP16 PQ16 B16)
      | (go_at_call 18; (with_reducible refine (HV.out _).mono ?_); rintro e w18 ⟨rfl, hb18⟩; have PO18 := Lib.hid (PO17.out.keep hb18); have PP18 := Lib.hid (PP17.out.keep hb18); have PQ18 := Lib.hid (PQ17.out.keep hb18); have B18 := Lib.hid (B17.out.trans (hb18.mono B17.out.size)); clear hb18 PO17 PP17 PQ17 B17))
    go_ret
    exact ⟨by simp, B18.out⟩
  · obtain ⟨n, hnn⟩ : ∃ n, n = encE o := ⟨_, rfl⟩
    obtain ⟨d, hd⟩ : ∃ d, d = encA o := ⟨_, rfl⟩
    have hvo : validB o = false := by rw [← encE_valid]; simpa using hn
    have HEO : Hid (∀ W, TabOk W → Calls Tryd.prog 15 #[.agg o.arr] W fun e w' => e = .returned (.tuple #[.string d, .int .i64 n]) ∧ Below W.heap.size W w') := Lib.hid fun W hW => encode_b o d n hd.symm hnn.symm W hW hfo
    have HV : Hid (∀ W, Calls Tryd.prog 18 #[.agg o.arr] W fun e w' => e = .returned (.bool false) ∧ Below W.heap.size W w') := Lib.hid fun W => by
      have := refValid_any o W hfo
      rwa [hvo] at this
    have c0 : (n == 0) = false := by rw [hnn]; simpa using hn
    have c1 : (n != 0) = true := by rw [hnn]; simpa using hn
    clear hn hvo hfo hnn hd
    go_wp2_with (first
      | (refine wp_newPageW rfl rfl ?_; have _t := B12.out; intro w13 hP13 hb13 hz13; have P13 := Lib.hid hP13; have PP13 := Lib.hid (PP12.out.keep hb13); have PQ13 := Lib.hid (PQ12.out.keep hb13); have B13 := Lib.hid (B12.out.trans (hb13.mono B12.out.size)); clear hP13 hb13 B12 PP12 PQ12 _t)
      | (refine wp_storePageW o P13.out (vals_length _) rfl rfl rfl rfl ?_; intro w14 hP hS; have PO := Lib.hid hP; have PP14 := Lib.hid (hS.row PP13.out (by omega)); have PQ14 := Lib.hid (hS.row PQ13.out (by omega)); have B14 := Lib.hid (hS.below B13.out hl12); clear P13 PP13 PQ13 B13 hP hS)
      | (refine wp_loadPage p PP14.out rfl rfl rfl ?_)
      | (refine wp_loadPage q PQ15.out rfl rfl rfl ?_)
      | (refine wp_loadPage o PO16.out rfl rfl rfl ?_)
      | (refine wp_loadPage o PO17.out rfl rfl rfl ?_)
      | (refine wp_loadPage p PP18.out rfl rfl rfl ?_)
      | (refine wp_loadPage q PQ18.out rfl rfl rfl ?_)
      | (refine wp_loadPage o PO18.out rfl rfl rfl ?_)
      | (go_at_call 15; (with_reducible refine (encode_ok p HEP.out _ (tab_below hw B14.out hz)).mono ?_); rintro e w15 ⟨rfl, hb15⟩; have PO15 := Lib.hid (PO.out.keep hb15); have PP15 := Lib.hid (PP14.out.keep hb15); have PQ15 := Lib.hid (PQ14.out.keep hb15); have B15 := Lib.hid (B14.out.trans (hb15.mono B14.out.size)); clear hb15 PO PP14 PQ14 B14)
      | (go_at_call 15; (with_reducible refine (encode_ok q HEQ.out _ (tab_below hw B15.out hz)).mono ?_); rintro e w16 ⟨rfl, hb16⟩; have PO16 := Lib.hid (PO15.out.keep hb16); have PP16 := Lib.hid (PP15.out.keep hb16); have PQ16 := Lib.hid (PQ15.out.keep hb16); have B16 := Lib.hid (B15.out.trans (hb16.mono B15.out.size)); clear hb16 PO15 PP15 PQ15 B15)
      | (go_at_call 15; (with_reducible refine (HEO.out _ (tab_below hw B16.out hz)).mono ?_); rintro e w17 ⟨rfl, hb17⟩; have PO17 := Lib.hid (PO16.out.keep hb17); have PP17 := Lib.hid (PP16.out.keep hb17); have PQ17 := Lib.hid (PQ16.out.keep hb17); have B17 := Lib.hid (B16.out.trans (hb17.mono B16.out.size)); clear hb17 PO16 PP16 PQ16 B16)
      | (go_at_call 18; (with_reducible refine (HV.out _).mono ?_); rintro e w18 ⟨rfl, hb18⟩; have PO18 := Lib.hid (PO17.out.keep hb18); have PP18 := Lib.hid (PP17.out.keep hb18); have PQ18 := Lib.hid (PQ17.out.keep hb18); have B18 := Lib.hid (B17.out.trans (hb18.mono B17.out.size)); clear hb18 PO17 PP17 PQ17 B17))
    go_ret
    exact ⟨by simp, B18.out⟩
end Go.Proofs.YtlfcnjnfnfimmaaDoor.gb
