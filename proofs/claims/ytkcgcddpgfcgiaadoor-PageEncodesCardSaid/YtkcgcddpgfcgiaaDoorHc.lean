/- PageForms: the walk. -/
import Derived.Test.YtkcgcddpgfcgiaaDoorHb
import Derived.Test.YtkcgcddpgfcgiaaDoorFb
import Derived.Test.YtkcgcddpgfcgiaaDoorEd
namespace Go.Proofs.YtkcgcddpgfcgiaaDoor.hc
open Go.ChangeShapes Go.WideShapes Go.ChangeAt Go.RowKit Go.Proofs.YtkcgcddpgfcgiaaDoor.cm Go.Proofs.YtkcgcddpgfcgiaaDoor.cw Go.Proofs.YtkcgcddpgfcgiaaDoor.cp Go.Proofs.YtkcgcddpgfcgiaaDoor.cg Go.Proofs.YtkcgcddpgfcgiaaDoor.ch Go.Proofs.YtkcgcddpgfcgiaaDoor.cx Go.Proofs.YtkcgcddpgfcgiaaDoor.ra Go.Proofs.YtkcgcddpgfcgiaaDoor.rb Go.Proofs.YtkcgcddpgfcgiaaDoor.rc Go.Proofs.YtkcgcddpgfcgiaaDoor.da Go.Proofs.YtkcgcddpgfcgiaaDoor.db Go.Proofs.YtkcgcddpgfcgiaaDoor.dc Go.Proofs.YtkcgcddpgfcgiaaDoor.dd Go.Proofs.YtkcgcddpgfcgiaaDoor.de Go.Proofs.YtkcgcddpgfcgiaaDoor.df Go.Proofs.YtkcgcddpgfcgiaaDoor.dg Go.Proofs.YtkcgcddpgfcgiaaDoor.dh Go.Proofs.YtkcgcddpgfcgiaaDoor.di Go.Proofs.YtkcgcddpgfcgiaaDoor.dj Go.Proofs.YtkcgcddpgfcgiaaDoor.dk Go.Proofs.YtkcgcddpgfcgiaaDoor.dl Go.Proofs.YtkcgcddpgfcgiaaDoor.ea Go.Proofs.YtkcgcddpgfcgiaaDoor.eb Go.Proofs.YtkcgcddpgfcgiaaDoor.ed Go.Proofs.YtkcgcddpgfcgiaaDoor.fa Go.Proofs.YtkcgcddpgfcgiaaDoor.fb Go.Proofs.YtkcgcddpgfcgiaaDoor.hb

theorem refEncode_ok (q : Pg) (h : encE q = 0) (w : World) :
    Calls Tryd.prog 12 #[.agg q.arr] w fun e w' => e = .returned (.tuple #[.string (encS q), .int .i64 0]) ∧ Below w.heap.size w w' := by
  have := refEncode_any q w (fits_of_small (small_of_encE h))
  unfold encT encA at this
  rwa [if_pos h, h] at this
theorem decP_fits (x : ByteArray) : Fits (decP x) := by
  unfold decP
  split
  · exact fits_of_small (readPg_small x)
  · exact fits_of_small (new_small 0)
theorem dec_form {x : ByteArray} (h : decE x = 0) : encE (decP x) = 0 ∧ encA (decP x) = x := by
  have h' := h
  unfold decP
  rw [if_pos h]
  unfold decE at h'
  split at h'
  · rename_i hc
    split at h'
    · rename_i h2
      exact ⟨h2.2, h2.1⟩
    · cases h'
  · rename_i hc
    exact absurd h' hc
theorem page_neq_self (p : Pg) (W : World) : (binOp .neq 27 (.agg p.arr) (.agg p.arr)).run Tryd.prog W = .ok (.bool false) W := by
  rw [page_neq, sameP_self]; rfl

set_option maxRecDepth 4000 in
set_option maxHeartbeats 2000000 in
theorem forms_walk (so : Option Addr) (len cap : Nat) (w : World) (hw : TabOk w) (hin : BytesIn so len w) (hl : len ≤ 9223372036854775807) (hc : len ≤ cap) :
    Calls Tryd.prog 5 #[.slice so len cap] w fun e w' => e = .returned (.bool true) ∧ Below w.heap.size w w' := by
  have hz := tab_size hw
  have HIN := Lib.hid hin
  clear hin
  go_enter Tryd.func5, Tryd.ntmps5
  go_wp2_with fail
  go_at_call 6
  refine (awake_any _ hw).mono ?_
  rintro e w1 ⟨rfl, hb1⟩
  have B1 := Lib.hid hb1
  have hle := hb1.size
  clear hb1
  go_wp2_with fail
  go_at_call 7
  refine (new_is so len cap 160 _ (by decide) _ (bytesIn_below HIN.out B1.out) hl hc (by decide)).mono ?_
  rintro e w2 ⟨rfl, hC2, hb2, hz2⟩
  have C2 := Lib.hid hC2
  have B2 := Lib.hid (B1.out.trans (hb2.mono B1.out.size))
  clear hC2 hb2 hz2 B1 HIN
  generalize w1.heap.size = c at C2 hle
  go_wp2_with fail
  go_at_call 9
  refine (next_any c 5 _ C2.out (by decide)).mono ?_
  rintro e w3 ⟨r, rfl, hr0, hr1, _, hC3, hg3⟩
  have hr5 := hr1 (by decide)
  have C3 := Lib.hid hC3
  have B3 := Lib.hid (B2.out.grown hg3 B2.out.size (fun k e => by injection e with e; omega))
  clear hC3 hg3 hr1 C2 B2
  go_wp2_with fail
  go_at_call 8
  refine (page_any c r _ C3.out).mono ?_
  rintro e w4 ⟨q, rfl, hq1, hq2, hq3, hq4, hC4, hg4⟩
  have HEQ : Hid (encE q = 0) := Lib.hid (encE_drawn (by omega) (by omega) hq2 hq3 hq4)
  have zq := encS_size (small_of_encE HEQ.out)
  have C4 := Lib.hid hC4
  have B4 := Lib.hid (B3.out.grown hg4 B3.out.size (fun k e => by injection e with e; omega))
  clear hC4 hg4 hq4 hq1 hq2 hq3 C3 B3
  go_wp2_with fail
  go_at_call 12
  refine (refEncode_ok q HEQ.out _).mono ?_
  rintro e w5 ⟨rfl, hb5⟩
  have C5 := Lib.hid (cod_keep C4.out hb5)
  have B5 := Lib.hid (B4.out.trans (hb5.mono B4.out.size))
  clear hb5 B4 C4 HEQ
  generalize encS q = good at zq
  go_wp2_with fail
  go_loopw [6] (fun i wr => ∃ j : Nat, j ≤ 4 ∧ i = .int .i64 j ∧ Cod c wr ∧ Below w.heap.size w wr) (fun i _ => 4 - (intOf i).toNat)
  case atStart => exact ⟨0, by omega, rfl, C5.out, B5.out⟩
  case round =>
    obtain ⟨j, hj, rfl, h1, h2⟩ := hrel
    have HC1 := Lib.hid h1
    have HB1 := Lib.hid h2
    clear C5 B5 h1 h2
    by_cases hj4 : j < 4
    · have q0 : (0 : Int) ≤ (j : Int) := by omega
      have q1 : (j : Int) < 4 := by omega
      go_wp2_with fail
      go_at_call 25
      refine (sealed_any c good _ HC1.out zq).mono ?_
      rintro e w6 ⟨x, rfl, hC6, hg6⟩
      have HC6 := Lib.hid hC6
      have HB6 := Lib.hid (HB1.out.grown hg6 HB1.out.size (fun k e => by injection e with e; omega))
      clear hC6 hg6 HC1 HB1
      obtain ⟨n, hn⟩ : ∃ n, decE x = n := ⟨_, rfl⟩
      obtain ⟨p, hp⟩ : ∃ p, decP x = p := ⟨_, rfl⟩
      obtain ⟨m, hm⟩ : ∃ m, encE p = m := ⟨_, rfl⟩
      obtain ⟨t, ht⟩ : ∃ t, encA p = t := ⟨_, rfl⟩
      have HD : Hid (∀ W, TabOk W → Calls Tryd.prog 21 #[.string x] W fun e w' => e = .returned (.tuple #[.agg p.arr, .int .i64 n]) ∧ Below W.heap.size W w') := Lib.hid fun W hW => decode_b x p n hp hn W hW
      have HR : Hid (∀ W, TabOk W → Calls Tryd.prog 22 #[.string x] W fun e w' => e = .returned (.tuple #[.agg p.arr, .int .i64 n]) ∧ Below W.heap.size W w') := Lib.hid fun W hW => refDecode_b x p n hp hn W hW
      have HE : Hid (∀ W, TabOk W → Calls Tryd.prog 11 #[.agg p.arr] W fun e w' => e = .returned (.tuple #[.string t, .int .i64 m]) ∧ Below W.heap.size W w') := Lib.hid fun W hW => encode_b p t m ht hm W hW (by rw [← hp]; exact decP_fits x)
      have hform : n = 0 → m = 0 ∧ t = x := fun h => by
        have := dec_form (hn.trans h)
        rw [hp, hm, ht] at this
        exact this
      have pn := page_neq_self p
      clear hn hp hm ht
      by_cases h0 : n = 0
      · obtain ⟨rfl, rfl⟩ := hform h0
        subst h0
        have nt := neL_no (rfl : t = t)
        clear hform
        go_wp2_with (first
          | (go_at_call 21; (with_reducible refine (HD.out _ (tab_below hw HB6.out hz)).mono ?_); rintro e w7 ⟨rfl, hb7⟩; have HC7 := Lib.hid (cod_keep HC6.out hb7); have HB7 := Lib.hid (HB6.out.trans (hb7.mono HB6.out.size)); clear hb7 HB6 HC6)
          | (refine wp_newPageW rfl rfl ?_; have lt7 := cod_lt HC7.out; have le7 := HB7.out.size; intro w8 hP hb8 hz8; have P8 := Lib.hid hP; have HC8 := Lib.hid (cod_keep HC7.out hb8); have HB8 := Lib.hid (HB7.out.trans (hb8.mono HB7.out.size)); clear hP hb8 HC7 HB7)
          | (refine wp_storePageW p P8.out (vals_length _) rfl rfl rfl rfl ?_; intro w9 hP hS; have P9 := Lib.hid hP; have HC9 := Lib.hid (hS.cod HC8.out lt7); have HB9 := Lib.hid (hS.below HB8.out le7); clear P8 HC8 HB8 hP hS)
          | (go_at_call 22; (with_reducible refine (HR.out _ (tab_below hw HB9.out hz)).mono ?_); rintro e w10 ⟨rfl, hb10⟩; have P10 := Lib.hid (P9.out.keep hb10); have HC10 := Lib.hid (cod_keep HC9.out hb10); have HB10 := Lib.hid (HB9.out.trans (hb10.mono HB9.out.size)); clear hb10 HB9 HC9 P9)
          | (refine wp_newPageW rfl rfl ?_; have lt10 := cod_lt HC10.out; have lp10 := P10.out.lt; have le10 := HB10.out.size; intro w11 hP hb11 hz11; have P11 := Lib.hid hP; have PP11 := Lib.hid (P10.out.keep hb11); have HC11 := Lib.hid (cod_keep HC10.out hb11); have HB11 := Lib.hid (HB10.out.trans (hb11.mono HB10.out.size)); clear hP hb11 HC10 HB10 P10)
          | (refine wp_storePageW p P11.out (vals_length _) rfl rfl rfl rfl ?_; intro w12 hP hS; have P12 := Lib.hid hP; have PP12 := Lib.hid (hS.row PP11.out (by omega)); have HC12 := Lib.hid (hS.cod HC11.out lt10); have HB12 := Lib.hid (hS.below HB11.out le10); clear P11 PP11 HC11 HB11 hP hS)
          | (refine wp_loadPage p PP12.out rfl rfl rfl ?_)
          | (refine wp_loadPage p P12.out rfl rfl rfl ?_)
          | (go_at_call 11; (with_reducible refine (HE.out _ (tab_below hw HB12.out hz)).mono ?_); rintro e w13 ⟨rfl, hb13⟩; have HC13 := Lib.hid (cod_keep HC12.out hb13); have HB13 := Lib.hid (HB12.out.trans (hb13.mono HB12.out.size)); clear hb13 HB12 HC12 P12 PP12))
        go_roundw
        case rel => exact ⟨j + 1, by omega, by go_num, HC13.out, HB13.out⟩
        case measure => simp [intOf]; omega
      · have n0 : (n == 0) = false := by simpa using h0
        clear hform h0
        go_wp2_with (first
          | (go_at_call 21; (with_reducible refine (HD.out _ (tab_below hw HB6.out hz)).mono ?_); rintro e w7 ⟨rfl, hb7⟩; have HC7 := Lib.hid (cod_keep HC6.out hb7); have HB7 := Lib.hid (HB6.out.trans (hb7.mono HB6.out.size)); clear hb7 HB6 HC6)
          | (refine wp_newPageW rfl rfl ?_; have lt7 := cod_lt HC7.out; have le7 := HB7.out.size; intro w8 hP hb8 hz8; have P8 := Lib.hid hP; have HC8 := Lib.hid (cod_keep HC7.out hb8); have HB8 := Lib.hid (HB7.out.trans (hb8.mono HB7.out.size)); clear hP hb8 HC7 HB7)
          | (refine wp_storePageW p P8.out (vals_length _) rfl rfl rfl rfl ?_; intro w9 hP hS; have P9 := Lib.hid hP; have HC9 := Lib.hid (hS.cod HC8.out lt7); have HB9 := Lib.hid (hS.below HB8.out le7); clear P8 HC8 HB8 hP hS)
          | (go_at_call 22; (with_reducible refine (HR.out _ (tab_below hw HB9.out hz)).mono ?_); rintro e w10 ⟨rfl, hb10⟩; have P10 := Lib.hid (P9.out.keep hb10); have HC10 := Lib.hid (cod_keep HC9.out hb10); have HB10 := Lib.hid (HB9.out.trans (hb10.mono HB9.out.size)); clear hb10 HB9 HC9 P9)
          | (refine wp_newPageW rfl rfl ?_; have lt10 := cod_lt HC10.out; have lp10 := P10.out.lt; have le10 := HB10.out.size; intro w11 hP hb11 hz11; have P11 := Lib.hid hP; have PP11 := Lib.hid (P10.out.keep hb11); have HC11 := Lib.hid (cod_keep HC10.out hb11); have HB11 := Lib.hid (HB10.out.trans (hb11.mono HB10.out.size)); clear hP hb11 HC10 HB10 P10)
          | (refine wp_storePageW p P11.out (vals_length _) rfl rfl rfl rfl ?_; intro w12 hP hS; have P12 := Lib.hid hP; have PP12 := Lib.hid (hS.row PP11.out (by omega)); have HC12 := Lib.hid (hS.cod HC11.out lt10); have HB12 := Lib.hid (hS.below HB11.out le10); clear P11 PP11 HC11 HB11 hP hS)
          | (refine wp_loadPage p PP12.out rfl rfl rfl ?_)
          | (refine wp_loadPage p P12.out rfl rfl rfl ?_)
          | (go_at_call 11; (with_reducible refine (HE.out _ (tab_below hw HB12.out hz)).mono ?_); rintro e w13 ⟨rfl, hb13⟩; have HC13 := Lib.hid (cod_keep HC12.out hb13); have HB13 := Lib.hid (HB12.out.trans (hb13.mono HB12.out.size)); clear hb13 HB12 HC12 P12 PP12))
        go_roundw
        case rel => exact ⟨j + 1, by omega, by go_num, HC13.out, HB13.out⟩
        case measure => simp [intOf]; omega
    · obtain rfl : j = 4 := by omega
      go_wp2_with fail
      go_ret
      exact ⟨rfl, HB1.out⟩
end Go.Proofs.YtkcgcddpgfcgiaaDoor.hc
