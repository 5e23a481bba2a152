/- PageTears: the walk. -/
import Derived.Test.YtlfcnjnfnfimmaaDoorFb
import Derived.Deep.RegionWith
namespace Go.Proofs.YtlfcnjnfnfimmaaDoor.fc
open Go.ChangeShapes Go.WideShapes Go.ChangeAt Go.RowKit Go.Proofs.YtlfcnjnfnfimmaaDoor.cm Go.Proofs.YtlfcnjnfnfimmaaDoor.cw Go.Proofs.YtlfcnjnfnfimmaaDoor.cp Go.Proofs.YtlfcnjnfnfimmaaDoor.cg Go.Proofs.YtlfcnjnfnfimmaaDoor.ch Go.Proofs.YtlfcnjnfnfimmaaDoor.cx Go.Proofs.YtlfcnjnfnfimmaaDoor.ra Go.Proofs.YtlfcnjnfnfimmaaDoor.rb Go.Proofs.YtlfcnjnfnfimmaaDoor.rc Go.Proofs.YtlfcnjnfnfimmaaDoor.da Go.Proofs.YtlfcnjnfnfimmaaDoor.db Go.Proofs.YtlfcnjnfnfimmaaDoor.dc Go.Proofs.YtlfcnjnfnfimmaaDoor.dd Go.Proofs.YtlfcnjnfnfimmaaDoor.de Go.Proofs.YtlfcnjnfnfimmaaDoor.df Go.Proofs.YtlfcnjnfnfimmaaDoor.dg Go.Proofs.YtlfcnjnfnfimmaaDoor.dh Go.Proofs.YtlfcnjnfnfimmaaDoor.di Go.Proofs.YtlfcnjnfnfimmaaDoor.dj Go.Proofs.YtlfcnjnfnfimmaaDoor.dk Go.Proofs.YtlfcnjnfnfimmaaDoor.dl Go.Proofs.YtlfcnjnfnfimmaaDoor.ea Go.Proofs.YtlfcnjnfnfimmaaDoor.eb Go.Proofs.YtlfcnjnfnfimmaaDoor.fa Go.Proofs.YtlfcnjnfnfimmaaDoor.fb

set_option maxRecDepth 4000 in
set_option maxHeartbeats 2000000 in
theorem tears_walk (so : Option Addr) (len cap : Nat) (a : Int) (bl : Bool) (w : World) (hw : TabOk w) (ha0 : 0 ≤ a) (ha1 : a ≤ 65535) (hin : BytesIn so len w) (hl : len ≤ 9223372036854775807) (hc : len ≤ cap) :
    Calls Tryd.prog 8 #[.slice so len cap, .int .u16 a, .bool bl] w fun e w' => e = .returned (.bool true) ∧ Below w.heap.size w w' := by
  have hz := tab_size hw
  have HIN := Lib.hid hin
  clear hin
  have zp := fun (x : Pg) (h : encE x = 0) => encS_size (small_of_encE h)
  have ZP := Lib.hid zp
  have zz := zeroS_size 256
  clear zp
  go_enter Tryd.func8, Tryd.ntmps8
  go_wp2_with fail
  go_at_call 10
  refine (awake_any _ hw).mono ?_
  rintro e w1 ⟨rfl, hb1⟩
  have B1 := Lib.hid hb1
  have hle := hb1.size
  clear hb1
  go_wp2_with fail
  go_at_call 11
  refine (new_is so len cap 200 _ (by decide) _ (bytesIn_below HIN.out B1.out) hl hc (by decide)).mono ?_
  rintro e w2 ⟨rfl, hC2, hb2, hz2⟩
  have C2 := Lib.hid hC2
  have B2 := Lib.hid (B1.out.trans (hb2.mono B1.out.size))
  clear hC2 hb2 hz2
  go_wp2_with fail
  go_at_call 13
  refine (next_any w1.heap.size 64 _ C2.out (by decide)).mono ?_
  rintro e w3 ⟨r, rfl, hr0, hr1, _, hC3, hg3⟩
  have hr64 := hr1 (by decide)
  have C3 := Lib.hid hC3
  have B3 := Lib.hid (B2.out.grown hg3 B2.out.size (fun k e => by injection e with e; omega))
  clear hC3 hg3 hr1 C2
  go_wp2_with fail
  go_at_call 12
  refine (page_any w1.heap.size r _ C3.out).mono ?_
  rintro e w4 ⟨p, rfl, hp1, hp2, hp3, hp4, hC4, hg4⟩
  have HEP : Hid (encE p = 0) := Lib.hid (encE_drawn (by omega) (by omega) hp2 hp3 hp4)
  have HPL := Lib.hid (And.intro hp2 hp3)
  have zp := ZP.out p HEP.out
  have HPI := Lib.hid hp1
  have C4 := Lib.hid hC4
  have B4 := Lib.hid (B3.out.grown hg4 B3.out.size (fun k e => by injection e with e; omega))
  clear hC4 hg4 hp4 hp1 hp2 hp3 C3
  go_wp2_with fail
  go_at_call 12
  refine (page_any w1.heap.size r _ C4.out).mono ?_
  rintro e w5 ⟨q, rfl, hq1, hq2, hq3, hq4, hC5, hg5⟩
  have HEQ : Hid (encE q = 0) := Lib.hid (encE_drawn (by omega) (by omega) hq2 hq3 hq4)
  have HQL := Lib.hid (And.intro hq2 hq3)
  have zq := ZP.out q HEQ.out
  have HQI := Lib.hid hq1
  have B5 := Lib.hid (B4.out.grown hg5 B4.out.size (fun k e => by injection e with e; omega))
  clear hC5 hg5 hq4 hq1 hq2 hq3 C4
  have hl5 := B5.out.size
  go_wp2_with (first
    | (refine wp_newPageW rfl rfl ?_; have _t := B5.out; intro w6 hP6 hb6 hz6; have P6 := Lib.hid hP6; have B6 := Lib.hid (B5.out.trans (hb6.mono B5.out.size)); clear hP6 hb6 B5 _t)
    | (refine wp_newPageW rfl rfl ?_; have _t := B6.out; intro w7 hP7 hb7 hz7; have P7 := Lib.hid hP7; have P67 := Lib.hid (P6.out.keep hb7); have B7 := Lib.hid (B6.out.trans (hb7.mono B6.out.size)); clear hP7 hb7 B6 P6 _t)
    | (refine wp_storePageW p P67.out (vals_length _) rfl rfl rfl rfl ?_; intro w8 hP8 hS8; have P8 := Lib.hid hP8; have P78 := Lib.hid (hS8.row P7.out (by omega)); have B8 := Lib.hid (hS8.below B7.out hl5); clear P67 P7 B7 hP8 hS8)
    | (refine wp_storePageW q P78.out (vals_length _) rfl rfl rfl rfl ?_; intro w9 hP9 hS9; have P9 := Lib.hid hP9; have P89 := Lib.hid (hS9.row P8.out (by omega)); have B9 := Lib.hid (hS9.below B8.out (by omega)); have l0 := PgAt.lsnAt P89.out; have l1 := PgAt.lsnAt P9.out; clear P78 P8 B8 hP9 hS9)
    | (refine wp_loadPage p P89.out rfl rfl rfl ?_)
    | (refine wp_loadPage q P10.out rfl rfl rfl ?_)
    | (go_at_call 15; (with_reducible refine (encode_ok p HEP.out _ (tab_below hw B9.out hz)).mono ?_); rintro e w10 ⟨rfl, hb10⟩; have P10 := Lib.hid (P9.out.keep hb10); have B10 := Lib.hid (B9.out.trans (hb10.mono B9.out.size)); clear hb10 P9 P89 B9)
    | (go_at_call 15; (with_reducible refine (encode_ok q HEQ.out _ (tab_below hw B10.out hz)).mono ?_); rintro e w11 ⟨rfl, hb11⟩; have B11 := Lib.hid (B10.out.trans (hb11.mono B10.out.size)); have l11 := PgAt.lsnAt (P10.out.keep hb11); clear hb11 P10 B10)
    | (go_at_call 21; (with_reducible refine (blank_any _).mono ?_); rintro e w12 ⟨rfl, hb12⟩; have B12 := Lib.hid (B11.out.trans (hb12.mono B11.out.size)); clear hb12))
  · go_ret
    exact ⟨rfl, B9.out⟩
  · skip
    have hq : (p.lsn == q.lsn) = false := by assumption
    have hqn : p.lsn ≠ q.lsn := by simpa using hq
    obtain ⟨k, hk⟩ : ∃ k : Nat, (k : Int) = a % 257 := ⟨(a % 257).toNat, by omega⟩
    have hk256 : k ≤ 256 := by omega
    rw [← hk]
    have DF := Lib.hid (lsn_differ (s := zeroS 256) (t := encS q) (by rw [zero_getlsn, enc_getlsn q HQL.out.1 HQL.out.2]; omega))
    have hS : (zeroS 256).size = 256 := zz
    have s1 := slice_to (zeroS 256) k k rfl (by omega)
    have s2 := slice_from (encS q) k k 256 rfl (by omega) zq
    have s3 := slice_to (encS q) k k rfl (by omega)
    have s4 := slice_from (zeroS 256) k k 256 rfl (by omega) hS
    have a1 : ∀ W : World, (Op.stringOp .add ((zeroS 256).extract 0 k) ((encS q).extract k 256)).run Tryd.prog W = .ok (.string ((zeroS 256).extract 0 k ++ (encS q).extract k 256)) W := fun W =>
      run_string_add_sum W _ _ (by rw [ByteArray.size_extract, ByteArray.size_extract]; omega)
    have a2 : ∀ W : World, (Op.stringOp .add ((encS q).extract 0 k) ((zeroS 256).extract k 256)).run Tryd.prog W = .ok (.string ((encS q).extract 0 k ++ (zeroS 256).extract k 256)) W := fun W =>
      run_string_add_sum W _ _ (by rw [ByteArray.size_extract, ByteArray.size_extract]; omega)
    have q0 : (0 : Int) ≤ (k : Int) := by omega
    have q1 : (k : Int) ≤ 256 := by omega
    have HK := Lib.hid hk
    clear hk hqn
    go_region_with (fail)
    go_wp2_with fail
    simp only [List.getElem_toArray, List.getElem_cons_zero, List.getElem_cons_succ, Act.put, List.setIfInBounds_toArray, List.set_cons_succ, List.set_cons_zero]
    clear s1 s2 s3 s4 a1 a2 q0 q1
    have OK1 := Lib.hid (tear_ok (zeroS 256) (encS q) k hk256 (posd_zero) (posd_enc (small_of_encE HEQ.out)) DF.out r)
    have OK2 := Lib.hid (tear_ok (encS q) (zeroS 256) k hk256 (posd_enc (small_of_encE HEQ.out)) (posd_zero) (by obtain ⟨i, h1, h2⟩ := DF.out; exact ⟨i, h1, h2.symm⟩) r)
    have R0 : RowAt w12.heap.size [.string ((zeroS 256).extract 0 k ++ (encS q).extract k 256), .string ((encS q).extract 0 k ++ (zeroS 256).extract k 256)] ((w12.alloc (.cells #[.string ((zeroS 256).extract 0 k ++ (encS q).extract k 256), .string ((encS q).extract 0 k ++ (zeroS 256).extract k 256)] 9)).drew) := (RowAt.newA #[.string ((zeroS 256).extract 0 k ++ (encS q).extract k 256), .string ((encS q).extract 0 k ++ (zeroS 256).extract k 256)] w12 9).drew
    have BB : Below w.heap.size w ((w12.alloc (.cells #[.string ((zeroS 256).extract 0 k ++ (encS q).extract k 256), .string ((encS q).extract 0 k ++ (zeroS 256).extract k 256)] 9)).drew) := (B12.out.alloc B12.out.size _).drew
    generalize (w12.alloc (.cells #[.string ((zeroS 256).extract 0 k ++ (encS q).extract k 256), .string ((encS q).extract 0 k ++ (zeroS 256).extract k 256)] 9)).drew = W0 at R0 BB ⊢
    generalize (zeroS 256).extract 0 k ++ (encS q).extract k 256 = x1 at R0 OK1 ⊢
    generalize (encS q).extract 0 k ++ (zeroS 256).extract k 256 = x2 at R0 OK2 ⊢
    generalize hsS : (zeroS 256) = sS at OK1 OK2 ⊢
    generalize hsT : encS q = sT at OK1 OK2 ⊢
    clear hsS hsT hS DF zz zq zp HEP HEQ
    have hbs : w12.heap.size < W0.heap.size := R0.lt
    generalize w12.heap.size = bs at R0 hbs ⊢
    have HR0 := Lib.hid R0
    have HBB := Lib.hid BB
    clear R0 BB hbs
    go_loopw [89] (fun i wr => ∃ j : Nat, j ≤ 2 ∧ i = .int .i64 j ∧ RowAt bs [.string x1, .string x2] wr ∧ Below w.heap.size w wr) (fun i _ => 2 - (intOf i).toNat)
    case atStart => exact ⟨0, by omega, rfl, HR0.out, HBB.out⟩
    case round =>
      obtain ⟨j, hj, rfl, h1, h2⟩ := hrel
      have HR1 := Lib.hid h1
      have HB1 := Lib.hid h2
      clear HR0 HBB h1 h2
      by_cases hj2 : j < 2
      · obtain ⟨x, hx, hok⟩ : ∃ x, [Value.string x1, .string x2][j]? = some (.string x) ∧ (idnE x r = 0 → ((x = sS ∨ x = sT) ∧ (idnP x r).id = r)) := by
          have h01 : j = 0 ∨ j = 1 := by omega
          rcases h01 with rfl | rfl
          · exact ⟨x1, rfl, OK1.out⟩
          · exact ⟨x2, rfl, fun h => ⟨(OK2.out h).1.symm, (OK2.out h).2⟩⟩
        have hcell := HR1.out.cells j _ hx
        have HOK := Lib.hid hok
        have HX := Lib.hid hx
        obtain ⟨n, hn⟩ : ∃ n, n = idnE x r := ⟨_, rfl⟩
        obtain ⟨y, hy⟩ : ∃ y, y = idnP x r := ⟨_, rfl⟩
        rw [← hn, ← hy] at hok
        have HI : Hid (∀ W, TabOk W → Calls Tryd.prog 27 #[.string x, .int .i64 r] W fun e w' => e = .returned (.tuple #[.agg y.arr, .int .i64 n]) ∧ Below W.heap.size W w') := Lib.hid fun W hW => identify_b x r y n hy.symm hn.symm W hW
        clear hx hn hy
        have HOK2 := Lib.hid hok
        clear hok
        have c0 : (n == 0) = decide (n = 0) := rfl
        have q0 : (0 : Int) ≤ (j : Int) := by omega
        have q1 : (j : Int) < 2 := by omega
        by_cases he : n = 0
        · obtain ⟨hxx, hid⟩ := HOK2.out he
          have c1 : (n == 0) = true := by rw [he]; rfl
          have c3 : (y.id != r) = false := by rw [hid]; simp
          clear c0 he hid
          by_cases hxs : x = sS
          · have c2 := eqL_yes hxs
            clear hxs hxx
            go_wp2_with (first
              | (go_at_call 27; (with_reducible refine (HI.out _ (tab_below hw HB1.out hz)).mono ?_); rintro e w20 ⟨rfl, hb20⟩; have HR2 := Lib.hid (HR1.out.keep hb20); have HB2 := Lib.hid (HB1.out.trans (hb20.mono HB1.out.size)); clear hb20 hcell)
              | (refine wp_newPageW rfl rfl ?_; intro w21 hP hb21 hz21; have HP := Lib.hid hP; have HR3 := Lib.hid (HR2.out.keep hb21); have HB3 := Lib.hid (HB2.out.trans (hb21.mono HB2.out.size)); have hlt2 := HR2.out.lt; have hle2 := HB2.out.size; clear hP hb21 HR2 HB2)
              | (refine wp_storePageW y HP.out (vals_length _) rfl rfl rfl rfl ?_; intro w22 hP hS; have l22 := PgAt.idAt hP; have HR4 := Lib.hid (hS.row HR3.out (by omega)); have HB4 := Lib.hid (hS.below HB3.out (by omega)); clear HP HR3 HB3 hP hS))
            go_roundw
            case rel => exact ⟨j + 1, by omega, by go_num, HR4.out, HB4.out⟩
            case measure => simp [intOf]; omega
          · have c2 := eqL_no hxs
            have c4 := eqL_yes (hxx.resolve_left hxs)
            clear hxs hxx
            go_wp2_with (first
              | (go_at_call 27; (with_reducible refine (HI.out _ (tab_below hw HB1.out hz)).mono ?_); rintro e w20 ⟨rfl, hb20⟩; have HR2 := Lib.hid (HR1.out.keep hb20); have HB2 := Lib.hid (HB1.out.trans (hb20.mono HB1.out.size)); clear hb20 hcell)
              | (refine wp_newPageW rfl rfl ?_; intro w21 hP hb21 hz21; have HP := Lib.hid hP; have HR3 := Lib.hid (HR2.out.keep hb21); have HB3 := Lib.hid (HB2.out.trans (hb21.mono HB2.out.size)); have hlt2 := HR2.out.lt; have hle2 := HB2.out.size; clear hP hb21 HR2 HB2)
              | (refine wp_storePageW y HP.out (vals_length _) rfl rfl rfl rfl ?_; intro w22 hP hS; have l22 := PgAt.idAt hP; have HR4 := Lib.hid (hS.row HR3.out (by omega)); have HB4 := Lib.hid (hS.below HB3.out (by omega)); clear HP HR3 HB3 hP hS))
            go_roundw
            case rel => exact ⟨j + 1, by omega, by go_num, HR4.out, HB4.out⟩
            case measure => simp [intOf]; omega
        · have c1 : (n == 0) = false := by simpa using he
          clear c0 he
          go_wp2_with (first
            | (go_at_call 27; (with_reducible refine (HI.out _ (tab_below hw HB1.out hz)).mono ?_); rintro e w20 ⟨rfl, hb20⟩; have HR2 := Lib.hid (HR1.out.keep hb20); have HB2 := Lib.hid (HB1.out.trans (hb20.mono HB1.out.size)); clear hb20 hcell)
            | (refine wp_newPageW rfl rfl ?_; intro w21 hP hb21 hz21; have HP := Lib.hid hP; have HR3 := Lib.hid (HR2.out.keep hb21); have HB3 := Lib.hid (HB2.out.trans (hb21.mono HB2.out.size)); have hlt2 := HR2.out.lt; have hle2 := HB2.out.size; clear hP hb21 HR2 HB2)
            | (refine wp_storePageW y HP.out (vals_length _) rfl rfl rfl rfl ?_; intro w22 hP hS; have l22 := PgAt.idAt hP; have HR4 := Lib.hid (hS.row HR3.out (by omega)); have HB4 := Lib.hid (hS.below HB3.out (by omega)); clear HP HR3 HB3 hP hS))
          go_roundw
          case rel => exact ⟨j + 1, by omega, by go_num, HR4.out, HB4.out⟩
          case measure => simp [intOf]; omega
      · obtain rfl : j = 2 := by omega
        go_wp2_with fail
        go_ret
        exact ⟨rfl, HB1.out⟩
  · skip
    have hq : (p.lsn == q.lsn) = false := by assumption
    have hqn : p.lsn ≠ q.lsn := by simpa using hq
    obtain ⟨k, hk⟩ : ∃ k : Nat, (k : Int) = a % 257 := ⟨(a % 257).toNat, by omega⟩
    have hk256 : k ≤ 256 := by omega
    rw [← hk]
    have DF := Lib.hid (lsn_differ (s := encS p) (t := encS q) (by rw [enc_getlsn p HPL.out.1 HPL.out.2, enc_getlsn q HQL.out.1 HQL.out.2]; exact hqn))
    have hS : (encS p).size = 256 := zp
    have s1 := slice_to (encS p) k k rfl (by omega)
    have s2 := slice_from (encS q) k k 256 rfl (by omega) zq
    have s3 := slice_to (encS q) k k rfl (by omega)
    have s4 := slice_from (encS p) k k 256 rfl (by omega) hS
    have a1 : ∀ W : World, (Op.stringOp .add ((encS p).extract 0 k) ((encS q).extract k 256)).run Tryd.prog W = .ok (.string ((encS p).extract 0 k ++ (encS q).extract k 256)) W := fun W =>
      run_string_add_sum W _ _ (by rw [ByteArray.size_extract, ByteArray.size_extract]; omega)
    have a2 : ∀ W : World, (Op.stringOp .add ((encS q).extract 0 k) ((encS p).extract k 256)).run Tryd.prog W = .ok (.string ((encS q).extract 0 k ++ (encS p).extract k 256)) W := fun W =>
      run_string_add_sum W _ _ (by rw [ByteArray.size_extract, ByteArray.size_extract]; omega)
    have q0 : (0 : Int) ≤ (k : Int) := by omega
    have q1 : (k : Int) ≤ 256 := by omega
    have HK := Lib.hid hk
    clear hk hqn
    go_region_with (fail)
    go_wp2_with fail
    simp only [List.getElem_toArray, List.getElem_cons_zero, List.getElem_cons_succ, Act.put, List.setIfInBounds_toArray, List.set_cons_succ, List.set_cons_zero]
    clear s1 s2 s3 s4 a1 a2 q0 q1
    have OK1 := Lib.hid (tear_ok (encS p) (encS q) k hk256 (posd_enc (small_of_encE HEP.out)) (posd_enc (small_of_encE HEQ.out)) DF.out r)
    have OK2 := Lib.hid (tear_ok (encS q) (encS p) k hk256 (posd_enc (small_of_encE HEQ.out)) (posd_enc (small_of_encE HEP.out)) (by obtain ⟨i, h1, h2⟩ := DF.out; exact ⟨i, h1, h2.symm⟩) r)
    have R0 : RowAt w11.heap.size [.string ((encS p).extract 0 k ++ (encS q).extract k 256), .string ((encS q).extract 0 k ++ (encS p).extract k 256)] ((w11.alloc (.cells #[.string ((encS p).extract 0 k ++ (encS q).extract k 256), .string ((encS q).extract 0 k ++ (encS p).extract k 256)] 9)).drew) := (RowAt.newA #[.string ((encS p).extract 0 k ++ (encS q).extract k 256), .string ((encS q).extract 0 k ++ (encS p).extract k 256)] w11 9).drew
    have BB : Below w.heap.size w ((w11.alloc (.cells #[.string ((encS p).extract 0 k ++ (encS q).extract k 256), .string ((encS q).extract 0 k ++ (encS p).extract k 256)] 9)).drew) := (B11.out.alloc B11.out.size _).drew
    generalize (w11.alloc (.cells #[.string ((encS p).extract 0 k ++ (encS q).extract k 256), .string ((encS q).extract 0 k ++ (encS p).extract k 256)] 9)).drew = W0 at R0 BB ⊢
    generalize (encS p).extract 0 k ++ (encS q).extract k 256 = x1 at R0 OK1 ⊢
    generalize (encS q).extract 0 k ++ (encS p).extract k 256 = x2 at R0 OK2 ⊢
    generalize hsS : (encS p) = sS at OK1 OK2 ⊢
    generalize hsT : encS q = sT at OK1 OK2 ⊢
    clear hsS hsT hS DF zz zq zp HEP HEQ
    have hbs : w11.heap.size < W0.heap.size := R0.lt
    generalize w11.heap.size = bs at R0 hbs ⊢
    have HR0 := Lib.hid R0
    have HBB := Lib.hid BB
    clear R0 BB hbs
    go_loopw [89] (fun i wr => ∃ j : Nat, j ≤ 2 ∧ i = .int .i64 j ∧ RowAt bs [.string x1, .string x2] wr ∧ Below w.heap.size w wr) (fun i _ => 2 - (intOf i).toNat)
    case atStart => exact ⟨0, by omega, rfl, HR0.out, HBB.out⟩
    case round =>
      obtain ⟨j, hj, rfl, h1, h2⟩ := hrel
      have HR1 := Lib.hid h1
      have HB1 := Lib.hid h2
      clear HR0 HBB h1 h2
      by_cases hj2 : j < 2
      · obtain ⟨x, hx, hok⟩ : ∃ x, [Value.string x1, .string x2][j]? = some (.string x) ∧ (idnE x r = 0 → ((x = sS ∨ x = sT) ∧ (idnP x r).id = r)) := by
          have h01 : j = 0 ∨ j = 1 := by omega
          rcases h01 with rfl | rfl
          · exact ⟨x1, rfl, OK1.out⟩
          · exact ⟨x2, rfl, fun h => ⟨(OK2.out h).1.symm, (OK2.out h).2⟩⟩
        have hcell := HR1.out.cells j _ hx
        have HOK := Lib.hid hok
        have HX := Lib.hid hx
        obtain ⟨n, hn⟩ : ∃ n, n = idnE x r := ⟨_, rfl⟩
        obtain ⟨y, hy⟩ : ∃ y, y = idnP x r := ⟨_, rfl⟩
        rw [← hn, ← hy] at hok
        have HI : Hid (∀ W, TabOk W → Calls Tryd.prog 27 #[.string x, .int .i64 r] W fun e w' => e = .returned (.tuple #[.agg y.arr, .int .i64 n]) ∧ Below W.heap.size W w') := Lib.hid fun W hW => identify_b x r y n hy.symm hn.symm W hW
        clear hx hn hy
        have HOK2 := Lib.hid hok
        clear hok
        have c0 : (n == 0) = decide (n = 0) := rfl
        have q0 : (0 : Int) ≤ (j : Int) := by omega
        have q1 : (j : Int) < 2 := by omega
        by_cases he : n = 0
        · obtain ⟨hxx, hid⟩ := HOK2.out he
          have c1 : (n == 0) = true := by rw [he]; rfl
          have c3 : (y.id != r) = false := by rw [hid]; simp
          clear c0 he hid
          by_cases hxs : x = sS
          · have c2 := eqL_yes hxs
            clear hxs hxx
            go_wp2_with (first
              | (go_at_call 27; (with_reducible refine (HI.out _ (tab_below hw HB1.out hz)).mono ?_); rintro e w20 ⟨rfl, hb20⟩; have HR2 := Lib.hid (HR1.out.keep hb20); have HB2 := Lib.hid (HB1.out.trans (hb20.mono HB1.out.size)); clear hb20 hcell)
              | (refine wp_newPageW rfl rfl ?_; intro w21 hP hb21 hz21; have HP := Lib.hid hP; have HR3 := Lib.hid (HR2.out.keep hb21); have HB3 := Lib.hid (HB2.out.trans (hb21.mono HB2.out.size)); have hlt2 := HR2.out.lt; have hle2 := HB2.out.size; clear hP hb21 HR2 HB2)
              | (refine wp_storePageW y HP.out (vals_length _) rfl rfl rfl rfl ?_; intro w22 hP hS; have l22 := PgAt.idAt hP; have HR4 := Lib.hid (hS.row HR3.out (by omega)); have HB4 := Lib.hid (hS.below HB3.out (by omega)); clear HP HR3 HB3 hP hS))
            go_roundw
            case rel => exact ⟨j + 1, by omega, by go_num, HR4.out, HB4.out⟩
            case measure => simp [intOf]; omega
          · have c2 := eqL_no hxs
            have c4 := eqL_yes (hxx.resolve_left hxs)
            clear hxs hxx
            go_wp2_with (first
              | (go_at_call 27; (with_reducible refine (HI.out _ (tab_below hw HB1.out hz)).mono ?_); rintro e w20 ⟨rfl, hb20⟩; have HR2 := Lib.hid (HR1.out.keep hb20); have HB2 := Lib.hid (HB1.out.trans (hb20.mono HB1.out.size)); clear hb20 hcell)
              | (refine wp_newPageW rfl rfl ?_; intro w21 hP hb21 hz21; have HP := Lib.hid hP; have HR3 := Lib.hid (HR2.out.keep hb21); have HB3 := Lib.hid (HB2.out.trans (hb21.mono HB2.out.size)); have hlt2 := HR2.out.lt; have hle2 := HB2.out.size; clear hP hb21 HR2 HB2)
              | (refine wp_storePageW y HP.out (vals_length _) rfl rfl rfl rfl ?_; intro w22 hP hS; have l22 := PgAt.idAt hP; have HR4 := Lib.hid (hS.row HR3.out (by omega)); have HB4 := Lib.hid (hS.below HB3.out (by omega)); clear HP HR3 HB3 hP hS))
            go_roundw
            case rel => exact ⟨j + 1, by omega, by go_num, HR4.out, HB4.out⟩
            case measure => simp [intOf]; omega
        · have c1 : (n == 0) = false := by simpa using he
          clear c0 he
          go_wp2_with (first
            | (go_at_call 27; (with_reducible refine (HI.out _ (tab_below hw HB1.out hz)).mono ?_); rintro e w20 ⟨rfl, hb20⟩; have HR2 := Lib.hid (HR1.out.keep hb20); have HB2 := Lib.hid (HB1.out.trans (hb20.mono HB1.out.size)); clear hb20 hcell)
            | (refine wp_newPageW rfl rfl ?_; intro w21 hP hb21 hz21; have HP := Lib.hid hP; have HR3 := Lib.hid (HR2.out.keep hb21); have HB3 := Lib.hid (HB2.out.trans (hb21.mono HB2.out.size)); have hlt2 := HR2.out.lt; have hle2 := HB2.out.size; clear hP hb21 HR2 HB2)
            | (refine wp_storePageW y HP.out (vals_length _) rfl rfl rfl rfl ?_; intro w22 hP hS; have l22 := PgAt.idAt hP; have HR4 := Lib.hid (hS.row HR3.out (by omega)); have HB4 := Lib.hid (hS.below HB3.out (by omega)); clear HP HR3 HB3 hP hS))
          go_roundw
          case rel => exact ⟨j + 1, by omega, by go_num, HR4.out, HB4.out⟩
          case measure => simp [intOf]; omega
      · obtain rfl : j = 2 := by omega
        go_wp2_with fail
        go_ret
        exact ⟨rfl, HB1.out⟩
  · skip
    have hq : (p.lsn == q.lsn) = false := by assumption
    have hqn : p.lsn ≠ q.lsn := by simpa using hq
    obtain ⟨k, hk⟩ : ∃ k : Nat, (k : Int) = a % 257 := ⟨(a % 257).toNat, by omega⟩
    have hk256 : k ≤ 256 := by omega
    rw [← hk]
    have DF := Lib.hid (lsn_differ (s := encS p) (t := encS q) (by rw [enc_getlsn p HPL.out.1 HPL.out.2, enc_getlsn q HQL.out.1 HQL.out.2]; exact hqn))
    have hS : (encS p).size = 256 := zp
    have s1 := slice_to (encS p) k k rfl (by omega)
    have s2 := slice_from (encS q) k k 256 rfl (by omega) zq
    have s3 := slice_to (encS q) k k rfl (by omega)
    have s4 := slice_from (encS p) k k 256 rfl (by omega) hS
    have a1 : ∀ W : World, (Op.stringOp .add ((encS p).extract 0 k) ((encS q).extract k 256)).run Tryd.prog W = .ok (.string ((encS p).extract 0 k ++ (encS q).extract k 256)) W := fun W =>
      run_string_add_sum W _ _ (by rw [ByteArray.size_extract, ByteArray.size_extract]; omega)
    have a2 : ∀ W : World, (Op.stringOp .add ((encS q).extract 0 k) ((encS p).extract k 256)).run Tryd.prog W = .ok (.string ((encS q).extract 0 k ++ (encS p).extract k 256)) W := fun W =>
      run_string_add_sum W _ _ (by rw [ByteArray.size_extract, ByteArray.size_extract]; omega)
    have q0 : (0 : Int) ≤ (k : Int) := by omega
    have q1 : (k : Int) ≤ 256 := by omega
    have HK := Lib.hid hk
    clear hk hqn
    go_region_with (fail)
    go_wp2_with fail
    simp only [List.getElem_toArray, List.getElem_cons_zero, List.getElem_cons_succ, Act.put, List.setIfInBounds_toArray, List.set_cons_succ, List.set_cons_zero]
    clear s1 s2 s3 s4 a1 a2 q0 q1
    have OK1 := Lib.hid (tear_ok (encS p) (encS q) k hk256 (posd_enc (small_of_encE HEP.out)) (posd_enc (small_of_encE HEQ.out)) DF.out r)
    have OK2 := Lib.hid (tear_ok (encS q) (encS p) k hk256 (posd_enc (small_of_encE HEQ.out)) (posd_enc (small_of_encE HEP.out)) (by obtain ⟨i, h1, h2⟩ := DF.out; exact ⟨i, h1, h2.symm⟩) r)
    have R0 : RowAt w11.heap.size [.string ((encS p).extract 0 k ++ (encS q).extract k 256), .string ((encS q).extract 0 k ++ (encS p).extract k 256)] ((w11.alloc (.cells #[.string ((encS p).extract 0 k ++ (encS q).extract k 256), .string ((encS q).extract 0 k ++ (encS p).extract k 256)] 9)).drew) := (RowAt.newA #[.string ((encS p).extract 0 k ++ (encS q).extract k 256), .string ((encS q).extract 0 k ++ (encS p).extract k 256)] w11 9).drew
    have BB : Below w.heap.size w ((w11.alloc (.cells #[.string ((encS p).extract 0 k ++ (encS q).extract k 256), .string ((encS q).extract 0 k ++ (encS p).extract k 256)] 9)).drew) := (B11.out.alloc B11.out.size _).drew
    generalize (w11.alloc (.cells #[.string ((encS p).extract 0 k ++ (encS q).extract k 256), .string ((encS q).extract 0 k ++ (encS p).extract k 256)] 9)).drew = W0 at R0 BB ⊢
    generalize (encS p).extract 0 k ++ (encS q).extract k 256 = x1 at R0 OK1 ⊢
    generalize (encS q).extract 0 k ++ (encS p).extract k 256 = x2 at R0 OK2 ⊢
    generalize hsS : (encS p) = sS at OK1 OK2 ⊢
    generalize hsT : encS q = sT at OK1 OK2 ⊢
    clear hsS hsT hS DF zz zq zp HEP HEQ
    have hbs : w11.heap.size < W0.heap.size := R0.lt
    generalize w11.heap.size = bs at R0 hbs ⊢
    have HR0 := Lib.hid R0
    have HBB := Lib.hid BB
    clear R0 BB hbs
    go_loopw [89] (fun i wr => ∃ j : Nat, j ≤ 2 ∧ i = .int .i64 j ∧ RowAt bs [.string x1, .string x2] wr ∧ Below w.heap.size w wr) (fun i _ => 2 - (intOf i).toNat)
    case atStart => exact ⟨0, by omega, rfl, HR0.out, HBB.out⟩
    case round =>
      obtain ⟨j, hj, rfl, h1, h2⟩ := hrel
      have HR1 := Lib.hid h1
      have HB1 := Lib.hid h2
      clear HR0 HBB h1 h2
      by_cases hj2 : j < 2
      · obtain ⟨x, hx, hok⟩ : ∃ x, [Value.string x1, .string x2][j]? = some (.string x) ∧ (idnE x r = 0 → ((x = sS ∨ x = sT) ∧ (idnP x r).id = r)) := by
          have h01 : j = 0 ∨ j = 1 := by omega
          rcases h01 with rfl | rfl
          · exact ⟨x1, rfl, OK1.out⟩
          · exact ⟨x2, rfl, fun h => ⟨(OK2.out h).1.symm, (OK2.out h).2⟩⟩
        have hcell := HR1.out.cells j _ hx
        have HOK := Lib.hid hok
        have HX := Lib.hid hx
        obtain ⟨n, hn⟩ : ∃ n, n = idnE x r := ⟨_, rfl⟩
        obtain ⟨y, hy⟩ : ∃ y, y = idnP x r := ⟨_, rfl⟩
        rw [← hn, ← hy] at hok
        have HI : Hid (∀ W, TabOk W → Calls Tryd.prog 27 #[.string x, .int .i64 r] W fun e w' => e = .returned (.tuple #[.agg y.arr, .int .i64 n]) ∧ Below W.heap.size W w') := Lib.hid fun W hW => identify_b x r y n hy.symm hn.symm W hW
        clear hx hn hy
        have HOK2 := Lib.hid hok
        clear hok
        have c0 : (n == 0) = decide (n = 0) := rfl
        have q0 : (0 : Int) ≤ (j : Int) := by omega
        have q1 : (j : Int) < 2 := by omega
        by_cases he : n = 0
        · obtain ⟨hxx, hid⟩ := HOK2.out he
          have c1 : (n == 0) = true := by rw [he]; rfl
          have c3 : (y.id != r) = false := by rw [hid]; simp
          clear c0 he hid
          by_cases hxs : x = sS
          · have c2 := eqL_yes hxs
            clear hxs hxx
            go_wp2_with (first
              | (go_at_call 27; (with_reducible refine (HI.out _ (tab_below hw HB1.out hz)).mono ?_); rintro e w20 ⟨rfl, hb20⟩; have HR2 := Lib.hid (HR1.out.keep hb20); have HB2 := Lib.hid (HB1.out.trans (hb20.mono HB1.out.size)); clear hb20 hcell)
              | (refine wp_newPageW rfl rfl ?_; intro w21 hP hb21 hz21; have HP := Lib.hid hP; have HR3 := Lib.hid (HR2.out.keep hb21); have HB3 := Lib.hid (HB2.out.trans (hb21.mono HB2.out.size)); have hlt2 := HR2.out.lt; have hle2 := HB2.out.size; clear hP hb21 HR2 HB2)
              | (refine wp_storePageW y HP.out (vals_length _) rfl rfl rfl rfl ?_; intro w22 hP hS; have l22 := PgAt.idAt hP; have HR4 := Lib.hid (hS.row HR3.out (by omega)); have HB4 := Lib.hid (hS.below HB3.out (by omega)); clear HP HR3 HB3 hP hS))
            go_roundw
            case rel => exact ⟨j + 1, by omega, by go_num, HR4.out, HB4.out⟩
            case measure => simp [intOf]; omega
          · have c2 := eqL_no hxs
            have c4 := eqL_yes (hxx.resolve_left hxs)
            clear hxs hxx
            go_wp2_with (first
              | (go_at_call 27; (with_reducible refine (HI.out _ (tab_below hw HB1.out hz)).mono ?_); rintro e w20 ⟨rfl, hb20⟩; have HR2 := Lib.hid (HR1.out.keep hb20); have HB2 := Lib.hid (HB1.out.trans (hb20.mono HB1.out.size)); clear hb20 hcell)
              | (refine wp_newPageW rfl rfl ?_; intro w21 hP hb21 hz21; have HP := Lib.hid hP; have HR3 := Lib.hid (HR2.out.keep hb21); have HB3 := Lib.hid (HB2.out.trans (hb21.mono HB2.out.size)); have hlt2 := HR2.out.lt; have hle2 := HB2.out.size; clear hP hb21 HR2 HB2)
              | (refine wp_storePageW y HP.out (vals_length _) rfl rfl rfl rfl ?_; intro w22 hP hS; have l22 := PgAt.idAt hP; have HR4 := Lib.hid (hS.row HR3.out (by omega)); have HB4 := Lib.hid (hS.below HB3.out (by omega)); clear HP HR3 HB3 hP hS))
            go_roundw
            case rel => exact ⟨j + 1, by omega, by go_num, HR4.out, HB4.out⟩
            case measure => simp [intOf]; omega
        · have c1 : (n == 0) = false := by simpa using he
          clear c0 he
          go_wp2_with (first
            | (go_at_call 27; (with_reducible refine (HI.out _ (tab_below hw HB1.out hz)).mono ?_); rintro e w20 ⟨rfl, hb20⟩; have HR2 := Lib.hid (HR1.out.keep hb20); have HB2 := Lib.hid (HB1.out.trans (hb20.mono HB1.out.size)); clear hb20 hcell)
            | (refine wp_newPageW rfl rfl ?_; intro w21 hP hb21 hz21; have HP := Lib.hid hP; have HR3 := Lib.hid (HR2.out.keep hb21); have HB3 := Lib.hid (HB2.out.trans (hb21.mono HB2.out.size)); have hlt2 := HR2.out.lt; have hle2 := HB2.out.size; clear hP hb21 HR2 HB2)
            | (refine wp_storePageW y HP.out (vals_length _) rfl rfl rfl rfl ?_; intro w22 hP hS; have l22 := PgAt.idAt hP; have HR4 := Lib.hid (hS.row HR3.out (by omega)); have HB4 := Lib.hid (hS.below HB3.out (by omega)); clear HP HR3 HB3 hP hS))
          go_roundw
          case rel => exact ⟨j + 1, by omega, by go_num, HR4.out, HB4.out⟩
          case measure => simp [intOf]; omega
      · obtain rfl : j = 2 := by omega
        go_wp2_with fail
        go_ret
        exact ⟨rfl, HB1.out⟩
end Go.Proofs.YtlfcnjnfnfimmaaDoor.fc
