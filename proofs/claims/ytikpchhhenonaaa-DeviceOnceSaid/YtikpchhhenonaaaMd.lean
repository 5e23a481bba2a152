/- DeviceOnce. -/
import Derived.Test.YtikpchhhenonaaaMc
import Derived.Deep.CutBlock
namespace Go.Proofs.Ytikpchhhenonaaa.md
open Go.ChangeShapes Go.WideShapes Go.ChangeAt Go.RowKit Go.Proofs.Ytikpchhhenonaaa.cx Go.Proofs.Ytikpchhhenonaaa.ra Go.Proofs.Ytikpchhhenonaaa.la Go.Proofs.Ytikpchhhenonaaa.lb Go.Proofs.Ytikpchhhenonaaa.lc Go.Proofs.Ytikpchhhenonaaa.ld Go.Proofs.Ytikpchhhenonaaa.le Go.Proofs.Ytikpchhhenonaaa.lf Go.Proofs.Ytikpchhhenonaaa.lg Go.Proofs.Ytikpchhhenonaaa.lh Go.Proofs.Ytikpchhhenonaaa.li Go.Proofs.Ytikpchhhenonaaa.lj Go.Proofs.Ytikpchhhenonaaa.lk Go.Proofs.Ytikpchhhenonaaa.ll Go.Proofs.Ytikpchhhenonaaa.lm Go.Proofs.Ytikpchhhenonaaa.ln Go.Proofs.Ytikpchhhenonaaa.lo Go.Proofs.Ytikpchhhenonaaa.lp Go.Proofs.Ytikpchhhenonaaa.lq Go.Proofs.Ytikpchhhenonaaa.lr Go.Proofs.Ytikpchhhenonaaa.ls Go.Proofs.Ytikpchhhenonaaa.lt Go.Proofs.Ytikpchhhenonaaa.lu Go.Proofs.Ytikpchhhenonaaa.lv Go.Proofs.Ytikpchhhenonaaa.lw Go.Proofs.Ytikpchhhenonaaa.lx Go.Proofs.Ytikpchhhenonaaa.ly Go.Proofs.Ytikpchhhenonaaa.mc
set_option linter.unusedSimpArgs false
def boolL (l : List Bool) : List Value := l.map Value.bool
theorem boolL_set (l : List Bool) (i : Nat) (b : Bool) : (boolL l).set i (.bool b) = boolL (l.set i b) := by
  unfold boolL
  rw [List.map_set]
theorem boolL_length (l : List Bool) : (boolL l).length = l.length := List.length_map ..
theorem zero_tri (W : World) : (zeroValue 54).run Try.prog W = .ok (.agg (boolL [false, false, false]).toArray) W := by kernel_rfl
theorem build_tri (W : World) : (Instr.build 54 #[]).run Try.prog W = .ok (.agg (boolL [false, false, false]).toArray) W := by kernel_rfl
theorem info_tri : (Try.prog.info? 54).map (·.size) = some 3 := by kernel_rfl
section
variable {ops : Array Oper} {rest : List Oper} {o : Oper} {a : Act} {w : World} {Q : Exit → Act → World → Prop} {x y : Operand} {b : Nat}
theorem wp_storeTri (hr : RowAt b (boolL [false, false, false]) w) (ho : o.op = .store 54 x y)
    (hx : a.eval x = .pointer (some ⟨b, 0, none⟩)) (hy : a.eval y = .agg (boolL [false, false, false]).toArray) (hgd : Region.wanted o (yielded ops a.tmps) = true)
    (h : ∀ W, RowAt b (boolL [false, false, false]) W → StoredAt b w W → wpList Try.prog ops Q rest (a.put o.dst undef) W) : wpList Try.prog ops Q (o :: rest) a w := by
  have hs := RowAt.setCells (boolL [false, false, false]) 0 hr (Nat.le_refl 3)
  rw [splice_all _ _ rfl] at hs
  exact wp_store (boolL [false, false, false]) _ hr info_tri rfl (Nat.le_refl 3) ho hx hy hgd (h _ hs ⟨_, _, rfl⟩)
theorem wp_one {c : Code} {Q : Exit → Act → World → Prop} {a : Act} {w : World} (A : Act) (W : World) (h : c.wp Try.prog (NormalQ fun a w => a = A ∧ w = W) a w) (hq : Q .normal A W) : c.wp Try.prog Q a w :=
  Code.wp_mono (fun e a w he => by
    cases e with
    | normal =>
      obtain ⟨rfl, rfl⟩ := he
      exact hq
    | _ => exact he.elim) h
end
theorem one_of {k : Nat} {f : Flt} (ha : f.at' = (k : Int)) (hk : 1 ≤ k ∧ k ≤ 5) (hd : 1 ≤ f.kind ∧ f.kind ≤ 5) (hp : 0 ≤ f.page ∧ f.page < 3) (ht : 0 ≤ f.target ∧ f.target < 3) (hb : 0 ≤ f.byte ∧ f.byte < 256)
    (hu : usedF f = f) (hm : f.kind = 4 → f.mask = 1) : OneF k f := by
  refine ⟨ha, hk, hd, hp, ht, hb, ?_⟩
  unfold okKind
  rw [hu, sameF_iff.2 rfl, decide_eq_true (show 1 ≤ f.kind ∧ f.kind ≤ 6 by omega)]
  have : (f.kind == 4 && f.mask == 0) = false := by
    by_cases c : f.kind = 4
    · rw [hm c]; simp
    · simp [c]
  rw [this]
  rfl
theorem once_inject {k : Nat} {f : Flt} (hf : OneF k f) : injectE (qDev (blanks 3) 0) f = 0 ∧ injectD (qDev (blanks 3) 0) f = ⟨blanks 3, 0, [], false, [f]⟩ := by
  have hE : injectE (qDev (blanks 3) 0) f = 0 := by
    unfold injectE
    rw [if_pos (q_valid (pages_blanks 3) (by decide) (by decide)), if_pos (hf.fault (d := qDev (blanks 3) 0) (by show (0 : Int) < (k : Int); have := hf.k1; omega) rfl)]
    rfl
  refine ⟨hE, ?_⟩
  unfold injectD
  rw [if_pos hE]
  rfl
theorem read_e (vs : List Value) (d : Dev) (page : Int) (w : World) (h : DevV vs d w) (hf : FitsD d) {n : Int} {x : ByteArray} (hn : readE d page = n) (hd : readS d page = x) :
    Calls Try.prog 31 #[.agg vs.toArray, .int .i64 page] w fun e w' => e = .returned (.tuple #[.string x, .int .i64 n]) ∧ Below w.heap.size w w' := read_b vs d page x n hn hd w h hf
set_option maxHeartbeats 8000000 in
set_option maxRecDepth 4000 in
theorem once_walk (so : Option Addr) (len cap : Nat) (a b : Int) (w : World) (ha0 : 0 ≤ a) (ha1 : a ≤ 255) (hb0 : 0 ≤ b) (hb1 : b ≤ 255) (hin : BytesIn so len w) (hl : len ≤ 9223372036854775807) (hc : len ≤ cap) :
    Calls Try.prog 6 #[.slice so len cap, .int .u8 a, .int .u8 b] w fun e w' => e = .returned (.bool true) ∧ Below w.heap.size w w' := by
  have HIN := Lib.hid hin
  clear hin
  obtain ⟨k, hk, hk1⟩ : ∃ k : Nat, 1 + b % 5 = (k : Int) ∧ 1 ≤ k ∧ k ≤ 5 := ⟨(1 + b % 5).toNat, by omega, by omega⟩
  obtain ⟨kk, hkk, hkk1⟩ : ∃ kk : Int, 1 + a % 5 = kk ∧ 1 ≤ kk ∧ kk ≤ 5 := ⟨_, rfl, by omega, by omega⟩
  have HN := Lib.hid hk1
  have HK := Lib.hid hk
  have HKK := Lib.hid hkk
  clear hk hkk
  go_enter Try.func6, Try.ntmps6
  go_upto_region 4 with (first
    | (go_at_call 9; refine (awake_any _).mono ?_; rintro e w1 ⟨rfl, hb⟩; have B1 := Lib.hid hb; clear hb)
    | (go_at_call 11; refine (new_most 100 100 rfl so len cap _ (bytesIn_below HIN.out B1.out) hl hc (by decide)).mono ?_; rintro e w2 ⟨rfl, hC, hb, hz⟩; obtain ⟨m0, hC2⟩ := codL_new hC; have C2 := Lib.hid hC2; have B2 := Lib.hid (B1.out.trans (hb.mono B1.out.size)); have K2 : Hid (w.heap.size ≤ w1.heap.size) := Lib.hid B1.out.size; clear hC hC2 hb hz B1))
  have hwc := Lib.hid K2.out
  generalize w1.heap.size = xc at *
  clear K2
  go_cut [8] from 27 to 30 (fun s8 wx => s8 = .int .i64 (k : Int) ∧ CodL xc m0 wx ∧ Below w.heap.size w wx)
  case first =>
    go_wp2_with fail
    go_meet
    exact ⟨by rw [← HK.out], C2.out, B2.out⟩
  case rest =>
  obtain ⟨rfl, hC, hB⟩ := hcut
  have C3 := Lib.hid hC
  have B3 := Lib.hid hB
  clear hC hB C2 B2
  have KC := Lib.hid (codL_lt C3.out)
  go_upto_region 5 with fail
  go_cut [9] from 31 to 36 (fun s9 wx => ∃ xf, s9 = .pointer (some ⟨xf, 0, none⟩) ∧ xc < xf ∧ RowAt xf (Flt.vals ⟨kk, (k : Int), 0, 0, 0, 0⟩) wx ∧ CodL xc m0 wx ∧ Below w.heap.size w wx)
  case first =>
    have bf := build_flt2
    go_wp2_with (first
      | (refine wp_newW flt0.vals _ zero_flt rfl rfl ?_; intro w4 hP hb _; have R4 := Lib.hid hP; have C4 := Lib.hid (codL_keep C3.out hb); have B4 := Lib.hid (B3.out.trans (hb.mono B3.out.size)); clear hP hb C3)
      | (refine wp_storeFltW ⟨1 + a % 5, (k : Int), 0, 0, 0, 0⟩ R4.out rfl rfl rfl rfl rfl ?_; intro w5 hP hS; have R5 := Lib.hid hP; have C5 := Lib.hid (codL_stored C4.out hS KC.out); have B5 := Lib.hid (hS.below B4.out B3.out.size); clear hP hS))
    go_meet
    exact ⟨_, rfl, KC.out, by rw [← HKK.out]; exact R5.out, C5.out, B5.out⟩
  case rest =>
  obtain ⟨xf, rfl, hxf, hR, hC, hB⟩ := hcut
  have RF := Lib.hid hR
  have CF := Lib.hid hC
  have BF := Lib.hid hB
  have hwf := Lib.hid (Nat.le_trans hwc.out (Nat.le_of_lt hxf))
  have HXF := Lib.hid hxf
  clear hR hC hB C3 B3 KC HK HKK hxf
  have c0 := RF.out.cells 0 _ rfl
  go_upto_block 0 with fail
  clear c0
  go_cut [9] from 37 to 62 (fun s9 wx => s9 = .pointer (some ⟨xf, 0, none⟩) ∧ ∃ (f : Flt) (m : Nat), OneF k f ∧ RowAt xf f.vals wx ∧ CodL xc m wx ∧ Below w.heap.size w wx)
  case first =>
    rcases (show kk = 1 ∨ kk = 2 ∨ kk = 3 ∨ kk = 4 ∨ kk = 5 by omega) with rfl | rfl | rfl | rfl | rfl
    · go_wp2_with fail
      go_meet
      exact ⟨rfl, ⟨1, (k : Int), 0, 0, 0, 0⟩, _, one_of rfl HN.out ⟨(by decide : (1 : Int) ≤ 1), (by decide : (1 : Int) ≤ 5)⟩ ⟨(by decide : (0 : Int) ≤ 0), (by decide : (0 : Int) < 3)⟩ ⟨(by decide : (0 : Int) ≤ 0), (by decide : (0 : Int) < 3)⟩ ⟨(by decide : (0 : Int) ≤ 0), (by decide : (0 : Int) < 256)⟩ rfl (by intro h; cases h), RF.out, CF.out, BF.out⟩
    · go_wp2_with (first
        | (go_at_call 17; refine (nextL_any xc _ 3 _ CF.out (by decide)).mono ?_; rintro e wn1 ⟨r1, rfl, hq0, hq1, _, ⟨m1, hm2, hm3, hC⟩, hg⟩; have RN1 := Lib.hid (RF.out.grown hg (fun e => by injection e with e; have := HXF.out; omega)); have CN1 := Lib.hid hC; have BN1 := Lib.hid (below_grown BF.out hg hwc.out); have hr1 := hq1 (by decide); have hs1 := hq0; clear hq0 hq1 hm2 hm3 hC hg CF RF BF)
        | (refine wp_storeFieldW (i := 3) 3 (.int .i64 r1) rfl rfl info_int1 RN1.out (show 3 < 6 by decide) rfl rfl rfl rfl ?_; intro ws1 hP hS; have RS1 := Lib.hid hP; have CS1 := Lib.hid (codL_stored CN1.out hS HXF.out); have BS1 := Lib.hid (hS.below BN1.out hwf.out); clear hP hS RN1 CN1 BN1))
      go_meet
      exact ⟨rfl, ⟨2, (k : Int), 0, r1, 0, 0⟩, _, one_of rfl HN.out ⟨(by decide : (1 : Int) ≤ 2), (by decide : (2 : Int) ≤ 5)⟩ ⟨(by decide : (0 : Int) ≤ 0), (by decide : (0 : Int) < 3)⟩ ⟨hs1, hr1⟩ ⟨(by decide : (0 : Int) ≤ 0), (by decide : (0 : Int) < 256)⟩ rfl (by intro h; cases h), RS1.out, CS1.out, BS1.out⟩
    · go_wp2_with (first
        | (go_at_call 17; refine (nextL_any xc _ 256 _ CF.out (by decide)).mono ?_; rintro e wn1 ⟨r1, rfl, hq0, hq1, _, ⟨m1, hm2, hm3, hC⟩, hg⟩; have RN1 := Lib.hid (RF.out.grown hg (fun e => by injection e with e; have := HXF.out; omega)); have CN1 := Lib.hid hC; have BN1 := Lib.hid (below_grown BF.out hg hwc.out); have hr1 := hq1 (by decide); have hs1 := hq0; clear hq0 hq1 hm2 hm3 hC hg CF RF BF)
        | (refine wp_storeFieldW (i := 4) 3 (.int .i64 r1) rfl rfl info_int1 RN1.out (show 4 < 6 by decide) rfl rfl rfl rfl ?_; intro ws1 hP hS; have RS1 := Lib.hid hP; have CS1 := Lib.hid (codL_stored CN1.out hS HXF.out); have BS1 := Lib.hid (hS.below BN1.out hwf.out); clear hP hS RN1 CN1 BN1))
      go_meet
      exact ⟨rfl, ⟨3, (k : Int), 0, 0, r1, 0⟩, _, one_of rfl HN.out ⟨(by decide : (1 : Int) ≤ 3), (by decide : (3 : Int) ≤ 5)⟩ ⟨(by decide : (0 : Int) ≤ 0), (by decide : (0 : Int) < 3)⟩ ⟨(by decide : (0 : Int) ≤ 0), (by decide : (0 : Int) < 3)⟩ ⟨hs1, hr1⟩ rfl (by intro h; cases h), RS1.out, CS1.out, BS1.out⟩
    · go_wp2_with (first
        | (go_at_call 17; refine (nextL_any xc _ 3 _ CF.out (by decide)).mono ?_; rintro e wn1 ⟨r1, rfl, hq0, hq1, _, ⟨m1, hm2, hm3, hC⟩, hg⟩; have RN1 := Lib.hid (RF.out.grown hg (fun e => by injection e with e; have := HXF.out; omega)); have CN1 := Lib.hid hC; have BN1 := Lib.hid (below_grown BF.out hg hwc.out); have hr1 := hq1 (by decide); have hs1 := hq0; clear hq0 hq1 hm2 hm3 hC hg CF RF BF)
        | (go_at_call 17; refine (nextL_any xc _ 256 _ CN1.out (by decide)).mono ?_; rintro e wn2 ⟨r2, rfl, hq0, hq1, _, ⟨m2, hm2, hm3, hC⟩, hg⟩; have RN2 := Lib.hid (RN1.out.grown hg (fun e => by injection e with e; have := HXF.out; omega)); have CN2 := Lib.hid hC; have BN2 := Lib.hid (below_grown BN1.out hg hwc.out); have hr2 := hq1 (by decide); have hs2 := hq0; clear hq0 hq1 hm2 hm3 hC hg CN1 RN1 BN1)
        | (refine wp_storeFieldW (i := 2) 3 (.int .i64 r1) rfl rfl info_int1 RN2.out (show 2 < 6 by decide) rfl rfl rfl rfl ?_; intro ws1 hP hS; have RS1 := Lib.hid hP; have CS1 := Lib.hid (codL_stored CN2.out hS HXF.out); have BS1 := Lib.hid (hS.below BN2.out hwf.out); clear hP hS RN2 CN2 BN2)
        | (refine wp_storeFieldW (i := 4) 3 (.int .i64 r2) rfl rfl info_int1 RS1.out (show 4 < 6 by decide) rfl rfl rfl rfl ?_; intro ws2 hP hS; have RS2 := Lib.hid hP; have CS2 := Lib.hid (codL_stored CS1.out hS HXF.out); have BS2 := Lib.hid (hS.below BS1.out hwf.out); clear hP hS RS1 CS1 BS1)
        | (refine wp_storeFieldW (i := 5) 5 (.int .u8 1) rfl rfl info_u81 RS2.out (show 5 < 6 by decide) rfl rfl rfl rfl ?_; intro ws3 hP hS; have RS3 := Lib.hid hP; have CS3 := Lib.hid (codL_stored CS2.out hS HXF.out); have BS3 := Lib.hid (hS.below BS2.out hwf.out); clear hP hS RS2 CS2 BS2))
      go_meet
      exact ⟨rfl, ⟨4, (k : Int), r1, 0, r2, 1⟩, _, one_of rfl HN.out ⟨(by decide : (1 : Int) ≤ 4), (by decide : (4 : Int) ≤ 5)⟩ ⟨hs1, hr1⟩ ⟨(by decide : (0 : Int) ≤ 0), (by decide : (0 : Int) < 3)⟩ ⟨hs2, hr2⟩ rfl (fun _ => rfl), RS3.out, CS3.out, BS3.out⟩
    · go_wp2_with (first
        | (go_at_call 17; refine (nextL_any xc _ 3 _ CF.out (by decide)).mono ?_; rintro e wn1 ⟨r1, rfl, hq0, hq1, _, ⟨m1, hm2, hm3, hC⟩, hg⟩; have RN1 := Lib.hid (RF.out.grown hg (fun e => by injection e with e; have := HXF.out; omega)); have CN1 := Lib.hid hC; have BN1 := Lib.hid (below_grown BF.out hg hwc.out); have hr1 := hq1 (by decide); have hs1 := hq0; clear hq0 hq1 hm2 hm3 hC hg CF RF BF)
        | (refine wp_storeFieldW (i := 2) 3 (.int .i64 r1) rfl rfl info_int1 RN1.out (show 2 < 6 by decide) rfl rfl rfl rfl ?_; intro ws1 hP hS; have RS1 := Lib.hid hP; have CS1 := Lib.hid (codL_stored CN1.out hS HXF.out); have BS1 := Lib.hid (hS.below BN1.out hwf.out); clear hP hS RN1 CN1 BN1))
      go_meet
      exact ⟨rfl, ⟨5, (k : Int), r1, 0, 0, 0⟩, _, one_of rfl HN.out ⟨(by decide : (1 : Int) ≤ 5), (by decide : (5 : Int) ≤ 5)⟩ ⟨hs1, hr1⟩ ⟨(by decide : (0 : Int) ≤ 0), (by decide : (0 : Int) < 3)⟩ ⟨(by decide : (0 : Int) ≤ 0), (by decide : (0 : Int) < 256)⟩ rfl (by intro h; cases h), RS1.out, CS1.out, BS1.out⟩
  case rest =>
  obtain ⟨rfl, f, m1, hf, hR, hC, hB⟩ := hcut
  have HF := Lib.hid hf
  have RG := Lib.hid hR
  have CG := Lib.hid hC
  have BG := Lib.hid hB
  have HI := Lib.hid (once_inject hf)
  have FQ := Lib.hid (fits_pages (d := qDev (blanks 3) 0) (pages_blanks 3))
  have bt := build_tri
  clear hf hR hC hB RF CF BF
  go_wp2_with (first
    | (go_at_call 13; refine (new_b 3 0 (qDev (blanks 3) 0) (newD_of 3 (by decide)).1 (newD_of 3 (by decide)).2 _).mono ?_; rintro e w3 ⟨v1, rfl, hV, hl2, hb⟩; have V3 := Lib.hid hV; have L3 := Lib.hid (hl2 _ (Nat.le_refl _)); have C3 := Lib.hid (codL_keep CG.out hb); have R3 := Lib.hid (RG.out.keep hb); have B3 := Lib.hid (BG.out.trans (hb.mono BG.out.size)); have K3 : Hid (xc < wc.heap.size ∧ xc < w3.heap.size ∧ xf < w3.heap.size) := Lib.hid ⟨codL_lt CG.out, codL_lt C3.out, R3.out.lt⟩; clear hV hl2 hb CG RG)
    | (refine wp_newW dev0 _ zero_dev rfl rfl ?_; intro w4 hP hb _; have N4 := Lib.hid hP; have M4 := Lib.hid hb; have C4 := Lib.hid (codL_keep C3.out hb); have R4 := Lib.hid (R3.out.keep hb); have B4 := Lib.hid (B3.out.trans (hb.mono B3.out.size)); clear hP hb C3 R3)
    | (refine wp_storeV V3.out N4.out rfl rfl rfl rfl rfl ?_; intro w5 hP hS; have X5 : Hid (VarAt w3.heap.size [xc] v1 (qDev (blanks 3) 0) w5) := Lib.hid (var_new V3.out M4.out hP hS (fun y h => by (obtain rfl : y = xc := by simpa using h); exact ⟨K3.out.2.1, off_lo L3.out K3.out.1⟩)); have C5 := Lib.hid (codL_stored C4.out hS K3.out.2.1); have R5 := Lib.hid (hS.row R4.out (fun e => by have := K3.out.2.2; omega)); have B5 := Lib.hid (hS.below B4.out B3.out.size); clear hP hS N4 M4 V3 C4 R4 L3)
    | (refine wp_loadV v1 X5.out.row X5.out.len rfl rfl rfl ?_)
    | (refine wp_loadFlt f R5.out rfl rfl rfl ?_)
    | (go_at_call 25; refine (inject_b _ _ ⟨blanks 3, 0, [], false, [f]⟩ f 0 HI.out.1 HI.out.2 _ X5.out.dev FQ.out).mono ?_; rintro e w6 ⟨v6, rfl, hV, hl2, hb⟩; have V6 := Lib.hid hV; have L6 := Lib.hid (hl2 _ (Nat.le_refl _)); have X6 := Lib.hid (X5.out.keep hb); have C6 := Lib.hid (codL_keep C5.out hb); have R6 := Lib.hid (R5.out.keep hb); have B6 := Lib.hid (B5.out.trans (hb.mono B5.out.size)); have K6 : Hid (xc < w5.heap.size ∧ w3.heap.size < w5.heap.size ∧ w5.heap.size ≤ w6.heap.size ∧ xf < w6.heap.size) := Lib.hid ⟨codL_lt C5.out, X5.out.row.lt, hb.size, R6.out.lt⟩; clear hV hl2 hb X5 C5 R5)
    | (refine wp_newW dev0 _ zero_dev rfl rfl ?_; intro w7 hP hb _; have N7 := Lib.hid hP; have M7 := Lib.hid hb; have X7 := Lib.hid ((varAt_more X6.out (Nat.le_refl _)).keep hb); have C7 := Lib.hid (codL_keep C6.out hb); have R7 := Lib.hid (R6.out.keep hb); have B7 := Lib.hid (B6.out.trans (hb.mono B6.out.size)); clear hP hb C6 R6 X6)
    | (refine wp_storeV V6.out N7.out rfl rfl rfl rfl rfl ?_; intro w8 hP hS; have Z8 : Hid (VarAt w6.heap.size [xc, w3.heap.size] v6 ⟨blanks 3, 0, [], false, [f]⟩ w8) := Lib.hid (var_new V6.out M7.out hP hS (fun y h => by have hk := K6.out; rcases (show y = xc ∨ y = w3.heap.size by simpa using h) with rfl | rfl; exact ⟨by omega, off_lo L6.out hk.1⟩; exact ⟨by omega, off_lo L6.out hk.2.1⟩)); have X8 := Lib.hid (X7.out.stored hS (by simp)); have C8 := Lib.hid (codL_stored C7.out hS (by have := K6.out; omega)); have R8 := Lib.hid (hS.row R7.out (fun e => by have := K6.out.2.2.2; omega)); have B8 := Lib.hid (hS.below B7.out B6.out.size); clear hP hS N7 M7 V6 C7 R7 X7 L6)
    | (refine wp_newW _ _ zero_tri rfl rfl ?_; intro w9 hP hb _; have T9 := Lib.hid hP; have X9 := Lib.hid ((varAt_more X8.out (Nat.le_refl _)).keep hb); have Z9 := Lib.hid ((varAt_more Z8.out (Nat.le_refl _)).keep hb); have C9 := Lib.hid (codL_keep C8.out hb); have R9 := Lib.hid (R8.out.keep hb); have B9 := Lib.hid (B8.out.trans (hb.mono B8.out.size)); have K9 : Hid ((xc < w3.heap.size ∧ xf < w3.heap.size ∧ w3.heap.size < w6.heap.size ∧ w6.heap.size < w8.heap.size) ∧ w.heap.size ≤ w3.heap.size ∧ w.heap.size ≤ w6.heap.size ∧ w.heap.size ≤ w8.heap.size) := Lib.hid ⟨⟨K3.out.2.1, K3.out.2.2, by have := K6.out; omega, Z8.out.row.lt⟩, B3.out.size, B6.out.size, B8.out.size⟩; clear hP hb C8 R8 X8 Z8)
    | (refine wp_storeTri T9.out rfl rfl rfl rfl ?_; intro wa hP hS; have TA := Lib.hid hP; have XA := Lib.hid (X9.out.stored hS (by simp)); have ZA := Lib.hid (Z9.out.stored hS (by simp)); have CA := Lib.hid (codL_stored C9.out hS (by have := K9.out; omega)); have RA := Lib.hid (hS.row R9.out (fun e => by have := K9.out; omega)); have BA := Lib.hid (hS.below B9.out K9.out.2.2.2); clear hP hS T9 X9 Z9 C9 R9))
  have KK := K9
  clear K3 K6 B3 B4 B5 B6 B7 B8 B9 K9
  generalize w8.heap.size = xt at *
  generalize w6.heap.size = xb at *
  generalize w3.heap.size = xa at *
  go_loopw [11, 13, 15, 16, 17, 18, 19, 20, 21, 22] (fun _ _ s15 _ _ _ _ _ _ _ wr => ∃ (j m : Nat) (pa : List ByteArray) (D : Dev) (T : List Bool) (va vb : List Value), j ≤ 6 ∧ s15 = .int .i64 ((j : Int) + 1) ∧ Hid (TwinD j k f pa D T) ∧ Hid (VarAt xa [xt, xb, xc] va (qDev pa j) wr) ∧ Hid (VarAt xb [xt, xc, xa] vb D wr) ∧ Hid (RowAt xf f.vals wr) ∧ Hid (RowAt xt (boolL T) wr) ∧ Hid (CodL xc m wr) ∧ Hid (Below w.heap.size w wr)) (fun _ _ s15 _ _ _ _ _ _ _ _ => 7 - (intOf s15).toNat)
  case atStart => exact ⟨0, m1, _, _, _, _, _, by omega, rfl, Lib.hid (twin_start HF.out), XA, ZA, RA, TA, CA, BA⟩
  case round =>
    clear XA ZA RA TA CA BA
    obtain ⟨j, m, pa, D, T, va, vb, hj, rfl, TW, X, Z, R, TT, C, B⟩ := hrel
    by_cases hj6 : j < 6
    · have q0 : (0 : Int) ≤ (j : Int) := by omega
      have q1 : (j : Int) < 6 := by omega
      go_upto_if 110 with (first
        | (go_at_call 17; refine (nextL_any xc m 3 _ C.out (by decide)).mono ?_; rintro e y2 ⟨r, rfl, hr0, hr1, _, ⟨m2, hm2, hm3, hC⟩, hg⟩; have R2 := Lib.hid (R.out.grown hg (fun e => by injection e with e; have := HXF.out; omega)); have TT2 := Lib.hid (TT.out.grown hg (fun e => by injection e with e; have := KK.out; omega)); have X2 := Lib.hid (X.out.grown hg (fun k e => by injection e with e; subst e; simp)); have Z2 := Lib.hid (Z.out.grown hg (fun k e => by injection e with e; subst e; simp)); have C2 := Lib.hid hC; have B2 := Lib.hid (below_grown B.out hg hwc.out); have hr3 := hr1 (by decide); obtain ⟨p, rfl⟩ := Int.eq_ofNat_of_zero_le hr0; have HP3 : Hid (p < 3) := Lib.hid (by omega); clear hr1 hm3 hm2 hC hg X Z R TT C B)
        | (go_at_call 18; refine (bytes_any xc _ _ C2.out).mono ?_; rintro e y3 ⟨x, rfl, hx, ⟨m4, hm4, hC⟩, hg⟩; have R3 := Lib.hid (R2.out.grown hg (fun e => by injection e with e; have := HXF.out; omega)); have TT3 := Lib.hid (TT2.out.grown hg (fun e => by injection e with e; have := KK.out; omega)); have X3 := Lib.hid (X2.out.grown hg (fun k e => by injection e with e; subst e; simp)); have Z3 := Lib.hid (Z2.out.grown hg (fun k e => by injection e with e; subst e; simp)); have C3 := Lib.hid hC; have B3 := Lib.hid (below_grown B2.out hg hwc.out); have HX := Lib.hid hx; clear hC hg hx hm4 R2 TT2 X2 Z2 C2 B2)
        | (refine wp_loadV _ X3.out.row X3.out.len rfl rfl rfl ?_)
        | (go_at_call 20; refine (write_b _ _ (qDev (pa.set p x) ((j : Int) + 1)) (p : Int) x (writeE_of (q_valid TW.out.ga (by decide) (by omega)) rfl (by have := TW.out.ga.1; have := HP3.out; show (0 : Int) ≤ p ∧ (p : Int) < (pa.length : Int); omega) HX.out (by show (j : Int) < _; omega)) (q_write HX.out) _ X3.out.dev (fits_pages (m := 3) TW.out.ga)).mono ?_; rintro e y4 ⟨v4, rfl, hV, hl4, hb⟩; go_loud (have V4 := Lib.hid hV); have L4 := Lib.hid (hl4 _ (Nat.le_refl _)); have R4 := Lib.hid (R3.out.keep hb); have TT4 := Lib.hid (TT3.out.keep hb); have X4 := Lib.hid (X3.out.keep hb); have Z4 := Lib.hid (Z3.out.keep hb); have C4 := Lib.hid (codL_keep C3.out hb); have B4 := Lib.hid (B3.out.trans (hb.mono B3.out.size)); have T4 : Hid (xa < y3.heap.size ∧ xb < y3.heap.size ∧ xt < y3.heap.size ∧ xc < y3.heap.size) := Lib.hid ⟨X3.out.row.lt, Z3.out.row.lt, TT3.out.lt, codL_lt C3.out⟩; clear hV hl4 hb R3 TT3 X3 Z3 C3 B3)
        | (refine wp_storeV V4.out X4.out.row X4.out.len rfl rfl rfl rfl ?_; intro y5 hP hS; have X5 := Lib.hid (var_set X4.out V4.out L4.out T4.out.1 (fun y hy => by have := T4.out; simp at hy; omega) hP hS); have Z5 := Lib.hid (Z4.out.stored hS (by simp)); have R5 := Lib.hid (hS.row R4.out (fun e => by have := KK.out; omega)); have TT5 := Lib.hid (hS.row TT4.out (fun e => by have := KK.out; omega)); have C5 := Lib.hid (codL_stored C4.out hS KK.out.1.1); have B5 := Lib.hid (hS.below B4.out KK.out.2.1); clear hP hS V4 L4 R4 TT4 X4 Z4 C4 B4 T4)
        | (refine wp_loadV _ Z5.out.row Z5.out.len rfl rfl rfl ?_)
        | (go_at_call 20; refine (write_b _ _ (writeD D (p : Int) x) (p : Int) x (TW.out.writeE HF.out hj HP3.out HX.out) rfl _ Z5.out.dev (fits_pages (m := 3) TW.out.gb)).mono ?_; rintro e y6 ⟨v6, rfl, hV, hl4, hb⟩; have V6 := Lib.hid hV; have L6 := Lib.hid (hl4 _ (Nat.le_refl _)); have R6 := Lib.hid (R5.out.keep hb); have TT6 := Lib.hid (TT5.out.keep hb); have X6 := Lib.hid (X5.out.keep hb); have Z6 := Lib.hid (Z5.out.keep hb); have C6 := Lib.hid (codL_keep C5.out hb); have B6 := Lib.hid (B5.out.trans (hb.mono B5.out.size)); have T6 : Hid (xa < y5.heap.size ∧ xb < y5.heap.size ∧ xt < y5.heap.size ∧ xc < y5.heap.size) := Lib.hid ⟨X5.out.row.lt, Z5.out.row.lt, TT5.out.lt, codL_lt C5.out⟩; clear hV hl4 hb R5 TT5 X5 Z5 C5 B5)
        | (refine wp_storeV V6.out Z6.out.row Z6.out.len rfl rfl rfl rfl ?_; intro y7 hP hS; have Z7 := Lib.hid (var_set Z6.out V6.out L6.out T6.out.2.1 (fun y hy => by have := T6.out; simp at hy; omega) hP hS); have X7 := Lib.hid (X6.out.stored hS (by simp)); have R7 := Lib.hid (hS.row R6.out (fun e => by have := KK.out; omega)); have TT7 := Lib.hid (hS.row TT6.out (fun e => by have := KK.out; omega)); have C7 := Lib.hid (codL_stored C6.out hS (by have := KK.out; omega)); have B7 := Lib.hid (hS.below B6.out KK.out.2.2.1); clear hP hS V6 L6 R6 TT6 X6 Z6 C6 B6 T6))
      go_cut [15] from 108 to 123 (fun s15 wx => s15 = .int .i64 ((j : Int) + 1) ∧ ∃ T', TwinD (j + 1) k f (pa.set p x) (writeD D (p : Int) x) T' ∧ RowAt xt (boolL T') wx ∧ VarAt xa [xt, xb, xc] v4 (qDev (pa.set p x) ((j : Int) + 1)) wx ∧ VarAt xb [xt, xc, xa] v6 (writeD D (p : Int) x) wx ∧ RowAt xf f.vals wx ∧ CodL xc m4 wx ∧ Below w.heap.size w wx)
      case first =>
        have hpp : p < T.length := by rw [TW.out.len]; exact HP3.out
        rcases Nat.lt_trichotomy (j + 1) k with h | h | h
        · have TN := Lib.hid (twin_before TW.out HF.out HP3.out HX.out h)
          have q2 : (((j : Int) + 1) == (k : Int)) = false := by simp; omega
          have q3 : ¬ ((j : Int) + 1) > (k : Int) := by omega
          go_wp2_with fail
          go_meet
          exact ⟨rfl, T, TN.out, TT7.out, X7.out, Z7.out, R7.out, C7.out, B7.out⟩
        · have TN := Lib.hid (twin_now TW.out HF.out HP3.out HX.out h)
          have q2 : (((j : Int) + 1) == (k : Int)) = true := by simp; omega
          have q3 : (p : Int) < 3 := by have := HP3.out; omega
          have q4 : (0 : Int) ≤ (p : Int) := by omega
          have hfp := HF.out.page
          have hft := HF.out.target
          obtain ⟨g, hg⟩ := Int.eq_ofNat_of_zero_le hfp.1
          obtain ⟨t, ht⟩ := Int.eq_ofNat_of_zero_le hft.1
          have c2 : y7.cell? ⟨xf, 2, none⟩ = some (.int .i64 (g : Int)) := by rw [← hg]; exact R7.out.cells 2 _ rfl
          have c3 : y7.cell? ⟨xf, 3, none⟩ = some (.int .i64 (t : Int)) := by rw [← ht]; exact R7.out.cells 3 _ rfl
          have q5 : (g : Int) < 3 := by omega
          have q6 : (t : Int) < 3 := by omega
          have q7 : (0 : Int) ≤ (g : Int) := by omega
          have q8 : (0 : Int) ≤ (t : Int) := by omega
          have hT3 := TW.out.len
          have GT := Lib.hid (And.intro (show f.page.toNat = g by omega) (show f.target.toNat = t by omega))
          have TX := Lib.hid (TT7.out.there 0 3 (by rw [boolL_length, hT3]; exact Nat.le_refl _))
          have hne : xf ≠ xt := by have := KK.out; omega
          obtain ⟨hgp, htp⟩ := GT.out
          have hcell : ∀ (W : World) (bs : List Bool) (i : Nat), RowAt xt (boolL bs) W → bs.length = 3 → i < 3 → (∃ v, W.cell? ⟨xt, i, none⟩ = some v) ∧ W.frozen? ⟨xt, i, none⟩ = false := fun W bs i hr hb hi =>
            ⟨⟨(boolL bs)[i]'(by rw [boolL_length, hb]; exact hi), hr.cells i _ (List.getElem?_eq_getElem (by rw [boolL_length, hb]; exact hi))⟩, hr.free i⟩
          have S1 := TT7.out.setAt p (by rw [boolL_length]; exact hpp) (.bool true)
          rw [boolL_set] at S1
          have S2 := S1.1.setAt t (by rw [boolL_length, List.length_set, hT3]; omega) (.bool true)
          rw [boolL_set] at S2
          have S3 := S2.1.setAt g (by rw [boolL_length, List.length_set, List.length_set, hT3]; omega) (.bool true)
          rw [boolL_set] at S3
          obtain ⟨⟨vp, d1⟩, d2⟩ := hcell _ _ p TT7.out hT3 (by omega)
          obtain ⟨⟨vt, d3⟩, d4⟩ := hcell _ _ t S1.1 (by rw [List.length_set]; exact hT3) (by omega)
          obtain ⟨⟨vg, d5⟩, d6⟩ := hcell _ _ g S2.1 (by rw [List.length_set, List.length_set]; exact hT3) (by omega)
          have F1 := S1.2.row R7.out (Ne.symm hne)
          have F2 := S2.2.row F1 (Ne.symm hne)
          have e1 := F1.cells 2 _ rfl
          have e2 := F1.cells 3 _ rfl
          have e3 := F2.cells 2 _ rfl
          rw [show f.page = (g : Int) by omega] at e1 e3
          rw [show f.target = (t : Int) by omega] at e2
          have FIN : Hid (RowAt xt (boolL (((T.set p true).set f.target.toNat true).set f.page.toNat true)) _ ∧ _ ∧ _ ∧ _ ∧ _ ∧ _) := Lib.hid (by
            rw [hgp, htp]
            exact ⟨S3.1.drew, (((X7.out.stored S1.2 (by simp)).stored S2.2 (by simp)).stored S3.2 (by simp)).keep (Below.refl _ _).drew, (((Z7.out.stored S1.2 (by simp)).stored S2.2 (by simp)).stored S3.2 (by simp)).keep (Below.refl _ _).drew, (S3.2.row F2 (Ne.symm hne)).drew,
              codL_keep (codL_stored (codL_stored (codL_stored C7.out S1.2 (by have := KK.out; omega)) S2.2 (by have := KK.out; omega)) S3.2 (by have := KK.out; omega)) (Below.refl _ _).drew, (S3.2.below (S2.2.below (S1.2.below B7.out KK.out.2.2.2) KK.out.2.2.2) KK.out.2.2.2).drew⟩)
          clear hcell S1 S2 S3 F1 F2 X7 Z7 R7 TT7 C7 B7 hgp htp GT TX
          go_wp2_with fail
          apply wp_one
          · go_region
            all_goals exact ⟨rfl, rfl⟩
          · go_wp2_with fail
            go_meet
            exact ⟨rfl, _, TN.out, FIN.out⟩
        · have TN := Lib.hid (twin_behind TW.out HP3.out HX.out h)
          have q2 : (((j : Int) + 1) == (k : Int)) = false := by simp; omega
          have q3 : ((j : Int) + 1) > (k : Int) := by omega
          have q4 : (0 : Int) ≤ (p : Int) := by omega
          have q5 : (p : Int) < 3 := by have := HP3.out; omega
          go_wp2_with (refine wp_storeFieldW (i := p) 4 (.bool false) rfl rfl info_bool1 TT7.out (by rw [boolL_length]; exact hpp) rfl rfl rfl rfl ?_; intro y8 hP hS; have TT8 := Lib.hid hP; have X8 := Lib.hid (X7.out.stored hS (by simp)); have Z8 := Lib.hid (Z7.out.stored hS (by simp)); have R8 := Lib.hid (hS.row R7.out (fun e => by have := KK.out; omega)); have C8 := Lib.hid (codL_stored C7.out hS (by have := KK.out; omega)); have B8 := Lib.hid (hS.below B7.out KK.out.2.2.2); clear hP hS)
          go_meet
          exact ⟨rfl, T.set p false, TN.out, by rw [← boolL_set]; exact TT8.out, X8.out, Z8.out, R8.out, C8.out, B8.out⟩
      case rest =>
      obtain ⟨rfl, T', hTW, hTT, hX, hZ, hR, hC, hB⟩ := hcut
      have TW2 := Lib.hid hTW
      have X8 := Lib.hid hX
      have Z8 := Lib.hid hZ
      have R8 := Lib.hid hR
      have TT8 := Lib.hid hTT
      have C8 := Lib.hid hC
      have B8 := Lib.hid hB
      clear hTW hTT hX hZ hR hC hB X7 Z7 R7 TT7 C7 B7
      go_wp2_with fail
      go_loopw [18, 19, 20, 21, 22] (fun s18 _ _ _ _ wz => ∃ (z : Nat), z ≤ 3 ∧ s18 = .int .i64 (z : Int) ∧ Hid (VarAt xa [xt, xb, xc] v4 (qDev (pa.set p x) ((j : Int) + 1)) wz) ∧ Hid (VarAt xb [xt, xc, xa] v6 (writeD D (p : Int) x) wz) ∧ Hid (RowAt xf f.vals wz) ∧ Hid (RowAt xt (boolL T') wz) ∧ Hid (CodL xc m4 wz) ∧ Hid (Below w.heap.size w wz)) (fun s18 _ _ _ _ _ => 3 - (intOf s18).toNat)
      case atStart => exact ⟨0, by omega, rfl, X8, Z8, R8, TT8, C8, B8⟩
      case round =>
        clear X8 Z8 R8 TT8 C8 B8
        obtain ⟨z, hz, rfl, XZ, ZZ, RZ, TZ, CZ, BZ⟩ := hrel
        by_cases hz3 : z < 3
        · have z0 : (0 : Int) ≤ (z : Int) := by omega
          have z1 : (z : Int) < 3 := by omega
          obtain ⟨y, hy⟩ : ∃ y, (pa.set p x)[z]? = some y := ⟨_, List.getElem?_eq_getElem (by rw [TW2.out.ga.1]; exact hz3)⟩
          have hrd := q_read TW2.out.ga (n := (j : Int) + 1) (by decide) (by omega) hy
          obtain ⟨bz, hbz⟩ : ∃ bz, T'[z]? = some bz := ⟨_, List.getElem?_eq_getElem (by rw [TW2.out.len]; exact hz3)⟩
          have hcz : (boolL T')[z]? = some (.bool bz) := by
            unfold boolL
            rw [List.getElem?_map, hbz]
            rfl
          obtain ⟨ne, hne⟩ : ∃ ne, readE (writeD D (p : Int) x) (z : Int) = ne := ⟨_, rfl⟩
          obtain ⟨t, ht⟩ : ∃ t, readS (writeD D (p : Int) x) (z : Int) = t := ⟨_, rfl⟩
          have FA := Lib.hid (fits_pages (d := qDev (pa.set p x) ((j : Int) + 1)) (m := 3) TW2.out.ga)
          have FB := Lib.hid (fits_pages (d := writeD D (p : Int) x) (m := 3) TW2.out.gb)
          have HR := Lib.hid hrd
          have HNE := Lib.hid hne
          have HT := Lib.hid ht
          have HCZ := Lib.hid hcz
          have SM : Hid (bz = false → ne = 0 ∧ t = y) := Lib.hid fun e => by
            subst e
            have := TW2.out.read HF.out (by omega) hbz hy
            exact ⟨hne ▸ this.1, ht ▸ this.2⟩
          clear hrd hne ht hcz hbz hy
          go_upto_region 37 with (first
            | (refine wp_loadV _ XZ.out.row XZ.out.len rfl rfl rfl ?_)
            | (go_at_call 31; refine (read_e _ _ (z : Int) _ XZ.out.dev FA.out HR.out.1 HR.out.2).mono ?_; rintro e z1 ⟨rfl, hb⟩; have X1 := Lib.hid (XZ.out.keep hb); have Z1 := Lib.hid (ZZ.out.keep hb); have R1 := Lib.hid (RZ.out.keep hb); have TT1 := Lib.hid (TZ.out.keep hb); have C1 := Lib.hid (codL_keep CZ.out hb); have B1 := Lib.hid (BZ.out.trans (hb.mono BZ.out.size)); clear hb XZ ZZ RZ TZ CZ BZ)
            | (refine wp_loadV _ Z1.out.row Z1.out.len rfl rfl rfl ?_)
            | (go_at_call 31; refine (read_e _ _ (z : Int) _ Z1.out.dev FB.out HNE.out HT.out).mono ?_; rintro e z2 ⟨rfl, hb⟩; have X2 := Lib.hid (X1.out.keep hb); have Z2 := Lib.hid (Z1.out.keep hb); have R2 := Lib.hid (R1.out.keep hb); have TT2 := Lib.hid (TT1.out.keep hb); have C2 := Lib.hid (codL_keep C1.out hb); have B2 := Lib.hid (B1.out.trans (hb.mono B1.out.size)); have hcell := TT2.out.cells z _ HCZ.out; clear hb X1 Z1 R1 TT1 C1 B1))
          cases bz
          · obtain ⟨rfl, rfl⟩ := SM.out rfl
            go_wp2_with fail
            go_roundw
            case measure => simp [intOf]; omega
            case rel => exact ⟨z + 1, by omega, by go_num, X2, Z2, R2, TT2, C2, B2⟩
          · go_wp2_with fail
            go_roundw
            case measure => simp [intOf]; omega
            case rel => exact ⟨z + 1, by omega, by go_num, X2, Z2, R2, TT2, C2, B2⟩
        · have hz4 : ¬ (z : Int) < 3 := by omega
          go_wp2_with fail
          go_roundw
          case measure => simp [intOf]; omega
          case rel => exact ⟨j + 1, m4, pa.set p x, writeD D (p : Int) x, T', v4, v6, by omega, by go_num, TW2, Lib.hid (by have := XZ.out; rwa [show (((j + 1 : Nat) : Int)) = (j : Int) + 1 by omega]), ZZ, RZ, TZ, CZ, BZ⟩
    · have hj7 : ¬ ((j : Int) + 1 ≤ 6) := by omega
      have hfs : D.faults = [] := by rw [TW.out.faults, if_neg (by have := HN.out; omega)]
      obtain ⟨sf, cf, hx4⟩ : ∃ sf cf, wr.cell? ⟨xb, 4, none⟩ = some (.slice sf 0 cf) := by
        obtain ⟨sp, cp, su, cu, sf, cf, e, _⟩ := Z.out.dev.form
        rw [hfs] at e
        exact ⟨sf, cf, Z.out.row.cells 4 _ (by rw [e]; rfl)⟩
      go_wp2_with fail
      go_ret
      exact ⟨rfl, B.out⟩
end Go.Proofs.Ytikpchhhenonaaa.md
