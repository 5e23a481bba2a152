/- The draws Int and Fault. -/
import Derived.Test.YtikpchhhenonaaaNc
import Derived.Deep.CutBlock
namespace Go.Proofs.Ytikpchhhenonaaa.nj
open Go.ChangeShapes Go.WideShapes Go.ChangeAt Go.RowKit Go.Proofs.Ytikpchhhenonaaa.cx Go.Proofs.Ytikpchhhenonaaa.ra Go.Proofs.Ytikpchhhenonaaa.la Go.Proofs.Ytikpchhhenonaaa.lb Go.Proofs.Ytikpchhhenonaaa.lc Go.Proofs.Ytikpchhhenonaaa.ld Go.Proofs.Ytikpchhhenonaaa.le Go.Proofs.Ytikpchhhenonaaa.lf Go.Proofs.Ytikpchhhenonaaa.lg Go.Proofs.Ytikpchhhenonaaa.lh Go.Proofs.Ytikpchhhenonaaa.li Go.Proofs.Ytikpchhhenonaaa.lj Go.Proofs.Ytikpchhhenonaaa.lk Go.Proofs.Ytikpchhhenonaaa.ll Go.Proofs.Ytikpchhhenonaaa.lm Go.Proofs.Ytikpchhhenonaaa.ln Go.Proofs.Ytikpchhhenonaaa.lo Go.Proofs.Ytikpchhhenonaaa.lp Go.Proofs.Ytikpchhhenonaaa.lq Go.Proofs.Ytikpchhhenonaaa.lr Go.Proofs.Ytikpchhhenonaaa.ls Go.Proofs.Ytikpchhhenonaaa.lt Go.Proofs.Ytikpchhhenonaaa.lu Go.Proofs.Ytikpchhhenonaaa.lv Go.Proofs.Ytikpchhhenonaaa.lw Go.Proofs.Ytikpchhhenonaaa.lx Go.Proofs.Ytikpchhhenonaaa.ly Go.Proofs.Ytikpchhhenonaaa.na Go.Proofs.Ytikpchhhenonaaa.nc
set_option linter.unusedSimpArgs false
/-- What a draw of a number gives. -/
def IntL (p m : Nat) (w : World) (e : Ending) (w' : World) : Prop := ∃ r : Int, e = .returned (.int .i64 r) ∧ (∃ m', m' ≤ m ∧ CodL p m' w') ∧ w.grownBy w' (some p)
def odds : List Int := [9223372036854775807, -9223372036854775808, 1099511627776, 1099511627777, 1073741824, 1073741825, 64, 63, 16, 15, 256, 255, 4294967296, 65536, 256, 255]
section
variable {ops : Array Oper} {rest : List Oper} {o : Oper} {a : Act} {w : World} {Q : Exit → Act → World → Prop} {x : Operand}
set_option maxRecDepth 100000 in
theorem build_odds (W : World) : (Instr.buildSlice 24 16 #[(0, .int .i64 9223372036854775807), (1, .int .i64 (-9223372036854775808)), (2, .int .i64 1099511627776), (3, .int .i64 1099511627777), (4, .int .i64 1073741824), (5, .int .i64 1073741825), (6, .int .i64 64), (7, .int .i64 63), (8, .int .i64 16), (9, .int .i64 15), (10, .int .i64 256), (11, .int .i64 255), (12, .int .i64 4294967296), (13, .int .i64 65536), (14, .int .i64 256), (15, .int .i64 255)]).run Try.prog W = .ok (.slice (some ⟨W.heap.size, 0, none⟩) 16 16) (W.alloc (.cells (intL odds).toArray 3)) := by kernel_rfl
set_option maxRecDepth 100000 in
theorem wp_build16 (ho : o.op = .buildSlice 24 16 #[(0, .const (.int .i64 9223372036854775807)), (1, .const (.int .i64 (-9223372036854775808))), (2, .const (.int .i64 1099511627776)), (3, .const (.int .i64 1099511627777)), (4, .const (.int .i64 1073741824)), (5, .const (.int .i64 1073741825)), (6, .const (.int .i64 64)), (7, .const (.int .i64 63)), (8, .const (.int .i64 16)), (9, .const (.int .i64 15)), (10, .const (.int .i64 256)), (11, .const (.int .i64 255)), (12, .const (.int .i64 4294967296)), (13, .const (.int .i64 65536)), (14, .const (.int .i64 256)), (15, .const (.int .i64 255))])
    (hgd : Region.wanted o (yielded ops a.tmps) = true) (h : ∀ W, RowAt w.heap.size (intL odds) W → Below w.heap.size w W → w.heap.size < W.heap.size → wpList Try.prog ops Q rest (a.put o.dst (.slice (some ⟨w.heap.size, 0, none⟩) 16 16)) W) : wpList Try.prog ops Q (o :: rest) a w :=
  wpList_step fun _ hK => by
    rw [if_pos hgd]
    have hn := h _ (RowAt.new (intL odds) w 3) ((Below.refl _ _).alloc (Nat.le_refl _) _) (by simp)
    have hb := build_odds w
    unfold Oper.wp execOp
    simp only [ho]
    simp only [List.map_toArray, List.map_cons, List.map_nil, show ∀ v, a.eval (.const v) = v from fun _ => rfl, hb, Sem.run_bind, Result.andThen_ok, Sem.run_pure]
    exact hK _ _ hn
theorem codL_alloc {p m : Nat} (h : CodL p m w) (o : Obj) : CodL p m (w.alloc o) := codL_keep h ((Below.refl _ _).alloc (Nat.le_refl _) _)
end
theorem grown_new {w W W' : World} {row : Option Nat} {b : Nat} (hs : StoredAt b W W') (h : w.grownBy W row) (hb : w.heap.size ≤ b) : w.grownBy W' row := by
  have hB := hs.below (Below.refl 0 W) (Nat.zero_le b)
  exact ⟨hB.os.trans h.os, hB.tape.trans h.tape, hB.output.trans h.output, Nat.le_trans h.size hB.size, fun k hk hne => (hs.heap k (fun e => by omega)).trans (h.block k hk hne)⟩
set_option maxHeartbeats 4000000 in
set_option maxRecDepth 4000 in
theorem int_any (p m : Nat) (w : World) (h : CodL p m w) : Calls Try.prog 38 #[.pointer (some ⟨p, 0, none⟩)] w (IntL p m w) := by
  have C := Lib.hid h
  have G := Lib.hid (grownBy_refl w (some p))
  clear h
  go_enter Try.func38, Try.ntmps38
  go_upto_block 0 with (go_at_call 17; refine (nextL_any p _ 10 _ C.out (by decide)).mono ?_; rintro e wn1 ⟨r1, rfl, hq0, hq1, hq2, ⟨m1, hm2, hm3, hC⟩, hg⟩; have CN1 := Lib.hid hC; have GN1 := Lib.hid (grownBy_trans G.out hg); have ML1 := Lib.hid hm2; have hs1 := hq0; have ht1 := hq1; clear hq0 hq1 hq2 hm2 hm3 hC hg C  G)
  have hs2 := ht1 (by decide)
  clear ht1
  by_cases k0 : r1 = 0
  · subst k0
    go_wp2_with (go_at_call 17; refine (nextL_any p _ 3 _ CN1.out (by decide)).mono ?_; rintro e wn2 ⟨r2, rfl, hq0, hq1, hq2, ⟨m2, hm2, hm3, hC⟩, hg⟩; have CN2 := Lib.hid hC; have GN2 := Lib.hid (grownBy_trans GN1.out hg); have ML2 := Lib.hid hm2; have hs2 := hq0; have ht2 := hq1; clear hq0 hq1 hq2 hm2 hm3 hC hg CN1  GN1)
    go_ret
    exact ⟨_, rfl, ⟨_, Nat.le_trans ML2.out ML1.out, CN2.out⟩, GN2.out⟩
  by_cases k1 : r1 = 1
  · subst k1
    go_wp2_with (first
      | (refine wp_build16 rfl rfl ?_; intro wb hP hb hzb; have RB := Lib.hid hP; have CB := Lib.hid (codL_keep CN1.out hb); have GB := Lib.hid (grownBy_below GN1.out hb); have HPF : Hid (p < wn1.heap.size) := Lib.hid (codL_lt CN1.out); clear hP hb CN1 GN1)
      | (go_at_call 17; refine (nextL_any p _ 16 _ CB.out (by decide)).mono ?_; rintro e wn2 ⟨r2, rfl, hq0, hq1, hq2, ⟨m2, hm2, hm3, hC⟩, hg⟩; have RN2 := Lib.hid (RB.out.grown hg (fun e => by injection e with e; have := HPF.out; omega)); have CN2 := Lib.hid hC; have GN2 := Lib.hid (grownBy_trans GB.out hg); have ML2 := Lib.hid hm2; have hr2 := hq1 (by decide); obtain ⟨i2, rfl⟩ := Int.eq_ofNat_of_zero_le hq0; obtain ⟨v, hv⟩ : ∃ v, odds[i2]? = some v := ⟨_, List.getElem?_eq_getElem (show i2 < odds.length by show i2 < 16; omega)⟩; have cv := RN2.out.cells i2 _ (intL_at hv); clear hq0 hq1 hq2 hm2 hm3 hC hg CB RB GB hv))
    go_ret
    exact ⟨_, rfl, ⟨_, Nat.le_trans ML2.out ML1.out, CN2.out⟩, GN2.out⟩
  have f0 : (r1 == 0) = false := by simpa using k0
  have f1 : (r1 == 1) = false := by simpa using k1
  go_wp2_with (go_at_call 17; refine (nextL_any p _ 20 _ CN1.out (by decide)).mono ?_; rintro e wn2 ⟨r2, rfl, hq0, hq1, hq2, ⟨m2, hm2, hm3, hC⟩, hg⟩; have CN2 := Lib.hid hC; have GN2 := Lib.hid (grownBy_trans GN1.out hg); have ML2 := Lib.hid hm2; have hs2 := hq0; have ht2 := hq1; clear hq0 hq1 hq2 hm2 hm3 hC hg CN1  GN1)
  go_ret
  exact ⟨_, rfl, ⟨_, Nat.le_trans ML2.out ML1.out, CN2.out⟩, GN2.out⟩
/-- The fault that is drawn, and the result's variable. -/
structure Two (fb rb : Nat) (f : Flt) (w : World) : Prop where
  f : RowAt fb f.vals w
  r : RowAt rb flt0.vals w
  ne : fb ≠ rb
theorem Two.grown {fb rb p : Nat} {f : Flt} {w w' : World} (h : Two fb rb f w) (hg : w.grownBy w' (some p)) (hp : p ≠ fb ∧ p ≠ rb) : Two fb rb f w' :=
  ⟨h.f.grown hg (fun e => hp.1 (Option.some.inj e)), h.r.grown hg (fun e => hp.2 (Option.some.inj e)), h.ne⟩
theorem Two.stored {fb rb : Nat} {f f' : Flt} {w w' : World} (h : Two fb rb f w) (hP : RowAt fb f'.vals w') (hS : StoredAt fb w w') : Two fb rb f' w' := ⟨hP, hS.row h.r h.ne, h.ne⟩
/-- What a draw of a fault gives: any fault. -/
def FaultL (p m : Nat) (w : World) (e : Ending) (w' : World) : Prop := ∃ f : Flt, e = .returned (.agg f.arr) ∧ (∃ m', m' ≤ m ∧ CodL p m' w') ∧ w.grownBy w' (some p)
set_option maxHeartbeats 8000000 in
set_option maxRecDepth 4000 in
theorem fault_any (p m : Nat) (pages writes : Int) (w : World) (h : CodL p m w) (hpb : pages ≤ 1000000) : Calls Try.prog 24 #[.pointer (some ⟨p, 0, none⟩), .int .i64 pages, .int .i64 writes] w (FaultL p m w) := by
  have C := Lib.hid h
  have hpl := codL_lt h
  have G := Lib.hid (grownBy_refl w (some p))
  have HPB := Lib.hid hpb
  have bf := build_flt2
  clear h
  go_enter Try.func24, Try.ntmps24
  go_upto_region 1 with (refine wp_newW flt0.vals _ zero_flt rfl rfl ?_; intro w1 hP hb1 hz1; have RR := Lib.hid hP; have C1 := Lib.hid (codL_keep C.out hb1); have G1 := Lib.hid (grownBy_below G.out hb1); clear hP hb1 C G)
  have HPW := Lib.hid (And.intro hpl hz1)
  have HPZ := Lib.hid hpl
  try simp only [Act.put, List.getElem_toArray, List.getElem_cons_zero, List.getElem_cons_succ, List.setIfInBounds_toArray, List.set_cons_zero, List.set_cons_succ]
  go_cut [7] from 8 to 16 (fun s7 wx => ∃ (fb : Nat) (f : Flt) (m' : Nat), s7 = .pointer (some ⟨fb, 0, none⟩) ∧ w.heap.size < fb ∧ m' ≤ m ∧ RowAt fb f.vals wx ∧ RowAt w.heap.size flt0.vals wx ∧ CodL p m' wx ∧ w.grownBy wx (some p))
  case first =>
    go_wp2_with (first
      | (go_at_call 17; refine (nextL_any p _ 6 _ C1.out (by decide)).mono ?_; rintro e wn1 ⟨r1, rfl, hq0, hq1, hq2, ⟨m1, hm2, hm3, hC⟩, hg⟩; have RN1 := Lib.hid (RR.out.grown hg (fun e => by injection e with e; have := HPW.out; omega)); have CN1 := Lib.hid hC; have GN1 := Lib.hid (grownBy_trans G1.out hg); have ML1 := Lib.hid hm2; have hs1 := hq0; have ht1 := hq1; clear hq0 hq1 hq2 hm2 hm3 hC hg C1 RR G1)
      | (go_at_call 17; refine (nextL_any p _ 6 _ CN1.out (by decide)).mono ?_; rintro e wn2 ⟨r2, rfl, hq0, hq1, hq2, ⟨m2, hm2, hm3, hC⟩, hg⟩; have RN2 := Lib.hid (RN1.out.grown hg (fun e => by injection e with e; have := HPW.out; omega)); have CN2 := Lib.hid hC; have GN2 := Lib.hid (grownBy_trans GN1.out hg); have ML2 := Lib.hid hm2; have hs2 := hq0; have ht2 := hq1; clear hq0 hq1 hq2 hm2 hm3 hC hg CN1 RN1 GN1)
      | (refine wp_newW flt0.vals _ zero_flt rfl rfl ?_; intro w3 hP hb hz3; have N3 := Lib.hid hP; have R3 := Lib.hid (RN2.out.keep hb); have C3 := Lib.hid (codL_keep CN2.out hb); have G3 := Lib.hid (grownBy_below GN2.out hb); have Z3 := Lib.hid (And.intro (RN2.out.lt) (codL_lt CN2.out)); clear hP hb RN2 CN2 GN2)
      | (refine wp_storeFltW ⟨_, _, 0, 0, 0, 0⟩ N3.out rfl rfl rfl rfl rfl ?_; intro w4 hP hS; have N4 := Lib.hid hP; have R4 := Lib.hid (hS.row R3.out (by have := Z3.out; omega)); have C4 := Lib.hid (codL_stored C3.out hS Z3.out.2); have G4 := Lib.hid (grown_new hS G3.out (by have := Z3.out; omega)); clear hP hS))
    go_meet
    exact ⟨_, _, _, rfl, by have := Z3.out; omega, Nat.le_trans ML2.out ML1.out, N4.out, R4.out, C4.out, G4.out⟩
  case rest =>
  obtain ⟨fb, f1, m1, rfl, hwf, hm1, hN, hR, hC, hG⟩ := hcut
  obtain ⟨kd, at', pg, tg, bt, mk⟩ := f1
  have T0 : Hid (Two fb w.heap.size ⟨kd, at', pg, tg, bt, mk⟩ wc) := Lib.hid ⟨hN, hR, by omega⟩
  have C0 := Lib.hid hC
  have G0 := Lib.hid hG
  have M0 := Lib.hid hm1
  have HPF : Hid (p ≠ fb ∧ p ≠ w.heap.size) := Lib.hid ⟨by omega, by omega⟩
  have HPF2 : Hid (p < fb) := Lib.hid (by omega)
  have HWF : Hid (w.heap.size ≤ fb) := Lib.hid (Nat.le_of_lt hwf)
  clear hwf hm1 hN hR hC hG RR C1 G1
  have c0 := T0.out.f.cells 0 _ rfl
  go_upto_block 0 with fail
  go_cut [7] from 17 to 49 (fun s7 wx => s7 = .pointer (some ⟨fb, 0, none⟩) ∧ ∃ (f : Flt) (m' : Nat), m' ≤ m ∧ Two fb w.heap.size f wx ∧ CodL p m' wx ∧ w.grownBy wx (some p))
  case first =>
    by_cases c2 : kd = 2
    · subst c2
      go_wp2_with (first
        | (go_at_call 17; refine (nextL_any p _ pages _ C0.out HPB.out).mono ?_; rintro e wn1 ⟨r1, rfl, hq0, hq1, hq2, ⟨m1, hm2, hm3, hC⟩, hg⟩; have RN1 := Lib.hid (T0.out.grown hg HPF.out); have CN1 := Lib.hid hC; have GN1 := Lib.hid (grownBy_trans G0.out hg); have ML1 := Lib.hid hm2; have hs1 := hq0; have ht1 := hq1; clear hq0 hq1 hq2 hm2 hm3 hC hg C0 T0 G0)
        | (refine wp_storeFieldW (i := 3) 3 (.int .i64 r1) rfl rfl info_int1 RN1.out.f (show 3 < 6 by decide) rfl rfl rfl rfl ?_; intro ws1 hP hS; have RS1 : Hid (Two fb w.heap.size ⟨2, at', pg, r1, bt, mk⟩ ws1) := Lib.hid (RN1.out.stored hP hS); have CS1 := Lib.hid (codL_stored CN1.out hS HPF2.out); have GS1 := Lib.hid (grown_new hS GN1.out HWF.out); clear hP hS RN1 CN1 GN1))
      go_meet
      exact ⟨rfl, _, _, Nat.le_trans ML1.out M0.out, RS1.out, CS1.out, GS1.out⟩
    by_cases c3 : kd = 3
    · subst c3
      go_wp2_with (first
        | (go_at_call 17; refine (nextL_any p _ 256 _ C0.out (by decide)).mono ?_; rintro e wn1 ⟨r1, rfl, hq0, hq1, hq2, ⟨m1, hm2, hm3, hC⟩, hg⟩; have RN1 := Lib.hid (T0.out.grown hg HPF.out); have CN1 := Lib.hid hC; have GN1 := Lib.hid (grownBy_trans G0.out hg); have ML1 := Lib.hid hm2; have hs1 := hq0; have ht1 := hq1; clear hq0 hq1 hq2 hm2 hm3 hC hg C0 T0 G0)
        | (refine wp_storeFieldW (i := 4) 3 (.int .i64 r1) rfl rfl info_int1 RN1.out.f (show 4 < 6 by decide) rfl rfl rfl rfl ?_; intro ws1 hP hS; have RS1 : Hid (Two fb w.heap.size ⟨3, at', pg, tg, r1, mk⟩ ws1) := Lib.hid (RN1.out.stored hP hS); have CS1 := Lib.hid (codL_stored CN1.out hS HPF2.out); have GS1 := Lib.hid (grown_new hS GN1.out HWF.out); clear hP hS RN1 CN1 GN1))
      go_meet
      exact ⟨rfl, _, _, Nat.le_trans ML1.out M0.out, RS1.out, CS1.out, GS1.out⟩
    by_cases c4 : kd = 4
    · subst c4
      go_wp2_with (first
        | (go_at_call 17; refine (nextL_any p _ pages _ C0.out HPB.out).mono ?_; rintro e wn1 ⟨r1, rfl, hq0, hq1, hq2, ⟨m1, hm2, hm3, hC⟩, hg⟩; have RN1 := Lib.hid (T0.out.grown hg HPF.out); have CN1 := Lib.hid hC; have GN1 := Lib.hid (grownBy_trans G0.out hg); have ML1 := Lib.hid hm2; have hs1 := hq0; have ht1 := hq1; clear hq0 hq1 hq2 hm2 hm3 hC hg C0 T0 G0)
        | (go_at_call 17; refine (nextL_any p _ 256 _ CN1.out (by decide)).mono ?_; rintro e wn2 ⟨r2, rfl, hq0, hq1, hq2, ⟨m2, hm2, hm3, hC⟩, hg⟩; have RN2 := Lib.hid (RN1.out.grown hg HPF.out); have CN2 := Lib.hid hC; have GN2 := Lib.hid (grownBy_trans GN1.out hg); have ML2 := Lib.hid hm2; have hs2 := hq0; have ht2 := hq1; clear hq0 hq1 hq2 hm2 hm3 hC hg CN1 RN1 GN1)
        | (go_at_call 17; refine (nextL_any p _ 255 _ CN2.out (by decide)).mono ?_; rintro e wn3 ⟨r3, rfl, hq0, hq1, hq2, ⟨m3, hm2, hm3, hC⟩, hg⟩; have RN3 := Lib.hid (RN2.out.grown hg HPF.out); have CN3 := Lib.hid hC; have GN3 := Lib.hid (grownBy_trans GN2.out hg); have ML3 := Lib.hid hm2; have hs3 := hq0; have ht3 := hq1 (by decide); clear hq0 hq1 hq2 hm2 hm3 hC hg CN2 RN2 GN2)
        | (refine wp_storeFieldW (i := 2) 3 (.int .i64 r1) rfl rfl info_int1 RN3.out.f (show 2 < 6 by decide) rfl rfl rfl rfl ?_; intro ws1 hP hS; have RS1 : Hid (Two fb w.heap.size ⟨4, at', r1, tg, bt, mk⟩ ws1) := Lib.hid (RN3.out.stored hP hS); have CS1 := Lib.hid (codL_stored CN3.out hS HPF2.out); have GS1 := Lib.hid (grown_new hS GN3.out HWF.out); clear hP hS RN3 CN3 GN3)
        | (refine wp_storeFieldW (i := 4) 3 (.int .i64 r2) rfl rfl info_int1 RS1.out.f (show 4 < 6 by decide) rfl rfl rfl rfl ?_; intro ws2 hP hS; have RS2 : Hid (Two fb w.heap.size ⟨4, at', r1, tg, r2, mk⟩ ws2) := Lib.hid (RS1.out.stored hP hS); have CS2 := Lib.hid (codL_stored CS1.out hS HPF2.out); have GS2 := Lib.hid (grown_new hS GS1.out HWF.out); clear hP hS RS1 CS1 GS1)
        | (refine wp_storeFieldW (i := 5) 5 (.int .u8 (1 + r3)) rfl rfl info_u81 RS2.out.f (show 5 < 6 by decide) rfl rfl rfl rfl ?_; intro ws3 hP hS; have RS3 : Hid (Two fb w.heap.size ⟨4, at', r1, tg, r2, 1 + r3⟩ ws3) := Lib.hid (RS2.out.stored hP hS); have CS3 := Lib.hid (codL_stored CS2.out hS HPF2.out); have GS3 := Lib.hid (grown_new hS GS2.out HWF.out); clear hP hS RS2 CS2 GS2))
      go_meet
      exact ⟨rfl, _, _, Nat.le_trans ML3.out (Nat.le_trans ML2.out (Nat.le_trans ML1.out M0.out)), RS3.out, CS3.out, GS3.out⟩
    by_cases c5 : kd = 5
    · subst c5
      go_wp2_with (first
        | (go_at_call 17; refine (nextL_any p _ pages _ C0.out HPB.out).mono ?_; rintro e wn1 ⟨r1, rfl, hq0, hq1, hq2, ⟨m1, hm2, hm3, hC⟩, hg⟩; have RN1 := Lib.hid (T0.out.grown hg HPF.out); have CN1 := Lib.hid hC; have GN1 := Lib.hid (grownBy_trans G0.out hg); have ML1 := Lib.hid hm2; have hs1 := hq0; have ht1 := hq1; clear hq0 hq1 hq2 hm2 hm3 hC hg C0 T0 G0)
        | (refine wp_storeFieldW (i := 2) 3 (.int .i64 r1) rfl rfl info_int1 RN1.out.f (show 2 < 6 by decide) rfl rfl rfl rfl ?_; intro ws1 hP hS; have RS1 : Hid (Two fb w.heap.size ⟨5, at', r1, tg, bt, mk⟩ ws1) := Lib.hid (RN1.out.stored hP hS); have CS1 := Lib.hid (codL_stored CN1.out hS HPF2.out); have GS1 := Lib.hid (grown_new hS GN1.out HWF.out); clear hP hS RN1 CN1 GN1))
      go_meet
      exact ⟨rfl, _, _, Nat.le_trans ML1.out M0.out, RS1.out, CS1.out, GS1.out⟩
    have f2 : (kd == 2) = false := by simpa using c2
    have f3 : (kd == 3) = false := by simpa using c3
    have f4 : (kd == 4) = false := by simpa using c4
    have f5 : (kd == 5) = false := by simpa using c5
    go_wp2_with fail
    go_meet
    exact ⟨rfl, _, _, M0.out, T0.out, C0.out, G0.out⟩
  case rest =>
  obtain ⟨rfl, f2, m2, hm2, hT, hC, hG⟩ := hcut
  obtain ⟨kd, at', pg, tg, bt, mk⟩ := f2
  have T1 := Lib.hid hT
  have C1 := Lib.hid hC
  have G1 := Lib.hid hG
  have M1 := Lib.hid hm2
  clear hT hC hG hm2 c0 T0 C0 G0 M0
  go_upto_block 1 with (go_at_call 17; refine (nextL_any p _ 16 _ C1.out (by decide)).mono ?_; rintro e wn0 ⟨r0, rfl, hq0, hq1, hq2, ⟨m0, hm2, hm3, hC⟩, hg⟩; have RN0 := Lib.hid (T1.out.grown hg HPF.out); have CN0 := Lib.hid hC; have GN0 := Lib.hid (grownBy_trans G1.out hg); have ML0 := Lib.hid hm2; have hs0 := hq0; have ht0 := hq1; clear hq0 hq1 hq2 hm2 hm3 hC hg C1 T1 G1)
  have hs16 := ht0 (by decide)
  clear ht0
  go_cut [7] from 50 to 76 (fun s7 wx => s7 = .pointer (some ⟨fb, 0, none⟩) ∧ ∃ (f : Flt) (m' : Nat), m' ≤ m ∧ Two fb w.heap.size f wx ∧ CodL p m' wx ∧ w.grownBy wx (some p))
  case first =>
    by_cases c12 : r0 = 12
    · subst c12
      go_wp2_with (first
        | (go_at_call 38; refine (int_any p _ _ CN0.out).mono ?_; rintro e wn1 ⟨r1, rfl, ⟨m1, hm2, hC⟩, hg⟩; have RN1 := Lib.hid (RN0.out.grown hg HPF.out); have CN1 := Lib.hid hC; have GN1 := Lib.hid (grownBy_trans GN0.out hg); have ML1 := Lib.hid hm2; clear hm2 hC hg CN0 RN0 GN0)
        | (refine wp_storeFieldW (i := 1) 3 (.int .i64 r1) rfl rfl info_int1 RN1.out.f (show 1 < 6 by decide) rfl rfl rfl rfl ?_; intro ws1 hP hS; have RS1 : Hid (Two fb w.heap.size ⟨kd, r1, pg, tg, bt, mk⟩ ws1) := Lib.hid (RN1.out.stored hP hS); have CS1 := Lib.hid (codL_stored CN1.out hS HPF2.out); have GS1 := Lib.hid (grown_new hS GN1.out HWF.out); clear hP hS RN1 CN1 GN1))
      go_meet
      exact ⟨rfl, _, _, Nat.le_trans ML1.out (Nat.le_trans ML0.out M1.out), RS1.out, CS1.out, GS1.out⟩
    by_cases c13 : r0 = 13
    · subst c13
      go_wp2_with (first
        | (go_at_call 38; refine (int_any p _ _ CN0.out).mono ?_; rintro e wn1 ⟨r1, rfl, ⟨m1, hm2, hC⟩, hg⟩; have RN1 := Lib.hid (RN0.out.grown hg HPF.out); have CN1 := Lib.hid hC; have GN1 := Lib.hid (grownBy_trans GN0.out hg); have ML1 := Lib.hid hm2; clear hm2 hC hg CN0 RN0 GN0)
        | (refine wp_storeFieldW (i := 2) 3 (.int .i64 r1) rfl rfl info_int1 RN1.out.f (show 2 < 6 by decide) rfl rfl rfl rfl ?_; intro ws1 hP hS; have RS1 : Hid (Two fb w.heap.size ⟨kd, at', r1, tg, bt, mk⟩ ws1) := Lib.hid (RN1.out.stored hP hS); have CS1 := Lib.hid (codL_stored CN1.out hS HPF2.out); have GS1 := Lib.hid (grown_new hS GN1.out HWF.out); clear hP hS RN1 CN1 GN1)
        | (refine wp_storeFieldW (i := 5) 5 (.int .u8 0) rfl rfl info_u81 RS1.out.f (show 5 < 6 by decide) rfl rfl rfl rfl ?_; intro ws2 hP hS; have RS2 : Hid (Two fb w.heap.size ⟨kd, at', r1, tg, bt, 0⟩ ws2) := Lib.hid (RS1.out.stored hP hS); have CS2 := Lib.hid (codL_stored CS1.out hS HPF2.out); have GS2 := Lib.hid (grown_new hS GS1.out HWF.out); clear hP hS RS1 CS1 GS1))
      go_meet
      exact ⟨rfl, _, _, Nat.le_trans ML1.out (Nat.le_trans ML0.out M1.out), RS2.out, CS2.out, GS2.out⟩
    by_cases c14 : r0 = 14
    · subst c14
      go_wp2_with (first
        | (go_at_call 38; refine (int_any p _ _ CN0.out).mono ?_; rintro e wn1 ⟨r1, rfl, ⟨m1, hm2, hC⟩, hg⟩; have RN1 := Lib.hid (RN0.out.grown hg HPF.out); have CN1 := Lib.hid hC; have GN1 := Lib.hid (grownBy_trans GN0.out hg); have ML1 := Lib.hid hm2; clear hm2 hC hg CN0 RN0 GN0)
        | (go_at_call 38; refine (int_any p _ _ CN1.out).mono ?_; rintro e wn2 ⟨r2, rfl, ⟨m2, hm2, hC⟩, hg⟩; have RN2 := Lib.hid (RN1.out.grown hg HPF.out); have CN2 := Lib.hid hC; have GN2 := Lib.hid (grownBy_trans GN1.out hg); have ML2 := Lib.hid hm2; clear hm2 hC hg CN1 RN1 GN1)
        | (refine wp_storeFieldW (i := 3) 3 (.int .i64 r1) rfl rfl info_int1 RN2.out.f (show 3 < 6 by decide) rfl rfl rfl rfl ?_; intro ws1 hP hS; have RS1 : Hid (Two fb w.heap.size ⟨kd, at', pg, r1, bt, mk⟩ ws1) := Lib.hid (RN2.out.stored hP hS); have CS1 := Lib.hid (codL_stored CN2.out hS HPF2.out); have GS1 := Lib.hid (grown_new hS GN2.out HWF.out); clear hP hS RN2 CN2 GN2)
        | (refine wp_storeFieldW (i := 4) 3 (.int .i64 r2) rfl rfl info_int1 RS1.out.f (show 4 < 6 by decide) rfl rfl rfl rfl ?_; intro ws2 hP hS; have RS2 : Hid (Two fb w.heap.size ⟨kd, at', pg, r1, r2, mk⟩ ws2) := Lib.hid (RS1.out.stored hP hS); have CS2 := Lib.hid (codL_stored CS1.out hS HPF2.out); have GS2 := Lib.hid (grown_new hS GS1.out HWF.out); clear hP hS RS1 CS1 GS1))
      go_meet
      exact ⟨rfl, _, _, Nat.le_trans ML2.out (Nat.le_trans ML1.out (Nat.le_trans ML0.out M1.out)), RS2.out, CS2.out, GS2.out⟩
    by_cases c15 : r0 = 15
    · subst c15
      go_wp2_with (first
        | (go_at_call 17; refine (nextL_any p _ 9 _ CN0.out (by decide)).mono ?_; rintro e wn1 ⟨r1, rfl, hq0, hq1, hq2, ⟨m1, hm2, hm3, hC⟩, hg⟩; have RN1 := Lib.hid (RN0.out.grown hg HPF.out); have CN1 := Lib.hid hC; have GN1 := Lib.hid (grownBy_trans GN0.out hg); have ML1 := Lib.hid hm2; have hs1 := hq0; have ht1 := hq1 (by decide); clear hq0 hq1 hq2 hm2 hm3 hC hg CN0 RN0 GN0)
        | (refine wp_storeFieldW (i := 0) 3 (.int .i64 (r1 - 1)) rfl rfl info_int1 RN1.out.f (show 0 < 6 by decide) rfl rfl rfl rfl ?_; intro ws1 hP hS; have RS1 : Hid (Two fb w.heap.size ⟨r1 - 1, at', pg, tg, bt, mk⟩ ws1) := Lib.hid (RN1.out.stored hP hS); have CS1 := Lib.hid (codL_stored CN1.out hS HPF2.out); have GS1 := Lib.hid (grown_new hS GN1.out HWF.out); clear hP hS RN1 CN1 GN1))
      go_meet
      exact ⟨rfl, _, _, Nat.le_trans ML1.out (Nat.le_trans ML0.out M1.out), RS1.out, CS1.out, GS1.out⟩
    have f12 : (r0 == 12) = false := by simpa using c12
    have f13 : (r0 == 13) = false := by simpa using c13
    have f14 : (r0 == 14) = false := by simpa using c14
    have f15 : (r0 == 15) = false := by simpa using c15
    go_wp2_with fail
    go_meet
    exact ⟨rfl, _, _, Nat.le_trans ML0.out M1.out, RN0.out, CN0.out, GN0.out⟩
  case rest =>
  obtain ⟨rfl, f3, m3, hm3, hT, hC, hG⟩ := hcut
  have T2 := Lib.hid hT
  have C2 := Lib.hid hC
  have G2 := Lib.hid hG
  have M2 := Lib.hid hm3
  clear hT hC hG hm3
  go_wp2_with (first
    | (refine wp_loadFlt f3 T2.out.f rfl rfl rfl ?_)
    | (refine wp_storeFltW f3 T2.out.r rfl rfl rfl rfl rfl ?_; intro wz hP hS; have RZ := Lib.hid hP; have CZ := Lib.hid (codL_stored C2.out hS HPZ.out); have GZ := Lib.hid (grown_new hS G2.out (Nat.le_refl _)); clear hP hS))
  exact bodyPost_ret (res_flt rfl rfl RZ.out) rfl ⟨f3, rfl, ⟨m3, M2.out, CZ.out⟩, GZ.out⟩
end Go.Proofs.Ytikpchhhenonaaa.nj
