/- EntryFields. -/
import Derived.Test.YtiojpfljnbdonaaOt
namespace Go.Proofs.Ytiojpfljnbdonaa.ou
open Go.ChangeShapes Go.WideShapes Go.ChangeAt Go.RowKit Go.Proofs.Ytiojpfljnbdonaa.cx Go.Proofs.Ytiojpfljnbdonaa.ra Go.Proofs.Ytiojpfljnbdonaa.rb Go.Proofs.Ytiojpfljnbdonaa.rc Go.Proofs.Ytiojpfljnbdonaa.da Go.Proofs.Ytiojpfljnbdonaa.ea Go.Proofs.Ytiojpfljnbdonaa.eb Go.Proofs.Ytiojpfljnbdonaa.ed Go.Proofs.Ytiojpfljnbdonaa.fb Go.Proofs.Ytiojpfljnbdonaa.ka Go.Proofs.Ytiojpfljnbdonaa.kb Go.Proofs.Ytiojpfljnbdonaa.kg Go.Proofs.Ytiojpfljnbdonaa.kj Go.Proofs.Ytiojpfljnbdonaa.oa Go.Proofs.Ytiojpfljnbdonaa.os Go.Proofs.Ytiojpfljnbdonaa.ob Go.Proofs.Ytiojpfljnbdonaa.oc Go.Proofs.Ytiojpfljnbdonaa.od Go.Proofs.Ytiojpfljnbdonaa.og Go.Proofs.Ytiojpfljnbdonaa.oh Go.Proofs.Ytiojpfljnbdonaa.oj Go.Proofs.Ytiojpfljnbdonaa.ok Go.Proofs.Ytiojpfljnbdonaa.ol Go.Proofs.Ytiojpfljnbdonaa.on Go.Proofs.Ytiojpfljnbdonaa.op Go.Proofs.Ytiojpfljnbdonaa.oq Go.Proofs.Ytiojpfljnbdonaa.ot
set_option linter.unusedSimpArgs false

theorem drawn_kind {e : Ent} (h : DrawnE e) : e.kind = 1 ∨ e.kind = 2 ∨ e.kind = 3 ∨ e.kind = 4 ∨ e.kind = 5 ∨ e.kind = 6 ∨ e.kind = 7 ∨ e.kind = 8 := by
  obtain ⟨-, -, h⟩ := h
  rcases h with ⟨hk, -⟩ | ⟨hk, -⟩ | ⟨hk, -⟩ | ⟨hk, -⟩ <;> omega
theorem slot1 {c : Chg} (h : validH c = true) : validH { c with slot := 1 } = true := by
  unfold validH at h ⊢
  have : slotB 1 = true := by decide
  simp_all
theorem slot1_no {c : Chg} (_h : c.slot = 0) (d : Chg) (hd : d.slot = 0) : sameH { c with slot := 1 } d = false := by
  cases hs : sameH { c with slot := 1 } d with
  | false => rfl
  | true =>
    rw [sameH_iff] at hs
    subst hs
    simp at hd
def y0 (x : Ent) : Ent := { x with tx := 3, prevTx := max x.prevTx 0 }
def y1 (x : Ent) : Ent := { x with prevPage := 2 }
def y2 (x : Ent) : Ent := { x with blob := ⟨#[120]⟩ }
def y3 (x : Ent) : Ent := { x with change := { x.change with slot := 1 } }
def y4 (x : Ent) : Ent := { x with prevTx := x.lsn }
def chB (k : Int) : Bool := (k == 1) || (k == 2)
def endB (k : Int) : Bool := (k == 3) || ((k == 4) || (k == 5))
def blB (k : Int) : Bool := (k == 6) || (k == 8)
theorem nb1 : noBlobB ⟨#[120]⟩ = false := by decide +kernel
theorem nb0 : noBlobB ⟨#[]⟩ = true := by decide +kernel
theorem nc0 : noChangeB chg0 = true := sameH_self _
theorem nc1 : noChangeB { chg0 with slot := 1 } = false := slot1_no rfl _ rfl
theorem max0 {n : Int} (h : 0 ≤ n) : max n 0 = n := by omega
theorem vE {e : Ent} : validE e = (kindB e.kind && (numsB e && allowB e)) := rfl
theorem allow1 {e : Ent} (h : e.kind = 1) : allowB e = (linksChangeB e && (validH e.change && noBlobB e.blob)) := by unfold allowB; rw [if_pos h]
theorem allow2 {e : Ent} (h : e.kind = 2) : allowB e = (linksUndoB e && (validH e.change && noBlobB e.blob)) := by unfold allowB; rw [if_neg (by omega), if_pos h]
theorem allow3 {e : Ent} (h : e.kind = 3 ∨ e.kind = 4 ∨ e.kind = 5) : allowB e = (linksTurnB e && (noChangeB e.change && noBlobB e.blob)) := by unfold allowB; rw [if_neg (by omega), if_neg (by omega), if_pos h]
theorem allow7 {e : Ent} (h : e.kind = 7) : allowB e = (linksPageB e && (pageAloneB e.change && noBlobB e.blob)) := by unfold allowB; rw [if_neg (by omega), if_neg (by omega), if_neg (by omega), if_pos h]
theorem allow6 {e : Ent} (h : e.kind = 6 ∨ e.kind = 8) : allowB e = (linksNothingB e && (noChangeB e.change && someBlobB e.blob)) := by unfold allowB; rw [if_neg (by omega), if_neg (by omega), if_neg (by omega), if_neg (by omega)]
theorem nums_iff {e : Ent} : numsB e = true ↔ 1 ≤ e.lsn ∧ e.lsn ≤ 1099511627776 ∧ (0 ≤ e.prevTx ∧ e.prevTx < e.lsn) ∧ (0 ≤ e.prevPage ∧ e.prevPage < e.lsn) ∧ 0 ≤ e.ref ∧ e.ref < e.lsn := by
  unfold numsB earlyB
  simp only [Bool.and_eq_true, decide_eq_true_eq]
theorem kind_iff {n : Int} : kindB n = true ↔ 1 ≤ n ∧ n ≤ 8 := by
  unfold kindB
  simp only [Bool.and_eq_true, decide_eq_true_eq]
theorem valid_iff {e : Ent} : validE e = true ↔ (1 ≤ e.kind ∧ e.kind ≤ 8) ∧ (1 ≤ e.lsn ∧ e.lsn ≤ 1099511627776 ∧ (0 ≤ e.prevTx ∧ e.prevTx < e.lsn) ∧ (0 ≤ e.prevPage ∧ e.prevPage < e.lsn) ∧ 0 ≤ e.ref ∧ e.ref < e.lsn) ∧ allowB e = true := by
  rw [vE, Bool.and_eq_true, Bool.and_eq_true, nums_iff, kind_iff]
theorem not_valid {e : Ent} (h : allowB e = false) : validE e = false := by rw [vE, h, Bool.and_false, Bool.and_false]
theorem lc_iff {e : Ent} : linksChangeB e = true ↔ (1 ≤ e.tx ∧ e.tx ≤ 1073741824) ∧ e.ref = 0 := by unfold linksChangeB txB; simp only [Bool.and_eq_true, decide_eq_true_eq, beq_iff_eq]
theorem lu_iff {e : Ent} : linksUndoB e = true ↔ (1 ≤ e.tx ∧ e.tx ≤ 1073741824) ∧ 1 ≤ e.ref ∧ e.ref ≤ e.prevTx := by unfold linksUndoB txB; simp only [Bool.and_eq_true, decide_eq_true_eq]
theorem lt_iff' {e : Ent} : linksTurnB e = true ↔ (1 ≤ e.tx ∧ e.tx ≤ 1073741824) ∧ 0 < e.prevTx ∧ e.prevPage = 0 ∧ e.ref = 0 := by unfold linksTurnB txB; simp only [Bool.and_eq_true, decide_eq_true_eq, beq_iff_eq]
theorem lp_iff {e : Ent} : linksPageB e = true ↔ e.tx = 0 ∧ e.prevTx = 0 ∧ e.prevPage = 0 := by unfold linksPageB; simp only [Bool.and_eq_true, beq_iff_eq]
theorem ln_iff {e : Ent} : linksNothingB e = true ↔ (e.tx = 0 ∧ e.prevTx = 0 ∧ e.prevPage = 0) ∧ e.ref = 0 := by unfold linksNothingB; rw [Bool.and_eq_true, lp_iff, beq_iff_eq]
theorem no_of {b : Bool} {P : Prop} (h : b = true ↔ P) (hn : ¬ P) : b = false := by cases b with | false => rfl | true => exact absurd (h.1 rfl) hn
/-- Which kinds use which field. -/
theorem field_all {x : Ent} (h : DrawnE x) : validE (y0 x) = (chB x.kind || endB x.kind) ∧ validE (y1 x) = chB x.kind ∧ validE (y2 x) = blB x.kind ∧ validE (y3 x) = chB x.kind ∧ validE (y4 x) = false := by
  have f4 : validE (y4 x) = false := by
    rw [vE, no_of nums_iff (fun h => by have := h.2.2.1.2; unfold y4 at this; simp only at this; omega), Bool.false_and, Bool.and_false]
  obtain ⟨l1, l2, h⟩ := h
  rcases h with ⟨hk, t1, t2, p1, p2, g1, g2, hc, hb, r1, r2⟩ | ⟨hk, t1, t2, p1, p2, g1, r1, hc, hb⟩ | ⟨hk, t1, p1, g1, r1, hc, hb⟩ | ⟨hk, t1, p1, g1, r1, r2, ⟨n, n1, n2, hc⟩, hb⟩
  · have hv := drawn_chg hc
    have hs := slot1 hv
    rcases hk with hk | hk
    · have hr := r1 hk
      refine ⟨?_, ?_, ?_, ?_, f4⟩
      · rw [hk]
        show validE (y0 x) = true
        rw [valid_iff, allow1 (by exact hk), Bool.and_eq_true, Bool.and_eq_true, lc_iff]
        unfold y0
        simp only [hv, hb, nb0, hk, hr, and_true]
        omega
      · rw [hk]
        show validE (y1 x) = true
        rw [valid_iff, allow1 (by exact hk), Bool.and_eq_true, Bool.and_eq_true, lc_iff]
        unfold y1
        simp only [hv, hb, nb0, hk, hr, and_true]
        omega
      · rw [hk]
        refine not_valid ?_
        rw [allow1 (by exact hk)]
        show (_ && (_ && noBlobB ⟨#[120]⟩)) = false
        rw [nb1, Bool.and_false, Bool.and_false]
      · rw [hk]
        show validE (y3 x) = true
        rw [valid_iff, allow1 (by exact hk), Bool.and_eq_true, Bool.and_eq_true, lc_iff]
        unfold y3
        simp only [hs, hb, nb0, hk, hr, and_true]
        omega
    · have hr := r2 hk
      refine ⟨?_, ?_, ?_, ?_, f4⟩
      · rw [hk]
        show validE (y0 x) = true
        rw [valid_iff, allow2 (by exact hk), Bool.and_eq_true, Bool.and_eq_true, lu_iff]
        unfold y0
        simp only [hv, hb, nb0, hk, and_true]
        omega
      · rw [hk]
        show validE (y1 x) = true
        rw [valid_iff, allow2 (by exact hk), Bool.and_eq_true, Bool.and_eq_true, lu_iff]
        unfold y1
        simp only [hv, hb, nb0, hk, and_true]
        omega
      · rw [hk]
        refine not_valid ?_
        rw [allow2 (by exact hk)]
        show (_ && (_ && noBlobB ⟨#[120]⟩)) = false
        rw [nb1, Bool.and_false, Bool.and_false]
      · rw [hk]
        show validE (y3 x) = true
        rw [valid_iff, allow2 (by exact hk), Bool.and_eq_true, Bool.and_eq_true, lu_iff]
        unfold y3
        simp only [hs, hb, nb0, hk, and_true]
        omega
  · have e1 : chB x.kind = false := by unfold chB; rcases hk with hk | hk | hk <;> rw [hk] <;> rfl
    have e2 : endB x.kind = true := by unfold endB; rcases hk with hk | hk | hk <;> rw [hk] <;> rfl
    have e3 : blB x.kind = false := by unfold blB; rcases hk with hk | hk | hk <;> rw [hk] <;> rfl
    rw [e1, e2, e3]
    refine ⟨?_, ?_, ?_, ?_, f4⟩
    · show validE (y0 x) = true
      rw [valid_iff, allow3 (by exact hk), Bool.and_eq_true, Bool.and_eq_true, lt_iff']
      unfold y0
      simp only [hc, hb, nb0, nc0, r1, g1, and_true]
      omega
    · refine not_valid ?_
      rw [allow3 (by exact hk), no_of lt_iff' (fun h => by have := h.2.2.1; unfold y1 at this; simp at this), Bool.false_and]
    · refine not_valid ?_
      rw [allow3 (by exact hk)]
      show (_ && (_ && noBlobB ⟨#[120]⟩)) = false
      rw [nb1, Bool.and_false, Bool.and_false]
    · refine not_valid ?_
      rw [allow3 (by exact hk)]
      show (_ && (noChangeB { x.change with slot := 1 } && _)) = false
      rw [hc, nc1, Bool.false_and, Bool.and_false]
  · have e1 : chB x.kind = false := by unfold chB; rcases hk with hk | hk <;> rw [hk] <;> rfl
    have e2 : endB x.kind = false := by unfold endB; rcases hk with hk | hk <;> rw [hk] <;> rfl
    have e3 : blB x.kind = true := by unfold blB; rcases hk with hk | hk <;> rw [hk] <;> rfl
    rw [e1, e2, e3]
    refine ⟨?_, ?_, ?_, ?_, f4⟩
    · refine not_valid ?_
      rw [allow6 (by exact hk), no_of ln_iff (fun h => by have := h.1.1; unfold y0 at this; simp at this), Bool.false_and]
    · refine not_valid ?_
      rw [allow6 (by exact hk), no_of ln_iff (fun h => by have := h.1.2.2; unfold y1 at this; simp at this), Bool.false_and]
    · show validE (y2 x) = true
      have sb : someBlobB ⟨#[120]⟩ = true := by decide +kernel
      rw [valid_iff, allow6 (by exact hk), Bool.and_eq_true, Bool.and_eq_true, ln_iff]
      unfold y2
      simp only [hc, sb, nc0, t1, p1, r1, g1, and_true]
      omega
    · refine not_valid ?_
      rw [allow6 (by exact hk)]
      show (_ && (noChangeB { x.change with slot := 1 } && _)) = false
      rw [hc, nc1, Bool.false_and, Bool.and_false]
  · rw [hk]
    refine ⟨?_, ?_, ?_, ?_, f4⟩
    · refine not_valid ?_
      rw [allow7 (by exact hk), no_of lp_iff (fun h => by have := h.1; unfold y0 at this; simp at this), Bool.false_and]
    · refine not_valid ?_
      rw [allow7 (by exact hk), no_of lp_iff (fun h => by have := h.2.2; unfold y1 at this; simp at this), Bool.false_and]
    · refine not_valid ?_
      rw [allow7 (by exact hk)]
      show (_ && (_ && noBlobB ⟨#[120]⟩)) = false
      rw [nb1, Bool.and_false, Bool.and_false]
    · refine not_valid ?_
      rw [allow7 (by exact hk)]
      have : pageAloneB { x.change with slot := 1 } = false := by
        unfold pageAloneB
        rw [slot1_no (by rw [hc]) _ rfl, Bool.and_false, Bool.and_false]
      show (_ && (pageAloneB { x.change with slot := 1 } && _)) = false
      rw [this, Bool.false_and, Bool.and_false]
set_option maxRecDepth 4000 in
set_option maxHeartbeats 8000000 in
theorem fields_walk0 (so : Option Addr) (len cap : Nat) (f : Int) (w : World) (hf0 : 0 ≤ f) (_hf1 : f ≤ 255) (hf5 : f % 5 = 0) (hin : BytesIn so len w) (hl : len ≤ 9223372036854775807) (hc : len ≤ cap) :
    Calls Try.prog 7 #[.slice so len cap, .int .u8 f] w fun e w' => e = .returned (.bool true) ∧ Below w.heap.size w w' := by
  have hft : Int.tmod f 5 = 0 := by rw [Int.tmod_eq_emod_of_nonneg hf0]; exact hf5
  have HU : Hid True := Lib.hid trivial
  go_enter Try.func7, Try.ntmps7
  go_upto_region 6 with (first
    | (go_at_call 8; refine (awake_any _).mono ?_; rintro e1 w1 ⟨rfl, hb⟩; have le1 := hb.size; have HI := Lib.hid (bytesIn_below hin hb); have HB1 := Lib.hid hb; clear hb)
    | (go_at_call 9; refine (new_is so len cap 100 100 rfl _ HI.out hl hc (by decide)).mono ?_; rintro e2 w2 ⟨rfl, hC, hb, hz⟩; have C2 := Lib.hid hC; have HB2 := Lib.hid (HB1.out.trans (hb.mono HB1.out.size)); clear hC hb hz HB1 HI)
    | (go_at_call 10; refine (entry_any _ _ C2.out).mono ?_; rintro e3 w3 ⟨x, rfl, hd, hC, hg⟩; have HB3 := Lib.hid (below_row HB2.out hg le1); have HD := Lib.hid hd; clear hC hg hd HB2 C2)
    | (have hle := HB3.out.size; clear HU; refine wp_newEntW rfl rfl ?_; intro w4 hE hb z4; have X4 := Lib.hid hE; have HB4 := Lib.hid (HB3.out.trans (hb.mono HB3.out.size)); clear hE hb HB3)
    | (refine wp_storeEntW x X4.out (evals_length _) rfl rfl rfl rfl ?_; intro w5 hE hS; have X5 := Lib.hid hE; have HB5 := Lib.hid (StoredAt.below hS HB4.out (by omega)); have lx := hE.lt; clear hE hS X4 HB4)
    | (refine wp_loadEnt x X5.out rfl rfl rfl ?_)
    | (have hq := X5.out; clear hq; refine wp_newEntW rfl rfl ?_; intro w6 hE hb z6; have Y6 := Lib.hid hE; have X6 := Lib.hid (RowAt.keep X5.out hb); have HB6 := Lib.hid (HB5.out.trans (hb.mono HB5.out.size)); clear hE hb X5 HB5)
    | (refine wp_storeEntW x Y6.out (evals_length _) rfl rfl rfl rfl ?_; intro w7 hE hS; have Y7 := Lib.hid hE; have X7 := Lib.hid (StoredAt.row hS X6.out (by omega)); have HB7 := Lib.hid (StoredAt.below hS HB6.out (by omega)); clear hE hS Y6 X6 HB6))
  obtain ⟨F0, F1, F2, F3, F4⟩ := field_all HD.out
  have HF := drawn_fitsE HD.out
  have HVX : Hid (Says 14 #[.agg x.arr] true) := Lib.hid fun w => by have := od.valid_any x w HF; rwa [drawn_valid HD.out] at this
  have FY : FitsE (y0 x) := HF
  have hk := drawn_kind HD.out
  rcases hk with hk | hk | hk | hk | hk | hk | hk | hk
  · rw [hk] at F0 F1 F2 F3
    have FV : validE (y0 x) = true := F0
    have HVY : Hid (Says 14 #[.agg (y0 x).arr] true) := Lib.hid fun w => by have := od.valid_any (y0 x) w FY; rwa [FV] at this
    have HRY : Hid (Says 15 #[.agg (y0 x).arr] true) := Lib.hid fun w => by have := refValid_any (y0 x) w FY; rwa [FV] at this
    have a1 := RowAt.cells X7.out 1 _ rfl
    have a0 := RowAt.cells X7.out 0 _ rfl
    have b3 := RowAt.cells Y7.out 3 _ rfl
    rw [hk] at a1
    clear F0 F1 F2 F3 F4 FV hk
    go_wp2_with (first
      | (refine wp_storeFieldW 3 (.int .i64 3) rfl rfl info_int1 Y7.out (show 2 < 13 by decide) rfl rfl rfl rfl ?_; intro w8 hE hS; have Y8 : Hid (EnAt w5.heap.size { x with tx := 3 } w8) := Lib.hid hE; have X8 := Lib.hid (StoredAt.row hS X7.out (by omega)); have HB8 := Lib.hid (StoredAt.below hS HB7.out (by omega)); clear hE hS Y7 X7 HB7 a0 a1 b3; have b3 := RowAt.cells Y8.out 3 _ rfl; simp only at b3)
      | (refine wp_storeFieldW 3 (.int .i64 (max x.prevTx 0)) rfl rfl info_int1 Y8.out (show 3 < 13 by decide) rfl rfl rfl rfl ?_; intro w9 hE hS; have Y9 : Hid (EnAt w5.heap.size (y0 x) w9) := Lib.hid hE; have X9 := Lib.hid (StoredAt.row hS X8.out (by omega)); have HB9 := Lib.hid (StoredAt.below hS HB8.out (by omega)); clear hE hS Y8 X8 HB8 b3)
      | (refine wp_loadEnt x X9.out rfl rfl rfl ?_)
      | (go_at_call 14; (with_reducible refine (HVX.out _).mono ?_); rintro e20 w20 ⟨rfl, hb⟩; have Y20 := Lib.hid (RowAt.keep Y9.out hb); have HB20 := Lib.hid (HB9.out.trans (hb.mono HB9.out.size)); clear hb Y9 X9 HB9 HVX)
      | (refine wp_loadEnt (y0 x) Y20.out rfl rfl rfl ?_)
      | (go_at_call 14; (with_reducible refine (HVY.out _).mono ?_); rintro e21 w21 ⟨rfl, hb⟩; have Y21 := Lib.hid (RowAt.keep Y20.out hb); have HB21 := Lib.hid (HB20.out.trans (hb.mono HB20.out.size)); clear hb Y20 HB20)
      | (refine wp_loadEnt (y0 x) Y21.out rfl rfl rfl ?_)
      | (go_at_call 15; (with_reducible refine (HRY.out _).mono ?_); rintro e22 w22 ⟨rfl, hb⟩; have HB22 := Lib.hid (HB21.out.trans (hb.mono HB21.out.size)); clear hb HB21))
    go_ret
    exact ⟨rfl, HB22.out⟩
  · rw [hk] at F0 F1 F2 F3
    have FV : validE (y0 x) = true := F0
    have HVY : Hid (Says 14 #[.agg (y0 x).arr] true) := Lib.hid fun w => by have := od.valid_any (y0 x) w FY; rwa [FV] at this
    have HRY : Hid (Says 15 #[.agg (y0 x).arr] true) := Lib.hid fun w => by have := refValid_any (y0 x) w FY; rwa [FV] at this
    have a1 := RowAt.cells X7.out 1 _ rfl
    have a0 := RowAt.cells X7.out 0 _ rfl
    have b3 := RowAt.cells Y7.out 3 _ rfl
    rw [hk] at a1
    clear F0 F1 F2 F3 F4 FV hk
    go_wp2_with (first
      | (refine wp_storeFieldW 3 (.int .i64 3) rfl rfl info_int1 Y7.out (show 2 < 13 by decide) rfl rfl rfl rfl ?_; intro w8 hE hS; have Y8 : Hid (EnAt w5.heap.size { x with tx := 3 } w8) := Lib.hid hE; have X8 := Lib.hid (StoredAt.row hS X7.out (by omega)); have HB8 := Lib.hid (StoredAt.below hS HB7.out (by omega)); clear hE hS Y7 X7 HB7 a0 a1 b3; have b3 := RowAt.cells Y8.out 3 _ rfl; simp only at b3)
      | (refine wp_storeFieldW 3 (.int .i64 (max x.prevTx 0)) rfl rfl info_int1 Y8.out (show 3 < 13 by decide) rfl rfl rfl rfl ?_; intro w9 hE hS; have Y9 : Hid (EnAt w5.heap.size (y0 x) w9) := Lib.hid hE; have X9 := Lib.hid (StoredAt.row hS X8.out (by omega)); have HB9 := Lib.hid (StoredAt.below hS HB8.out (by omega)); clear hE hS Y8 X8 HB8 b3)
      | (refine wp_loadEnt x X9.out rfl rfl rfl ?_)
      | (go_at_call 14; (with_reducible refine (HVX.out _).mono ?_); rintro e20 w20 ⟨rfl, hb⟩; have Y20 := Lib.hid (RowAt.keep Y9.out hb); have HB20 := Lib.hid (HB9.out.trans (hb.mono HB9.out.size)); clear hb Y9 X9 HB9 HVX)
      | (refine wp_loadEnt (y0 x) Y20.out rfl rfl rfl ?_)
      | (go_at_call 14; (with_reducible refine (HVY.out _).mono ?_); rintro e21 w21 ⟨rfl, hb⟩; have Y21 := Lib.hid (RowAt.keep Y20.out hb); have HB21 := Lib.hid (HB20.out.trans (hb.mono HB20.out.size)); clear hb Y20 HB20)
      | (refine wp_loadEnt (y0 x) Y21.out rfl rfl rfl ?_)
      | (go_at_call 15; (with_reducible refine (HRY.out _).mono ?_); rintro e22 w22 ⟨rfl, hb⟩; have HB22 := Lib.hid (HB21.out.trans (hb.mono HB21.out.size)); clear hb HB21))
    go_ret
    exact ⟨rfl, HB22.out⟩
  · rw [hk] at F0 F1 F2 F3
    have FV : validE (y0 x) = true := F0
    have HVY : Hid (Says 14 #[.agg (y0 x).arr] true) := Lib.hid fun w => by have := od.valid_any (y0 x) w FY; rwa [FV] at this
    have HRY : Hid (Says 15 #[.agg (y0 x).arr] true) := Lib.hid fun w => by have := refValid_any (y0 x) w FY; rwa [FV] at this
    have a1 := RowAt.cells X7.out 1 _ rfl
    have a0 := RowAt.cells X7.out 0 _ rfl
    have b3 := RowAt.cells Y7.out 3 _ rfl
    rw [hk] at a1
    clear F0 F1 F2 F3 F4 FV hk
    go_wp2_with (first
      | (refine wp_storeFieldW 3 (.int .i64 3) rfl rfl info_int1 Y7.out (show 2 < 13 by decide) rfl rfl rfl rfl ?_; intro w8 hE hS; have Y8 : Hid (EnAt w5.heap.size { x with tx := 3 } w8) := Lib.hid hE; have X8 := Lib.hid (StoredAt.row hS X7.out (by omega)); have HB8 := Lib.hid (StoredAt.below hS HB7.out (by omega)); clear hE hS Y7 X7 HB7 a0 a1 b3; have b3 := RowAt.cells Y8.out 3 _ rfl; simp only at b3)
      | (refine wp_storeFieldW 3 (.int .i64 (max x.prevTx 0)) rfl rfl info_int1 Y8.out (show 3 < 13 by decide) rfl rfl rfl rfl ?_; intro w9 hE hS; have Y9 : Hid (EnAt w5.heap.size (y0 x) w9) := Lib.hid hE; have X9 := Lib.hid (StoredAt.row hS X8.out (by omega)); have HB9 := Lib.hid (StoredAt.below hS HB8.out (by omega)); clear hE hS Y8 X8 HB8 b3)
      | (refine wp_loadEnt x X9.out rfl rfl rfl ?_)
      | (go_at_call 14; (with_reducible refine (HVX.out _).mono ?_); rintro e20 w20 ⟨rfl, hb⟩; have Y20 := Lib.hid (RowAt.keep Y9.out hb); have HB20 := Lib.hid (HB9.out.trans (hb.mono HB9.out.size)); clear hb Y9 X9 HB9 HVX)
      | (refine wp_loadEnt (y0 x) Y20.out rfl rfl rfl ?_)
      | (go_at_call 14; (with_reducible refine (HVY.out _).mono ?_); rintro e21 w21 ⟨rfl, hb⟩; have Y21 := Lib.hid (RowAt.keep Y20.out hb); have HB21 := Lib.hid (HB20.out.trans (hb.mono HB20.out.size)); clear hb Y20 HB20)
      | (refine wp_loadEnt (y0 x) Y21.out rfl rfl rfl ?_)
      | (go_at_call 15; (with_reducible refine (HRY.out _).mono ?_); rintro e22 w22 ⟨rfl, hb⟩; have HB22 := Lib.hid (HB21.out.trans (hb.mono HB21.out.size)); clear hb HB21))
    go_ret
    exact ⟨rfl, HB22.out⟩
  · rw [hk] at F0 F1 F2 F3
    have FV : validE (y0 x) = true := F0
    have HVY : Hid (Says 14 #[.agg (y0 x).arr] true) := Lib.hid fun w => by have := od.valid_any (y0 x) w FY; rwa [FV] at this
    have HRY : Hid (Says 15 #[.agg (y0 x).arr] true) := Lib.hid fun w => by have := refValid_any (y0 x) w FY; rwa [FV] at this
    have a1 := RowAt.cells X7.out 1 _ rfl
    have a0 := RowAt.cells X7.out 0 _ rfl
    have b3 := RowAt.cells Y7.out 3 _ rfl
    rw [hk] at a1
    clear F0 F1 F2 F3 F4 FV hk
    go_wp2_with (first
      | (refine wp_storeFieldW 3 (.int .i64 3) rfl rfl info_int1 Y7.out (show 2 < 13 by decide) rfl rfl rfl rfl ?_; intro w8 hE hS; have Y8 : Hid (EnAt w5.heap.size { x with tx := 3 } w8) := Lib.hid hE; have X8 := Lib.hid (StoredAt.row hS X7.out (by omega)); have HB8 := Lib.hid (StoredAt.below hS HB7.out (by omega)); clear hE hS Y7 X7 HB7 a0 a1 b3; have b3 := RowAt.cells Y8.out 3 _ rfl; simp only at b3)
      | (refine wp_storeFieldW 3 (.int .i64 (max x.prevTx 0)) rfl rfl info_int1 Y8.out (show 3 < 13 by decide) rfl rfl rfl rfl ?_; intro w9 hE hS; have Y9 : Hid (EnAt w5.heap.size (y0 x) w9) := Lib.hid hE; have X9 := Lib.hid (StoredAt.row hS X8.out (by omega)); have HB9 := Lib.hid (StoredAt.below hS HB8.out (by omega)); clear hE hS Y8 X8 HB8 b3)
      | (refine wp_loadEnt x X9.out rfl rfl rfl ?_)
      | (go_at_call 14; (with_reducible refine (HVX.out _).mono ?_); rintro e20 w20 ⟨rfl, hb⟩; have Y20 := Lib.hid (RowAt.keep Y9.out hb); have HB20 := Lib.hid (HB9.out.trans (hb.mono HB9.out.size)); clear hb Y9 X9 HB9 HVX)
      | (refine wp_loadEnt (y0 x) Y20.out rfl rfl rfl ?_)
      | (go_at_call 14; (with_reducible refine (HVY.out _).mono ?_); rintro e21 w21 ⟨rfl, hb⟩; have Y21 := Lib.hid (RowAt.keep Y20.out hb); have HB21 := Lib.hid (HB20.out.trans (hb.mono HB20.out.size)); clear hb Y20 HB20)
      | (refine wp_loadEnt (y0 x) Y21.out rfl rfl rfl ?_)
      | (go_at_call 15; (with_reducible refine (HRY.out _).mono ?_); rintro e22 w22 ⟨rfl, hb⟩; have HB22 := Lib.hid (HB21.out.trans (hb.mono HB21.out.size)); clear hb HB21))
    go_ret
    exact ⟨rfl, HB22.out⟩
  · rw [hk] at F0 F1 F2 F3
    have FV : validE (y0 x) = true := F0
    have HVY : Hid (Says 14 #[.agg (y0 x).arr] true) := Lib.hid fun w => by have := od.valid_any (y0 x) w FY; rwa [FV] at this
    have HRY : Hid (Says 15 #[.agg (y0 x).arr] true) := Lib.hid fun w => by have := refValid_any (y0 x) w FY; rwa [FV] at this
    have a1 := RowAt.cells X7.out 1 _ rfl
    have a0 := RowAt.cells X7.out 0 _ rfl
    have b3 := RowAt.cells Y7.out 3 _ rfl
    rw [hk] at a1
    clear F0 F1 F2 F3 F4 FV hk
    go_wp2_with (first
      | (refine wp_storeFieldW 3 (.int .i64 3) rfl rfl info_int1 Y7.out (show 2 < 13 by decide) rfl rfl rfl rfl ?_; intro w8 hE hS; have Y8 : Hid (EnAt w5.heap.size { x with tx := 3 } w8) := Lib.hid hE; have X8 := Lib.hid (StoredAt.row hS X7.out (by omega)); have HB8 := Lib.hid (StoredAt.below hS HB7.out (by omega)); clear hE hS Y7 X7 HB7 a0 a1 b3; have b3 := RowAt.cells Y8.out 3 _ rfl; simp only at b3)
      | (refine wp_storeFieldW 3 (.int .i64 (max x.prevTx 0)) rfl rfl info_int1 Y8.out (show 3 < 13 by decide) rfl rfl rfl rfl ?_; intro w9 hE hS; have Y9 : Hid (EnAt w5.heap.size (y0 x) w9) := Lib.hid hE; have X9 := Lib.hid (StoredAt.row hS X8.out (by omega)); have HB9 := Lib.hid (StoredAt.below hS HB8.out (by omega)); clear hE hS Y8 X8 HB8 b3)
      | (refine wp_loadEnt x X9.out rfl rfl rfl ?_)
      | (go_at_call 14; (with_reducible refine (HVX.out _).mono ?_); rintro e20 w20 ⟨rfl, hb⟩; have Y20 := Lib.hid (RowAt.keep Y9.out hb); have HB20 := Lib.hid (HB9.out.trans (hb.mono HB9.out.size)); clear hb Y9 X9 HB9 HVX)
      | (refine wp_loadEnt (y0 x) Y20.out rfl rfl rfl ?_)
      | (go_at_call 14; (with_reducible refine (HVY.out _).mono ?_); rintro e21 w21 ⟨rfl, hb⟩; have Y21 := Lib.hid (RowAt.keep Y20.out hb); have HB21 := Lib.hid (HB20.out.trans (hb.mono HB20.out.size)); clear hb Y20 HB20)
      | (refine wp_loadEnt (y0 x) Y21.out rfl rfl rfl ?_)
      | (go_at_call 15; (with_reducible refine (HRY.out _).mono ?_); rintro e22 w22 ⟨rfl, hb⟩; have HB22 := Lib.hid (HB21.out.trans (hb.mono HB21.out.size)); clear hb HB21))
    go_ret
    exact ⟨rfl, HB22.out⟩
  · rw [hk] at F0 F1 F2 F3
    have FV : validE (y0 x) = false := F0
    have HVY : Hid (Says 14 #[.agg (y0 x).arr] false) := Lib.hid fun w => by have := od.valid_any (y0 x) w FY; rwa [FV] at this
    have HRY : Hid (Says 15 #[.agg (y0 x).arr] false) := Lib.hid fun w => by have := refValid_any (y0 x) w FY; rwa [FV] at this
    have a1 := RowAt.cells X7.out 1 _ rfl
    have a0 := RowAt.cells X7.out 0 _ rfl
    have b3 := RowAt.cells Y7.out 3 _ rfl
    rw [hk] at a1
    clear F0 F1 F2 F3 F4 FV hk
    go_wp2_with (first
      | (refine wp_storeFieldW 3 (.int .i64 3) rfl rfl info_int1 Y7.out (show 2 < 13 by decide) rfl rfl rfl rfl ?_; intro w8 hE hS; have Y8 : Hid (EnAt w5.heap.size { x with tx := 3 } w8) := Lib.hid hE; have X8 := Lib.hid (StoredAt.row hS X7.out (by omega)); have HB8 := Lib.hid (StoredAt.below hS HB7.out (by omega)); clear hE hS Y7 X7 HB7 a0 a1 b3; have b3 := RowAt.cells Y8.out 3 _ rfl; simp only at b3)
      | (refine wp_storeFieldW 3 (.int .i64 (max x.prevTx 0)) rfl rfl info_int1 Y8.out (show 3 < 13 by decide) rfl rfl rfl rfl ?_; intro w9 hE hS; have Y9 : Hid (EnAt w5.heap.size (y0 x) w9) := Lib.hid hE; have X9 := Lib.hid (StoredAt.row hS X8.out (by omega)); have HB9 := Lib.hid (StoredAt.below hS HB8.out (by omega)); clear hE hS Y8 X8 HB8 b3)
      | (refine wp_loadEnt x X9.out rfl rfl rfl ?_)
      | (go_at_call 14; (with_reducible refine (HVX.out _).mono ?_); rintro e20 w20 ⟨rfl, hb⟩; have Y20 := Lib.hid (RowAt.keep Y9.out hb); have HB20 := Lib.hid (HB9.out.trans (hb.mono HB9.out.size)); clear hb Y9 X9 HB9 HVX)
      | (refine wp_loadEnt (y0 x) Y20.out rfl rfl rfl ?_)
      | (go_at_call 14; (with_reducible refine (HVY.out _).mono ?_); rintro e21 w21 ⟨rfl, hb⟩; have Y21 := Lib.hid (RowAt.keep Y20.out hb); have HB21 := Lib.hid (HB20.out.trans (hb.mono HB20.out.size)); clear hb Y20 HB20)
      | (refine wp_loadEnt (y0 x) Y21.out rfl rfl rfl ?_)
      | (go_at_call 15; (with_reducible refine (HRY.out _).mono ?_); rintro e22 w22 ⟨rfl, hb⟩; have HB22 := Lib.hid (HB21.out.trans (hb.mono HB21.out.size)); clear hb HB21))
    go_ret
    exact ⟨rfl, HB22.out⟩
  · rw [hk] at F0 F1 F2 F3
    have FV : validE (y0 x) = false := F0
    have HVY : Hid (Says 14 #[.agg (y0 x).arr] false) := Lib.hid fun w => by have := od.valid_any (y0 x) w FY; rwa [FV] at this
    have HRY : Hid (Says 15 #[.agg (y0 x).arr] false) := Lib.hid fun w => by have := refValid_any (y0 x) w FY; rwa [FV] at this
    have a1 := RowAt.cells X7.out 1 _ rfl
    have a0 := RowAt.cells X7.out 0 _ rfl
    have b3 := RowAt.cells Y7.out 3 _ rfl
    rw [hk] at a1
    clear F0 F1 F2 F3 F4 FV hk
    go_wp2_with (first
      | (refine wp_storeFieldW 3 (.int .i64 3) rfl rfl info_int1 Y7.out (show 2 < 13 by decide) rfl rfl rfl rfl ?_; intro w8 hE hS; have Y8 : Hid (EnAt w5.heap.size { x with tx := 3 } w8) := Lib.hid hE; have X8 := Lib.hid (StoredAt.row hS X7.out (by omega)); have HB8 := Lib.hid (StoredAt.below hS HB7.out (by omega)); clear hE hS Y7 X7 HB7 a0 a1 b3; have b3 := RowAt.cells Y8.out 3 _ rfl; simp only at b3)
      | (refine wp_storeFieldW 3 (.int .i64 (max x.prevTx 0)) rfl rfl info_int1 Y8.out (show 3 < 13 by decide) rfl rfl rfl rfl ?_; intro w9 hE hS; have Y9 : Hid (EnAt w5.heap.size (y0 x) w9) := Lib.hid hE; have X9 := Lib.hid (StoredAt.row hS X8.out (by omega)); have HB9 := Lib.hid (StoredAt.below hS HB8.out (by omega)); clear hE hS Y8 X8 HB8 b3)
      | (refine wp_loadEnt x X9.out rfl rfl rfl ?_)
      | (go_at_call 14; (with_reducible refine (HVX.out _).mono ?_); rintro e20 w20 ⟨rfl, hb⟩; have Y20 := Lib.hid (RowAt.keep Y9.out hb); have HB20 := Lib.hid (HB9.out.trans (hb.mono HB9.out.size)); clear hb Y9 X9 HB9 HVX)
      | (refine wp_loadEnt (y0 x) Y20.out rfl rfl rfl ?_)
      | (go_at_call 14; (with_reducible refine (HVY.out _).mono ?_); rintro e21 w21 ⟨rfl, hb⟩; have Y21 := Lib.hid (RowAt.keep Y20.out hb); have HB21 := Lib.hid (HB20.out.trans (hb.mono HB20.out.size)); clear hb Y20 HB20)
      | (refine wp_loadEnt (y0 x) Y21.out rfl rfl rfl ?_)
      | (go_at_call 15; (with_reducible refine (HRY.out _).mono ?_); rintro e22 w22 ⟨rfl, hb⟩; have HB22 := Lib.hid (HB21.out.trans (hb.mono HB21.out.size)); clear hb HB21))
    go_ret
    exact ⟨rfl, HB22.out⟩
  · rw [hk] at F0 F1 F2 F3
    have FV : validE (y0 x) = false := F0
    have HVY : Hid (Says 14 #[.agg (y0 x).arr] false) := Lib.hid fun w => by have := od.valid_any (y0 x) w FY; rwa [FV] at this
    have HRY : Hid (Says 15 #[.agg (y0 x).arr] false) := Lib.hid fun w => by have := refValid_any (y0 x) w FY; rwa [FV] at this
    have a1 := RowAt.cells X7.out 1 _ rfl
    have a0 := RowAt.cells X7.out 0 _ rfl
    have b3 := RowAt.cells Y7.out 3 _ rfl
    rw [hk] at a1
    clear F0 F1 F2 F3 F4 FV hk
    go_wp2_with (first
      | (refine wp_storeFieldW 3 (.int .i64 3) rfl rfl info_int1 Y7.out (show 2 < 13 by decide) rfl rfl rfl rfl ?_; intro w8 hE hS; have Y8 : Hid (EnAt w5.heap.size { x with tx := 3 } w8) := Lib.hid hE; have X8 := Lib.hid (StoredAt.row hS X7.out (by omega)); have HB8 := Lib.hid (StoredAt.below hS HB7.out (by omega)); clear hE hS Y7 X7 HB7 a0 a1 b3; have b3 := RowAt.cells Y8.out 3 _ rfl; simp only at b3)
      | (refine wp_storeFieldW 3 (.int .i64 (max x.prevTx 0)) rfl rfl info_int1 Y8.out (show 3 < 13 by decide) rfl rfl rfl rfl ?_; intro w9 hE hS; have Y9 : Hid (EnAt w5.heap.size (y0 x) w9) := Lib.hid hE; have X9 := Lib.hid (StoredAt.row hS X8.out (by omega)); have HB9 := Lib.hid (StoredAt.below hS HB8.out (by omega)); clear hE hS Y8 X8 HB8 b3)
      | (refine wp_loadEnt x X9.out rfl rfl rfl ?_)
      | (go_at_call 14; (with_reducible refine (HVX.out _).mono ?_); rintro e20 w20 ⟨rfl, hb⟩; have Y20 := Lib.hid (RowAt.keep Y9.out hb); have HB20 := Lib.hid (HB9.out.trans (hb.mono HB9.out.size)); clear hb Y9 X9 HB9 HVX)
      | (refine wp_loadEnt (y0 x) Y20.out rfl rfl rfl ?_)
      | (go_at_call 14; (with_reducible refine (HVY.out _).mono ?_); rintro e21 w21 ⟨rfl, hb⟩; have Y21 := Lib.hid (RowAt.keep Y20.out hb); have HB21 := Lib.hid (HB20.out.trans (hb.mono HB20.out.size)); clear hb Y20 HB20)
      | (refine wp_loadEnt (y0 x) Y21.out rfl rfl rfl ?_)
      | (go_at_call 15; (with_reducible refine (HRY.out _).mono ?_); rintro e22 w22 ⟨rfl, hb⟩; have HB22 := Lib.hid (HB21.out.trans (hb.mono HB21.out.size)); clear hb HB21))
    go_ret
    exact ⟨rfl, HB22.out⟩
set_option maxRecDepth 4000 in
set_option maxHeartbeats 8000000 in
theorem fields_walk1 (so : Option Addr) (len cap : Nat) (f : Int) (w : World) (hf0 : 0 ≤ f) (_hf1 : f ≤ 255) (hf5 : f % 5 = 1) (hin : BytesIn so len w) (hl : len ≤ 9223372036854775807) (hc : len ≤ cap) :
    Calls Try.prog 7 #[.slice so len cap, .int .u8 f] w fun e w' => e = .returned (.bool true) ∧ Below w.heap.size w w' := by
  have hft : Int.tmod f 5 = 1 := by rw [Int.tmod_eq_emod_of_nonneg hf0]; exact hf5
  have HU : Hid True := Lib.hid trivial
  go_enter Try.func7, Try.ntmps7
  go_upto_region 6 with (first
    | (go_at_call 8; refine (awake_any _).mono ?_; rintro e1 w1 ⟨rfl, hb⟩; have le1 := hb.size; have HI := Lib.hid (bytesIn_below hin hb); have HB1 := Lib.hid hb; clear hb)
    | (go_at_call 9; refine (new_is so len cap 100 100 rfl _ HI.out hl hc (by decide)).mono ?_; rintro e2 w2 ⟨rfl, hC, hb, hz⟩; have C2 := Lib.hid hC; have HB2 := Lib.hid (HB1.out.trans (hb.mono HB1.out.size)); clear hC hb hz HB1 HI)
    | (go_at_call 10; refine (entry_any _ _ C2.out).mono ?_; rintro e3 w3 ⟨x, rfl, hd, hC, hg⟩; have HB3 := Lib.hid (below_row HB2.out hg le1); have HD := Lib.hid hd; clear hC hg hd HB2 C2)
    | (have hle := HB3.out.size; clear HU; refine wp_newEntW rfl rfl ?_; intro w4 hE hb z4; have X4 := Lib.hid hE; have HB4 := Lib.hid (HB3.out.trans (hb.mono HB3.out.size)); clear hE hb HB3)
    | (refine wp_storeEntW x X4.out (evals_length _) rfl rfl rfl rfl ?_; intro w5 hE hS; have X5 := Lib.hid hE; have HB5 := Lib.hid (StoredAt.below hS HB4.out (by omega)); have lx := hE.lt; clear hE hS X4 HB4)
    | (refine wp_loadEnt x X5.out rfl rfl rfl ?_)
    | (have hq := X5.out; clear hq; refine wp_newEntW rfl rfl ?_; intro w6 hE hb z6; have Y6 := Lib.hid hE; have X6 := Lib.hid (RowAt.keep X5.out hb); have HB6 := Lib.hid (HB5.out.trans (hb.mono HB5.out.size)); clear hE hb X5 HB5)
    | (refine wp_storeEntW x Y6.out (evals_length _) rfl rfl rfl rfl ?_; intro w7 hE hS; have Y7 := Lib.hid hE; have X7 := Lib.hid (StoredAt.row hS X6.out (by omega)); have HB7 := Lib.hid (StoredAt.below hS HB6.out (by omega)); clear hE hS Y6 X6 HB6))
  obtain ⟨F0, F1, F2, F3, F4⟩ := field_all HD.out
  have HF := drawn_fitsE HD.out
  have HVX : Hid (Says 14 #[.agg x.arr] true) := Lib.hid fun w => by have := od.valid_any x w HF; rwa [drawn_valid HD.out] at this
  have FY : FitsE (y1 x) := HF
  have hk := drawn_kind HD.out
  rcases hk with hk | hk | hk | hk | hk | hk | hk | hk
  · rw [hk] at F0 F1 F2 F3
    have FV : validE (y1 x) = true := F1
    have HVY : Hid (Says 14 #[.agg (y1 x).arr] true) := Lib.hid fun w => by have := od.valid_any (y1 x) w FY; rwa [FV] at this
    have HRY : Hid (Says 15 #[.agg (y1 x).arr] true) := Lib.hid fun w => by have := refValid_any (y1 x) w FY; rwa [FV] at this
    have a1 := RowAt.cells X7.out 1 _ rfl
    have a0 := RowAt.cells X7.out 0 _ rfl
    have b3 := RowAt.cells Y7.out 3 _ rfl
    rw [hk] at a1
    clear F0 F1 F2 F3 F4 FV hk
    go_wp2_with (first
      | (refine wp_storeFieldW 3 (.int .i64 2) rfl rfl info_int1 Y7.out (show 4 < 13 by decide) rfl rfl rfl rfl ?_; intro w8 hE hS; have Y8 : Hid (EnAt w5.heap.size (y1 x) w8) := Lib.hid hE; have X8 := Lib.hid (StoredAt.row hS X7.out (by omega)); have HB8 := Lib.hid (StoredAt.below hS HB7.out (by omega)); clear hE hS Y7 X7 HB7 a0 a1 b3)
      | (refine wp_loadEnt x X8.out rfl rfl rfl ?_)
      | (go_at_call 14; (with_reducible refine (HVX.out _).mono ?_); rintro e20 w20 ⟨rfl, hb⟩; have Y20 := Lib.hid (RowAt.keep Y8.out hb); have HB20 := Lib.hid (HB8.out.trans (hb.mono HB8.out.size)); clear hb Y8 X8 HB8 HVX)
      | (refine wp_loadEnt (y1 x) Y20.out rfl rfl rfl ?_)
      | (go_at_call 14; (with_reducible refine (HVY.out _).mono ?_); rintro e21 w21 ⟨rfl, hb⟩; have Y21 := Lib.hid (RowAt.keep Y20.out hb); have HB21 := Lib.hid (HB20.out.trans (hb.mono HB20.out.size)); clear hb Y20 HB20)
      | (refine wp_loadEnt (y1 x) Y21.out rfl rfl rfl ?_)
      | (go_at_call 15; (with_reducible refine (HRY.out _).mono ?_); rintro e22 w22 ⟨rfl, hb⟩; have HB22 := Lib.hid (HB21.out.trans (hb.mono HB21.out.size)); clear hb HB21))
    go_ret
    exact ⟨rfl, HB22.out⟩
  · rw [hk] at F0 F1 F2 F3
    have FV : validE (y1 x) = true := F1
    have HVY : Hid (Says 14 #[.agg (y1 x).arr] true) := Lib.hid fun w => by have := od.valid_any (y1 x) w FY; rwa [FV] at this
    have HRY : Hid (Says 15 #[.agg (y1 x).arr] true) := Lib.hid fun w => by have := refValid_any (y1 x) w FY; rwa [FV] at this
    have a1 := RowAt.cells X7.out 1 _ rfl
    have a0 := RowAt.cells X7.out 0 _ rfl
    have b3 := RowAt.cells Y7.out 3 _ rfl
    rw [hk] at a1
    clear F0 F1 F2 F3 F4 FV hk
    go_wp2_with (first
      | (refine wp_storeFieldW 3 (.int .i64 2) rfl rfl info_int1 Y7.out (show 4 < 13 by decide) rfl rfl rfl rfl ?_; intro w8 hE hS; have Y8 : Hid (EnAt w5.heap.size (y1 x) w8) := Lib.hid hE; have X8 := Lib.hid (StoredAt.row hS X7.out (by omega)); have HB8 := Lib.hid (StoredAt.below hS HB7.out (by omega)); clear hE hS Y7 X7 HB7 a0 a1 b3)
      | (refine wp_loadEnt x X8.out rfl rfl rfl ?_)
      | (go_at_call 14; (with_reducible refine (HVX.out _).mono ?_); rintro e20 w20 ⟨rfl, hb⟩; have Y20 := Lib.hid (RowAt.keep Y8.out hb); have HB20 := Lib.hid (HB8.out.trans (hb.mono HB8.out.size)); clear hb Y8 X8 HB8 HVX)
      | (refine wp_loadEnt (y1 x) Y20.out rfl rfl rfl ?_)
      | (go_at_call 14; (with_reducible refine (HVY.out _).mono ?_); rintro e21 w21 ⟨rfl, hb⟩; have Y21 := Lib.hid (RowAt.keep Y20.out hb); have HB21 := Lib.hid (HB20.out.trans (hb.mono HB20.out.size)); clear hb Y20 HB20)
      | (refine wp_loadEnt (y1 x) Y21.out rfl rfl rfl ?_)
      | (go_at_call 15; (with_reducible refine (HRY.out _).mono ?_); rintro e22 w22 ⟨rfl, hb⟩; have HB22 := Lib.hid (HB21.out.trans (hb.mono HB21.out.size)); clear hb HB21))
    go_ret
    exact ⟨rfl, HB22.out⟩
  · rw [hk] at F0 F1 F2 F3
    have FV : validE (y1 x) = false := F1
    have HVY : Hid (Says 14 #[.agg (y1 x).arr] false) := Lib.hid fun w => by have := od.valid_any (y1 x) w FY; rwa [FV] at this
    have HRY : Hid (Says 15 #[.agg (y1 x).arr] false) := Lib.hid fun w => by have := refValid_any (y1 x) w FY; rwa [FV] at this
    have a1 := RowAt.cells X7.out 1 _ rfl
    have a0 := RowAt.cells X7.out 0 _ rfl
    have b3 := RowAt.cells Y7.out 3 _ rfl
    rw [hk] at a1
    clear F0 F1 F2 F3 F4 FV hk
    go_wp2_with (first
      | (refine wp_storeFieldW 3 (.int .i64 2) rfl rfl info_int1 Y7.out (show 4 < 13 by decide) rfl rfl rfl rfl ?_; intro w8 hE hS; have Y8 : Hid (EnAt w5.heap.size (y1 x) w8) := Lib.hid hE; have X8 := Lib.hid (StoredAt.row hS X7.out (by omega)); have HB8 := Lib.hid (StoredAt.below hS HB7.out (by omega)); clear hE hS Y7 X7 HB7 a0 a1 b3)
      | (refine wp_loadEnt x X8.out rfl rfl rfl ?_)
      | (go_at_call 14; (with_reducible refine (HVX.out _).mono ?_); rintro e20 w20 ⟨rfl, hb⟩; have Y20 := Lib.hid (RowAt.keep Y8.out hb); have HB20 := Lib.hid (HB8.out.trans (hb.mono HB8.out.size)); clear hb Y8 X8 HB8 HVX)
      | (refine wp_loadEnt (y1 x) Y20.out rfl rfl rfl ?_)
      | (go_at_call 14; (with_reducible refine (HVY.out _).mono ?_); rintro e21 w21 ⟨rfl, hb⟩; have Y21 := Lib.hid (RowAt.keep Y20.out hb); have HB21 := Lib.hid (HB20.out.trans (hb.mono HB20.out.size)); clear hb Y20 HB20)
      | (refine wp_loadEnt (y1 x) Y21.out rfl rfl rfl ?_)
      | (go_at_call 15; (with_reducible refine (HRY.out _).mono ?_); rintro e22 w22 ⟨rfl, hb⟩; have HB22 := Lib.hid (HB21.out.trans (hb.mono HB21.out.size)); clear hb HB21))
    go_ret
    exact ⟨rfl, HB22.out⟩
  · rw [hk] at F0 F1 F2 F3
    have FV : validE (y1 x) = false := F1
    have HVY : Hid (Says 14 #[.agg (y1 x).arr] false) := Lib.hid fun w => by have := od.valid_any (y1 x) w FY; rwa [FV] at this
    have HRY : Hid (Says 15 #[.agg (y1 x).arr] false) := Lib.hid fun w => by have := refValid_any (y1 x) w FY; rwa [FV] at this
    have a1 := RowAt.cells X7.out 1 _ rfl
    have a0 := RowAt.cells X7.out 0 _ rfl
    have b3 := RowAt.cells Y7.out 3 _ rfl
    rw [hk] at a1
    clear F0 F1 F2 F3 F4 FV hk
    go_wp2_with (first
      | (refine wp_storeFieldW 3 (.int .i64 2) rfl rfl info_int1 Y7.out (show 4 < 13 by decide) rfl rfl rfl rfl ?_; intro w8 hE hS; have Y8 : Hid (EnAt w5.heap.size (y1 x) w8) := Lib.hid hE; have X8 := Lib.hid (StoredAt.row hS X7.out (by omega)); have HB8 := Lib.hid (StoredAt.below hS HB7.out (by omega)); clear hE hS Y7 X7 HB7 a0 a1 b3)
      | (refine wp_loadEnt x X8.out rfl rfl rfl ?_)
      | (go_at_call 14; (with_reducible refine (HVX.out _).mono ?_); rintro e20 w20 ⟨rfl, hb⟩; have Y20 := Lib.hid (RowAt.keep Y8.out hb); have HB20 := Lib.hid (HB8.out.trans (hb.mono HB8.out.size)); clear hb Y8 X8 HB8 HVX)
      | (refine wp_loadEnt (y1 x) Y20.out rfl rfl rfl ?_)
      | (go_at_call 14; (with_reducible refine (HVY.out _).mono ?_); rintro e21 w21 ⟨rfl, hb⟩; have Y21 := Lib.hid (RowAt.keep Y20.out hb); have HB21 := Lib.hid (HB20.out.trans (hb.mono HB20.out.size)); clear hb Y20 HB20)
      | (refine wp_loadEnt (y1 x) Y21.out rfl rfl rfl ?_)
      | (go_at_call 15; (with_reducible refine (HRY.out _).mono ?_); rintro e22 w22 ⟨rfl, hb⟩; have HB22 := Lib.hid (HB21.out.trans (hb.mono HB21.out.size)); clear hb HB21))
    go_ret
    exact ⟨rfl, HB22.out⟩
  · rw [hk] at F0 F1 F2 F3
    have FV : validE (y1 x) = false := F1
    have HVY : Hid (Says 14 #[.agg (y1 x).arr] false) := Lib.hid fun w => by have := od.valid_any (y1 x) w FY; rwa [FV] at this
    have HRY : Hid (Says 15 #[.agg (y1 x).arr] false) := Lib.hid fun w => by have := refValid_any (y1 x) w FY; rwa [FV] at this
    have a1 := RowAt.cells X7.out 1 _ rfl
    have a0 := RowAt.cells X7.out 0 _ rfl
    have b3 := RowAt.cells Y7.out 3 _ rfl
    rw [hk] at a1
    clear F0 F1 F2 F3 F4 FV hk
    go_wp2_with (first
      | (refine wp_storeFieldW 3 (.int .i64 2) rfl rfl info_int1 Y7.out (show 4 < 13 by decide) rfl rfl rfl rfl ?_; intro w8 hE hS; have Y8 : Hid (EnAt w5.heap.size (y1 x) w8) := Lib.hid hE; have X8 := Lib.hid (StoredAt.row hS X7.out (by omega)); have HB8 := Lib.hid (StoredAt.below hS HB7.out (by omega)); clear hE hS Y7 X7 HB7 a0 a1 b3)
      | (refine wp_loadEnt x X8.out rfl rfl rfl ?_)
      | (go_at_call 14; (with_reducible refine (HVX.out _).mono ?_); rintro e20 w20 ⟨rfl, hb⟩; have Y20 := Lib.hid (RowAt.keep Y8.out hb); have HB20 := Lib.hid (HB8.out.trans (hb.mono HB8.out.size)); clear hb Y8 X8 HB8 HVX)
      | (refine wp_loadEnt (y1 x) Y20.out rfl rfl rfl ?_)
      | (go_at_call 14; (with_reducible refine (HVY.out _).mono ?_); rintro e21 w21 ⟨rfl, hb⟩; have Y21 := Lib.hid (RowAt.keep Y20.out hb); have HB21 := Lib.hid (HB20.out.trans (hb.mono HB20.out.size)); clear hb Y20 HB20)
      | (refine wp_loadEnt (y1 x) Y21.out rfl rfl rfl ?_)
      | (go_at_call 15; (with_reducible refine (HRY.out _).mono ?_); rintro e22 w22 ⟨rfl, hb⟩; have HB22 := Lib.hid (HB21.out.trans (hb.mono HB21.out.size)); clear hb HB21))
    go_ret
    exact ⟨rfl, HB22.out⟩
  · rw [hk] at F0 F1 F2 F3
    have FV : validE (y1 x) = false := F1
    have HVY : Hid (Says 14 #[.agg (y1 x).arr] false) := Lib.hid fun w => by have := od.valid_any (y1 x) w FY; rwa [FV] at this
    have HRY : Hid (Says 15 #[.agg (y1 x).arr] false) := Lib.hid fun w => by have := refValid_any (y1 x) w FY; rwa [FV] at this
    have a1 := RowAt.cells X7.out 1 _ rfl
    have a0 := RowAt.cells X7.out 0 _ rfl
    have b3 := RowAt.cells Y7.out 3 _ rfl
    rw [hk] at a1
    clear F0 F1 F2 F3 F4 FV hk
    go_wp2_with (first
      | (refine wp_storeFieldW 3 (.int .i64 2) rfl rfl info_int1 Y7.out (show 4 < 13 by decide) rfl rfl rfl rfl ?_; intro w8 hE hS; have Y8 : Hid (EnAt w5.heap.size (y1 x) w8) := Lib.hid hE; have X8 := Lib.hid (StoredAt.row hS X7.out (by omega)); have HB8 := Lib.hid (StoredAt.below hS HB7.out (by omega)); clear hE hS Y7 X7 HB7 a0 a1 b3)
      | (refine wp_loadEnt x X8.out rfl rfl rfl ?_)
      | (go_at_call 14; (with_reducible refine (HVX.out _).mono ?_); rintro e20 w20 ⟨rfl, hb⟩; have Y20 := Lib.hid (RowAt.keep Y8.out hb); have HB20 := Lib.hid (HB8.out.trans (hb.mono HB8.out.size)); clear hb Y8 X8 HB8 HVX)
      | (refine wp_loadEnt (y1 x) Y20.out rfl rfl rfl ?_)
      | (go_at_call 14; (with_reducible refine (HVY.out _).mono ?_); rintro e21 w21 ⟨rfl, hb⟩; have Y21 := Lib.hid (RowAt.keep Y20.out hb); have HB21 := Lib.hid (HB20.out.trans (hb.mono HB20.out.size)); clear hb Y20 HB20)
      | (refine wp_loadEnt (y1 x) Y21.out rfl rfl rfl ?_)
      | (go_at_call 15; (with_reducible refine (HRY.out _).mono ?_); rintro e22 w22 ⟨rfl, hb⟩; have HB22 := Lib.hid (HB21.out.trans (hb.mono HB21.out.size)); clear hb HB21))
    go_ret
    exact ⟨rfl, HB22.out⟩
  · rw [hk] at F0 F1 F2 F3
    have FV : validE (y1 x) = false := F1
    have HVY : Hid (Says 14 #[.agg (y1 x).arr] false) := Lib.hid fun w => by have := od.valid_any (y1 x) w FY; rwa [FV] at this
    have HRY : Hid (Says 15 #[.agg (y1 x).arr] false) := Lib.hid fun w => by have := refValid_any (y1 x) w FY; rwa [FV] at this
    have a1 := RowAt.cells X7.out 1 _ rfl
    have a0 := RowAt.cells X7.out 0 _ rfl
    have b3 := RowAt.cells Y7.out 3 _ rfl
    rw [hk] at a1
    clear F0 F1 F2 F3 F4 FV hk
    go_wp2_with (first
      | (refine wp_storeFieldW 3 (.int .i64 2) rfl rfl info_int1 Y7.out (show 4 < 13 by decide) rfl rfl rfl rfl ?_; intro w8 hE hS; have Y8 : Hid (EnAt w5.heap.size (y1 x) w8) := Lib.hid hE; have X8 := Lib.hid (StoredAt.row hS X7.out (by omega)); have HB8 := Lib.hid (StoredAt.below hS HB7.out (by omega)); clear hE hS Y7 X7 HB7 a0 a1 b3)
      | (refine wp_loadEnt x X8.out rfl rfl rfl ?_)
      | (go_at_call 14; (with_reducible refine (HVX.out _).mono ?_); rintro e20 w20 ⟨rfl, hb⟩; have Y20 := Lib.hid (RowAt.keep Y8.out hb); have HB20 := Lib.hid (HB8.out.trans (hb.mono HB8.out.size)); clear hb Y8 X8 HB8 HVX)
      | (refine wp_loadEnt (y1 x) Y20.out rfl rfl rfl ?_)
      | (go_at_call 14; (with_reducible refine (HVY.out _).mono ?_); rintro e21 w21 ⟨rfl, hb⟩; have Y21 := Lib.hid (RowAt.keep Y20.out hb); have HB21 := Lib.hid (HB20.out.trans (hb.mono HB20.out.size)); clear hb Y20 HB20)
      | (refine wp_loadEnt (y1 x) Y21.out rfl rfl rfl ?_)
      | (go_at_call 15; (with_reducible refine (HRY.out _).mono ?_); rintro e22 w22 ⟨rfl, hb⟩; have HB22 := Lib.hid (HB21.out.trans (hb.mono HB21.out.size)); clear hb HB21))
    go_ret
    exact ⟨rfl, HB22.out⟩
  · rw [hk] at F0 F1 F2 F3
    have FV : validE (y1 x) = false := F1
    have HVY : Hid (Says 14 #[.agg (y1 x).arr] false) := Lib.hid fun w => by have := od.valid_any (y1 x) w FY; rwa [FV] at this
    have HRY : Hid (Says 15 #[.agg (y1 x).arr] false) := Lib.hid fun w => by have := refValid_any (y1 x) w FY; rwa [FV] at this
    have a1 := RowAt.cells X7.out 1 _ rfl
    have a0 := RowAt.cells X7.out 0 _ rfl
    have b3 := RowAt.cells Y7.out 3 _ rfl
    rw [hk] at a1
    clear F0 F1 F2 F3 F4 FV hk
    go_wp2_with (first
      | (refine wp_storeFieldW 3 (.int .i64 2) rfl rfl info_int1 Y7.out (show 4 < 13 by decide) rfl rfl rfl rfl ?_; intro w8 hE hS; have Y8 : Hid (EnAt w5.heap.size (y1 x) w8) := Lib.hid hE; have X8 := Lib.hid (StoredAt.row hS X7.out (by omega)); have HB8 := Lib.hid (StoredAt.below hS HB7.out (by omega)); clear hE hS Y7 X7 HB7 a0 a1 b3)
      | (refine wp_loadEnt x X8.out rfl rfl rfl ?_)
      | (go_at_call 14; (with_reducible refine (HVX.out _).mono ?_); rintro e20 w20 ⟨rfl, hb⟩; have Y20 := Lib.hid (RowAt.keep Y8.out hb); have HB20 := Lib.hid (HB8.out.trans (hb.mono HB8.out.size)); clear hb Y8 X8 HB8 HVX)
      | (refine wp_loadEnt (y1 x) Y20.out rfl rfl rfl ?_)
      | (go_at_call 14; (with_reducible refine (HVY.out _).mono ?_); rintro e21 w21 ⟨rfl, hb⟩; have Y21 := Lib.hid (RowAt.keep Y20.out hb); have HB21 := Lib.hid (HB20.out.trans (hb.mono HB20.out.size)); clear hb Y20 HB20)
      | (refine wp_loadEnt (y1 x) Y21.out rfl rfl rfl ?_)
      | (go_at_call 15; (with_reducible refine (HRY.out _).mono ?_); rintro e22 w22 ⟨rfl, hb⟩; have HB22 := Lib.hid (HB21.out.trans (hb.mono HB21.out.size)); clear hb HB21))
    go_ret
    exact ⟨rfl, HB22.out⟩
set_option maxRecDepth 4000 in
set_option maxHeartbeats 8000000 in
theorem fields_walk2 (so : Option Addr) (len cap : Nat) (f : Int) (w : World) (hf0 : 0 ≤ f) (_hf1 : f ≤ 255) (hf5 : f % 5 = 2) (hin : BytesIn so len w) (hl : len ≤ 9223372036854775807) (hc : len ≤ cap) :
    Calls Try.prog 7 #[.slice so len cap, .int .u8 f] w fun e w' => e = .returned (.bool true) ∧ Below w.heap.size w w' := by
  have hft : Int.tmod f 5 = 2 := by rw [Int.tmod_eq_emod_of_nonneg hf0]; exact hf5
  have HU : Hid True := Lib.hid trivial
  go_enter Try.func7, Try.ntmps7
  go_upto_region 6 with (first
    | (go_at_call 8; refine (awake_any _).mono ?_; rintro e1 w1 ⟨rfl, hb⟩; have le1 := hb.size; have HI := Lib.hid (bytesIn_below hin hb); have HB1 := Lib.hid hb; clear hb)
    | (go_at_call 9; refine (new_is so len cap 100 100 rfl _ HI.out hl hc (by decide)).mono ?_; rintro e2 w2 ⟨rfl, hC, hb, hz⟩; have C2 := Lib.hid hC; have HB2 := Lib.hid (HB1.out.trans (hb.mono HB1.out.size)); clear hC hb hz HB1 HI)
    | (go_at_call 10; refine (entry_any _ _ C2.out).mono ?_; rintro e3 w3 ⟨x, rfl, hd, hC, hg⟩; have HB3 := Lib.hid (below_row HB2.out hg le1); have HD := Lib.hid hd; clear hC hg hd HB2 C2)
    | (have hle := HB3.out.size; clear HU; refine wp_newEntW rfl rfl ?_; intro w4 hE hb z4; have X4 := Lib.hid hE; have HB4 := Lib.hid (HB3.out.trans (hb.mono HB3.out.size)); clear hE hb HB3)
    | (refine wp_storeEntW x X4.out (evals_length _) rfl rfl rfl rfl ?_; intro w5 hE hS; have X5 := Lib.hid hE; have HB5 := Lib.hid (StoredAt.below hS HB4.out (by omega)); have lx := hE.lt; clear hE hS X4 HB4)
    | (refine wp_loadEnt x X5.out rfl rfl rfl ?_)
    | (have hq := X5.out; clear hq; refine wp_newEntW rfl rfl ?_; intro w6 hE hb z6; have Y6 := Lib.hid hE; have X6 := Lib.hid (RowAt.keep X5.out hb); have HB6 := Lib.hid (HB5.out.trans (hb.mono HB5.out.size)); clear hE hb X5 HB5)
    | (refine wp_storeEntW x Y6.out (evals_length _) rfl rfl rfl rfl ?_; intro w7 hE hS; have Y7 := Lib.hid hE; have X7 := Lib.hid (StoredAt.row hS X6.out (by omega)); have HB7 := Lib.hid (StoredAt.below hS HB6.out (by omega)); clear hE hS Y6 X6 HB6))
  obtain ⟨F0, F1, F2, F3, F4⟩ := field_all HD.out
  have HF := drawn_fitsE HD.out
  have HVX : Hid (Says 14 #[.agg x.arr] true) := Lib.hid fun w => by have := od.valid_any x w HF; rwa [drawn_valid HD.out] at this
  have FY : FitsE (y2 x) := ⟨HF.1, by show 1 ≤ 9223372036854775807; decide⟩
  have hk := drawn_kind HD.out
  rcases hk with hk | hk | hk | hk | hk | hk | hk | hk
  · rw [hk] at F0 F1 F2 F3
    have FV : validE (y2 x) = false := F2
    have HVY : Hid (Says 14 #[.agg (y2 x).arr] false) := Lib.hid fun w => by have := od.valid_any (y2 x) w FY; rwa [FV] at this
    have HRY : Hid (Says 15 #[.agg (y2 x).arr] false) := Lib.hid fun w => by have := refValid_any (y2 x) w FY; rwa [FV] at this
    have a1 := RowAt.cells X7.out 1 _ rfl
    have a0 := RowAt.cells X7.out 0 _ rfl
    have b3 := RowAt.cells Y7.out 3 _ rfl
    rw [hk] at a1
    clear F0 F1 F2 F3 F4 FV hk
    go_wp2_with (first
      | (refine wp_storeFieldW 9 (.string ⟨#[120]⟩) rfl rfl info_string1 Y7.out (show 12 < 13 by decide) rfl rfl rfl rfl ?_; intro w8 hE hS; have Y8 : Hid (EnAt w5.heap.size (y2 x) w8) := Lib.hid hE; have X8 := Lib.hid (StoredAt.row hS X7.out (by omega)); have HB8 := Lib.hid (StoredAt.below hS HB7.out (by omega)); clear hE hS Y7 X7 HB7 a0 a1 b3)
      | (refine wp_loadEnt x X8.out rfl rfl rfl ?_)
      | (go_at_call 14; (with_reducible refine (HVX.out _).mono ?_); rintro e20 w20 ⟨rfl, hb⟩; have Y20 := Lib.hid (RowAt.keep Y8.out hb); have HB20 := Lib.hid (HB8.out.trans (hb.mono HB8.out.size)); clear hb Y8 X8 HB8 HVX)
      | (refine wp_loadEnt (y2 x) Y20.out rfl rfl rfl ?_)
      | (go_at_call 14; (with_reducible refine (HVY.out _).mono ?_); rintro e21 w21 ⟨rfl, hb⟩; have Y21 := Lib.hid (RowAt.keep Y20.out hb); have HB21 := Lib.hid (HB20.out.trans (hb.mono HB20.out.size)); clear hb Y20 HB20)
      | (refine wp_loadEnt (y2 x) Y21.out rfl rfl rfl ?_)
      | (go_at_call 15; (with_reducible refine (HRY.out _).mono ?_); rintro e22 w22 ⟨rfl, hb⟩; have HB22 := Lib.hid (HB21.out.trans (hb.mono HB21.out.size)); clear hb HB21))
    go_ret
    exact ⟨rfl, HB22.out⟩
  · rw [hk] at F0 F1 F2 F3
    have FV : validE (y2 x) = false := F2
    have HVY : Hid (Says 14 #[.agg (y2 x).arr] false) := Lib.hid fun w => by have := od.valid_any (y2 x) w FY; rwa [FV] at this
    have HRY : Hid (Says 15 #[.agg (y2 x).arr] false) := Lib.hid fun w => by have := refValid_any (y2 x) w FY; rwa [FV] at this
    have a1 := RowAt.cells X7.out 1 _ rfl
    have a0 := RowAt.cells X7.out 0 _ rfl
    have b3 := RowAt.cells Y7.out 3 _ rfl
    rw [hk] at a1
    clear F0 F1 F2 F3 F4 FV hk
    go_wp2_with (first
      | (refine wp_storeFieldW 9 (.string ⟨#[120]⟩) rfl rfl info_string1 Y7.out (show 12 < 13 by decide) rfl rfl rfl rfl ?_; intro w8 hE hS; have Y8 : Hid (EnAt w5.heap.size (y2 x) w8) := Lib.hid hE; have X8 := Lib.hid (StoredAt.row hS X7.out (by omega)); have HB8 := Lib.hid (StoredAt.below hS HB7.out (by omega)); clear hE hS Y7 X7 HB7 a0 a1 b3)
      | (refine wp_loadEnt x X8.out rfl rfl rfl ?_)
      | (go_at_call 14; (with_reducible refine (HVX.out _).mono ?_); rintro e20 w20 ⟨rfl, hb⟩; have Y20 := Lib.hid (RowAt.keep Y8.out hb); have HB20 := Lib.hid (HB8.out.trans (hb.mono HB8.out.size)); clear hb Y8 X8 HB8 HVX)
      | (refine wp_loadEnt (y2 x) Y20.out rfl rfl rfl ?_)
      | (go_at_call 14; (with_reducible refine (HVY.out _).mono ?_); rintro e21 w21 ⟨rfl, hb⟩; have Y21 := Lib.hid (RowAt.keep Y20.out hb); have HB21 := Lib.hid (HB20.out.trans (hb.mono HB20.out.size)); clear hb Y20 HB20)
      | (refine wp_loadEnt (y2 x) Y21.out rfl rfl rfl ?_)
      | (go_at_call 15; (with_reducible refine (HRY.out _).mono ?_); rintro e22 w22 ⟨rfl, hb⟩; have HB22 := Lib.hid (HB21.out.trans (hb.mono HB21.out.size)); clear hb HB21))
    go_ret
    exact ⟨rfl, HB22.out⟩
  · rw [hk] at F0 F1 F2 F3
    have FV : validE (y2 x) = false := F2
    have HVY : Hid (Says 14 #[.agg (y2 x).arr] false) := Lib.hid fun w => by have := od.valid_any (y2 x) w FY; rwa [FV] at this
    have HRY : Hid (Says 15 #[.agg (y2 x).arr] false) := Lib.hid fun w => by have := refValid_any (y2 x) w FY; rwa [FV] at this
    have a1 := RowAt.cells X7.out 1 _ rfl
    have a0 := RowAt.cells X7.out 0 _ rfl
    have b3 := RowAt.cells Y7.out 3 _ rfl
    rw [hk] at a1
    clear F0 F1 F2 F3 F4 FV hk
    go_wp2_with (first
      | (refine wp_storeFieldW 9 (.string ⟨#[120]⟩) rfl rfl info_string1 Y7.out (show 12 < 13 by decide) rfl rfl rfl rfl ?_; intro w8 hE hS; have Y8 : Hid (EnAt w5.heap.size (y2 x) w8) := Lib.hid hE; have X8 := Lib.hid (StoredAt.row hS X7.out (by omega)); have HB8 := Lib.hid (StoredAt.below hS HB7.out (by omega)); clear hE hS Y7 X7 HB7 a0 a1 b3)
      | (refine wp_loadEnt x X8.out rfl rfl rfl ?_)
      | (go_at_call 14; (with_reducible refine (HVX.out _).mono ?_); rintro e20 w20 ⟨rfl, hb⟩; have Y20 := Lib.hid (RowAt.keep Y8.out hb); have HB20 := Lib.hid (HB8.out.trans (hb.mono HB8.out.size)); clear hb Y8 X8 HB8 HVX)
      | (refine wp_loadEnt (y2 x) Y20.out rfl rfl rfl ?_)
      | (go_at_call 14; (with_reducible refine (HVY.out _).mono ?_); rintro e21 w21 ⟨rfl, hb⟩; have Y21 := Lib.hid (RowAt.keep Y20.out hb); have HB21 := Lib.hid (HB20.out.trans (hb.mono HB20.out.size)); clear hb Y20 HB20)
      | (refine wp_loadEnt (y2 x) Y21.out rfl rfl rfl ?_)
      | (go_at_call 15; (with_reducible refine (HRY.out _).mono ?_); rintro e22 w22 ⟨rfl, hb⟩; have HB22 := Lib.hid (HB21.out.trans (hb.mono HB21.out.size)); clear hb HB21))
    go_ret
    exact ⟨rfl, HB22.out⟩
  · rw [hk] at F0 F1 F2 F3
    have FV : validE (y2 x) = false := F2
    have HVY : Hid (Says 14 #[.agg (y2 x).arr] false) := Lib.hid fun w => by have := od.valid_any (y2 x) w FY; rwa [FV] at this
    have HRY : Hid (Says 15 #[.agg (y2 x).arr] false) := Lib.hid fun w => by have := refValid_any (y2 x) w FY; rwa [FV] at this
    have a1 := RowAt.cells X7.out 1 _ rfl
    have a0 := RowAt.cells X7.out 0 _ rfl
    have b3 := RowAt.cells Y7.out 3 _ rfl
    rw [hk] at a1
    clear F0 F1 F2 F3 F4 FV hk
    go_wp2_with (first
      | (refine wp_storeFieldW 9 (.string ⟨#[120]⟩) rfl rfl info_string1 Y7.out (show 12 < 13 by decide) rfl rfl rfl rfl ?_; intro w8 hE hS; have Y8 : Hid (EnAt w5.heap.size (y2 x) w8) := Lib.hid hE; have X8 := Lib.hid (StoredAt.row hS X7.out (by omega)); have HB8 := Lib.hid (StoredAt.below hS HB7.out (by omega)); clear hE hS Y7 X7 HB7 a0 a1 b3)
      | (refine wp_loadEnt x X8.out rfl rfl rfl ?_)
      | (go_at_call 14; (with_reducible refine (HVX.out _).mono ?_); rintro e20 w20 ⟨rfl, hb⟩; have Y20 := Lib.hid (RowAt.keep Y8.out hb); have HB20 := Lib.hid (HB8.out.trans (hb.mono HB8.out.size)); clear hb Y8 X8 HB8 HVX)
      | (refine wp_loadEnt (y2 x) Y20.out rfl rfl rfl ?_)
      | (go_at_call 14; (with_reducible refine (HVY.out _).mono ?_); rintro e21 w21 ⟨rfl, hb⟩; have Y21 := Lib.hid (RowAt.keep Y20.out hb); have HB21 := Lib.hid (HB20.out.trans (hb.mono HB20.out.size)); clear hb Y20 HB20)
      | (refine wp_loadEnt (y2 x) Y21.out rfl rfl rfl ?_)
      | (go_at_call 15; (with_reducible refine (HRY.out _).mono ?_); rintro e22 w22 ⟨rfl, hb⟩; have HB22 := Lib.hid (HB21.out.trans (hb.mono HB21.out.size)); clear hb HB21))
    go_ret
    exact ⟨rfl, HB22.out⟩
  · rw [hk] at F0 F1 F2 F3
    have FV : validE (y2 x) = false := F2
    have HVY : Hid (Says 14 #[.agg (y2 x).arr] false) := Lib.hid fun w => by have := od.valid_any (y2 x) w FY; rwa [FV] at this
    have HRY : Hid (Says 15 #[.agg (y2 x).arr] false) := Lib.hid fun w => by have := refValid_any (y2 x) w FY; rwa [FV] at this
    have a1 := RowAt.cells X7.out 1 _ rfl
    have a0 := RowAt.cells X7.out 0 _ rfl
    have b3 := RowAt.cells Y7.out 3 _ rfl
    rw [hk] at a1
    clear F0 F1 F2 F3 F4 FV hk
    go_wp2_with (first
      | (refine wp_storeFieldW 9 (.string ⟨#[120]⟩) rfl rfl info_string1 Y7.out (show 12 < 13 by decide) rfl rfl rfl rfl ?_; intro w8 hE hS; have Y8 : Hid (EnAt w5.heap.size (y2 x) w8) := Lib.hid hE; have X8 := Lib.hid (StoredAt.row hS X7.out (by omega)); have HB8 := Lib.hid (StoredAt.below hS HB7.out (by omega)); clear hE hS Y7 X7 HB7 a0 a1 b3)
      | (refine wp_loadEnt x X8.out rfl rfl rfl ?_)
      | (go_at_call 14; (with_reducible refine (HVX.out _).mono ?_); rintro e20 w20 ⟨rfl, hb⟩; have Y20 := Lib.hid (RowAt.keep Y8.out hb); have HB20 := Lib.hid (HB8.out.trans (hb.mono HB8.out.size)); clear hb Y8 X8 HB8 HVX)
      | (refine wp_loadEnt (y2 x) Y20.out rfl rfl rfl ?_)
      | (go_at_call 14; (with_reducible refine (HVY.out _).mono ?_); rintro e21 w21 ⟨rfl, hb⟩; have Y21 := Lib.hid (RowAt.keep Y20.out hb); have HB21 := Lib.hid (HB20.out.trans (hb.mono HB20.out.size)); clear hb Y20 HB20)
      | (refine wp_loadEnt (y2 x) Y21.out rfl rfl rfl ?_)
      | (go_at_call 15; (with_reducible refine (HRY.out _).mono ?_); rintro e22 w22 ⟨rfl, hb⟩; have HB22 := Lib.hid (HB21.out.trans (hb.mono HB21.out.size)); clear hb HB21))
    go_ret
    exact ⟨rfl, HB22.out⟩
  · rw [hk] at F0 F1 F2 F3
    have FV : validE (y2 x) = true := F2
    have HVY : Hid (Says 14 #[.agg (y2 x).arr] true) := Lib.hid fun w => by have := od.valid_any (y2 x) w FY; rwa [FV] at this
    have HRY : Hid (Says 15 #[.agg (y2 x).arr] true) := Lib.hid fun w => by have := refValid_any (y2 x) w FY; rwa [FV] at this
    have a1 := RowAt.cells X7.out 1 _ rfl
    have a0 := RowAt.cells X7.out 0 _ rfl
    have b3 := RowAt.cells Y7.out 3 _ rfl
    rw [hk] at a1
    clear F0 F1 F2 F3 F4 FV hk
    go_wp2_with (first
      | (refine wp_storeFieldW 9 (.string ⟨#[120]⟩) rfl rfl info_string1 Y7.out (show 12 < 13 by decide) rfl rfl rfl rfl ?_; intro w8 hE hS; have Y8 : Hid (EnAt w5.heap.size (y2 x) w8) := Lib.hid hE; have X8 := Lib.hid (StoredAt.row hS X7.out (by omega)); have HB8 := Lib.hid (StoredAt.below hS HB7.out (by omega)); clear hE hS Y7 X7 HB7 a0 a1 b3)
      | (refine wp_loadEnt x X8.out rfl rfl rfl ?_)
      | (go_at_call 14; (with_reducible refine (HVX.out _).mono ?_); rintro e20 w20 ⟨rfl, hb⟩; have Y20 := Lib.hid (RowAt.keep Y8.out hb); have HB20 := Lib.hid (HB8.out.trans (hb.mono HB8.out.size)); clear hb Y8 X8 HB8 HVX)
      | (refine wp_loadEnt (y2 x) Y20.out rfl rfl rfl ?_)
      | (go_at_call 14; (with_reducible refine (HVY.out _).mono ?_); rintro e21 w21 ⟨rfl, hb⟩; have Y21 := Lib.hid (RowAt.keep Y20.out hb); have HB21 := Lib.hid (HB20.out.trans (hb.mono HB20.out.size)); clear hb Y20 HB20)
      | (refine wp_loadEnt (y2 x) Y21.out rfl rfl rfl ?_)
      | (go_at_call 15; (with_reducible refine (HRY.out _).mono ?_); rintro e22 w22 ⟨rfl, hb⟩; have HB22 := Lib.hid (HB21.out.trans (hb.mono HB21.out.size)); clear hb HB21))
    go_ret
    exact ⟨rfl, HB22.out⟩
  · rw [hk] at F0 F1 F2 F3
    have FV : validE (y2 x) = false := F2
    have HVY : Hid (Says 14 #[.agg (y2 x).arr] false) := Lib.hid fun w => by have := od.valid_any (y2 x) w FY; rwa [FV] at this
    have HRY : Hid (Says 15 #[.agg (y2 x).arr] false) := Lib.hid fun w => by have := refValid_any (y2 x) w FY; rwa [FV] at this
    have a1 := RowAt.cells X7.out 1 _ rfl
    have a0 := RowAt.cells X7.out 0 _ rfl
    have b3 := RowAt.cells Y7.out 3 _ rfl
    rw [hk] at a1
    clear F0 F1 F2 F3 F4 FV hk
    go_wp2_with (first
      | (refine wp_storeFieldW 9 (.string ⟨#[120]⟩) rfl rfl info_string1 Y7.out (show 12 < 13 by decide) rfl rfl rfl rfl ?_; intro w8 hE hS; have Y8 : Hid (EnAt w5.heap.size (y2 x) w8) := Lib.hid hE; have X8 := Lib.hid (StoredAt.row hS X7.out (by omega)); have HB8 := Lib.hid (StoredAt.below hS HB7.out (by omega)); clear hE hS Y7 X7 HB7 a0 a1 b3)
      | (refine wp_loadEnt x X8.out rfl rfl rfl ?_)
      | (go_at_call 14; (with_reducible refine (HVX.out _).mono ?_); rintro e20 w20 ⟨rfl, hb⟩; have Y20 := Lib.hid (RowAt.keep Y8.out hb); have HB20 := Lib.hid (HB8.out.trans (hb.mono HB8.out.size)); clear hb Y8 X8 HB8 HVX)
      | (refine wp_loadEnt (y2 x) Y20.out rfl rfl rfl ?_)
      | (go_at_call 14; (with_reducible refine (HVY.out _).mono ?_); rintro e21 w21 ⟨rfl, hb⟩; have Y21 := Lib.hid (RowAt.keep Y20.out hb); have HB21 := Lib.hid (HB20.out.trans (hb.mono HB20.out.size)); clear hb Y20 HB20)
      | (refine wp_loadEnt (y2 x) Y21.out rfl rfl rfl ?_)
      | (go_at_call 15; (with_reducible refine (HRY.out _).mono ?_); rintro e22 w22 ⟨rfl, hb⟩; have HB22 := Lib.hid (HB21.out.trans (hb.mono HB21.out.size)); clear hb HB21))
    go_ret
    exact ⟨rfl, HB22.out⟩
  · rw [hk] at F0 F1 F2 F3
    have FV : validE (y2 x) = true := F2
    have HVY : Hid (Says 14 #[.agg (y2 x).arr] true) := Lib.hid fun w => by have := od.valid_any (y2 x) w FY; rwa [FV] at this
    have HRY : Hid (Says 15 #[.agg (y2 x).arr] true) := Lib.hid fun w => by have := refValid_any (y2 x) w FY; rwa [FV] at this
    have a1 := RowAt.cells X7.out 1 _ rfl
    have a0 := RowAt.cells X7.out 0 _ rfl
    have b3 := RowAt.cells Y7.out 3 _ rfl
    rw [hk] at a1
    clear F0 F1 F2 F3 F4 FV hk
    go_wp2_with (first
      | (refine wp_storeFieldW 9 (.string ⟨#[120]⟩) rfl rfl info_string1 Y7.out (show 12 < 13 by decide) rfl rfl rfl rfl ?_; intro w8 hE hS; have Y8 : Hid (EnAt w5.heap.size (y2 x) w8) := Lib.hid hE; have X8 := Lib.hid (StoredAt.row hS X7.out (by omega)); have HB8 := Lib.hid (StoredAt.below hS HB7.out (by omega)); clear hE hS Y7 X7 HB7 a0 a1 b3)
      | (refine wp_loadEnt x X8.out rfl rfl rfl ?_)
      | (go_at_call 14; (with_reducible refine (HVX.out _).mono ?_); rintro e20 w20 ⟨rfl, hb⟩; have Y20 := Lib.hid (RowAt.keep Y8.out hb); have HB20 := Lib.hid (HB8.out.trans (hb.mono HB8.out.size)); clear hb Y8 X8 HB8 HVX)
      | (refine wp_loadEnt (y2 x) Y20.out rfl rfl rfl ?_)
      | (go_at_call 14; (with_reducible refine (HVY.out _).mono ?_); rintro e21 w21 ⟨rfl, hb⟩; have Y21 := Lib.hid (RowAt.keep Y20.out hb); have HB21 := Lib.hid (HB20.out.trans (hb.mono HB20.out.size)); clear hb Y20 HB20)
      | (refine wp_loadEnt (y2 x) Y21.out rfl rfl rfl ?_)
      | (go_at_call 15; (with_reducible refine (HRY.out _).mono ?_); rintro e22 w22 ⟨rfl, hb⟩; have HB22 := Lib.hid (HB21.out.trans (hb.mono HB21.out.size)); clear hb HB21))
    go_ret
    exact ⟨rfl, HB22.out⟩
set_option maxRecDepth 4000 in
set_option maxHeartbeats 8000000 in
theorem fields_walk3 (so : Option Addr) (len cap : Nat) (f : Int) (w : World) (hf0 : 0 ≤ f) (_hf1 : f ≤ 255) (hf5 : f % 5 = 3) (hin : BytesIn so len w) (hl : len ≤ 9223372036854775807) (hc : len ≤ cap) :
    Calls Try.prog 7 #[.slice so len cap, .int .u8 f] w fun e w' => e = .returned (.bool true) ∧ Below w.heap.size w w' := by
  have hft : Int.tmod f 5 = 3 := by rw [Int.tmod_eq_emod_of_nonneg hf0]; exact hf5
  have HU : Hid True := Lib.hid trivial
  go_enter Try.func7, Try.ntmps7
  go_upto_region 6 with (first
    | (go_at_call 8; refine (awake_any _).mono ?_; rintro e1 w1 ⟨rfl, hb⟩; have le1 := hb.size; have HI := Lib.hid (bytesIn_below hin hb); have HB1 := Lib.hid hb; clear hb)
    | (go_at_call 9; refine (new_is so len cap 100 100 rfl _ HI.out hl hc (by decide)).mono ?_; rintro e2 w2 ⟨rfl, hC, hb, hz⟩; have C2 := Lib.hid hC; have HB2 := Lib.hid (HB1.out.trans (hb.mono HB1.out.size)); clear hC hb hz HB1 HI)
    | (go_at_call 10; refine (entry_any _ _ C2.out).mono ?_; rintro e3 w3 ⟨x, rfl, hd, hC, hg⟩; have HB3 := Lib.hid (below_row HB2.out hg le1); have HD := Lib.hid hd; clear hC hg hd HB2 C2)
    | (have hle := HB3.out.size; clear HU; refine wp_newEntW rfl rfl ?_; intro w4 hE hb z4; have X4 := Lib.hid hE; have HB4 := Lib.hid (HB3.out.trans (hb.mono HB3.out.size)); clear hE hb HB3)
    | (refine wp_storeEntW x X4.out (evals_length _) rfl rfl rfl rfl ?_; intro w5 hE hS; have X5 := Lib.hid hE; have HB5 := Lib.hid (StoredAt.below hS HB4.out (by omega)); have lx := hE.lt; clear hE hS X4 HB4)
    | (refine wp_loadEnt x X5.out rfl rfl rfl ?_)
    | (have hq := X5.out; clear hq; refine wp_newEntW rfl rfl ?_; intro w6 hE hb z6; have Y6 := Lib.hid hE; have X6 := Lib.hid (RowAt.keep X5.out hb); have HB6 := Lib.hid (HB5.out.trans (hb.mono HB5.out.size)); clear hE hb X5 HB5)
    | (refine wp_storeEntW x Y6.out (evals_length _) rfl rfl rfl rfl ?_; intro w7 hE hS; have Y7 := Lib.hid hE; have X7 := Lib.hid (StoredAt.row hS X6.out (by omega)); have HB7 := Lib.hid (StoredAt.below hS HB6.out (by omega)); clear hE hS Y6 X6 HB6))
  obtain ⟨F0, F1, F2, F3, F4⟩ := field_all HD.out
  have HF := drawn_fitsE HD.out
  have HVX : Hid (Says 14 #[.agg x.arr] true) := Lib.hid fun w => by have := od.valid_any x w HF; rwa [drawn_valid HD.out] at this
  have FY : FitsE (y3 x) := HF
  have hk := drawn_kind HD.out
  rcases hk with hk | hk | hk | hk | hk | hk | hk | hk
  · rw [hk] at F0 F1 F2 F3
    have FV : validE (y3 x) = true := F3
    have HVY : Hid (Says 14 #[.agg (y3 x).arr] true) := Lib.hid fun w => by have := od.valid_any (y3 x) w FY; rwa [FV] at this
    have HRY : Hid (Says 15 #[.agg (y3 x).arr] true) := Lib.hid fun w => by have := refValid_any (y3 x) w FY; rwa [FV] at this
    have a1 := RowAt.cells X7.out 1 _ rfl
    have a0 := RowAt.cells X7.out 0 _ rfl
    have b3 := RowAt.cells Y7.out 3 _ rfl
    rw [hk] at a1
    clear F0 F1 F2 F3 F4 FV hk
    go_wp2_with (first
      | (refine wp_storeFieldW 3 (.int .i64 1) rfl rfl info_int1 Y7.out (show 7 < 13 by decide) rfl rfl rfl rfl ?_; intro w8 hE hS; have Y8 : Hid (EnAt w5.heap.size (y3 x) w8) := Lib.hid hE; have X8 := Lib.hid (StoredAt.row hS X7.out (by omega)); have HB8 := Lib.hid (StoredAt.below hS HB7.out (by omega)); clear hE hS Y7 X7 HB7 a0 a1 b3)
      | (refine wp_loadEnt x X8.out rfl rfl rfl ?_)
      | (go_at_call 14; (with_reducible refine (HVX.out _).mono ?_); rintro e20 w20 ⟨rfl, hb⟩; have Y20 := Lib.hid (RowAt.keep Y8.out hb); have HB20 := Lib.hid (HB8.out.trans (hb.mono HB8.out.size)); clear hb Y8 X8 HB8 HVX)
      | (refine wp_loadEnt (y3 x) Y20.out rfl rfl rfl ?_)
      | (go_at_call 14; (with_reducible refine (HVY.out _).mono ?_); rintro e21 w21 ⟨rfl, hb⟩; have Y21 := Lib.hid (RowAt.keep Y20.out hb); have HB21 := Lib.hid (HB20.out.trans (hb.mono HB20.out.size)); clear hb Y20 HB20)
      | (refine wp_loadEnt (y3 x) Y21.out rfl rfl rfl ?_)
      | (go_at_call 15; (with_reducible refine (HRY.out _).mono ?_); rintro e22 w22 ⟨rfl, hb⟩; have HB22 := Lib.hid (HB21.out.trans (hb.mono HB21.out.size)); clear hb HB21))
    go_ret
    exact ⟨rfl, HB22.out⟩
  · rw [hk] at F0 F1 F2 F3
    have FV : validE (y3 x) = true := F3
    have HVY : Hid (Says 14 #[.agg (y3 x).arr] true) := Lib.hid fun w => by have := od.valid_any (y3 x) w FY; rwa [FV] at this
    have HRY : Hid (Says 15 #[.agg (y3 x).arr] true) := Lib.hid fun w => by have := refValid_any (y3 x) w FY; rwa [FV] at this
    have a1 := RowAt.cells X7.out 1 _ rfl
    have a0 := RowAt.cells X7.out 0 _ rfl
    have b3 := RowAt.cells Y7.out 3 _ rfl
    rw [hk] at a1
    clear F0 F1 F2 F3 F4 FV hk
    go_wp2_with (first
      | (refine wp_storeFieldW 3 (.int .i64 1) rfl rfl info_int1 Y7.out (show 7 < 13 by decide) rfl rfl rfl rfl ?_; intro w8 hE hS; have Y8 : Hid (EnAt w5.heap.size (y3 x) w8) := Lib.hid hE; have X8 := Lib.hid (StoredAt.row hS X7.out (by omega)); have HB8 := Lib.hid (StoredAt.below hS HB7.out (by omega)); clear hE hS Y7 X7 HB7 a0 a1 b3)
      | (refine wp_loadEnt x X8.out rfl rfl rfl ?_)
      | (go_at_call 14; (with_reducible refine (HVX.out _).mono ?_); rintro e20 w20 ⟨rfl, hb⟩; have Y20 := Lib.hid (RowAt.keep Y8.out hb); have HB20 := Lib.hid (HB8.out.trans (hb.mono HB8.out.size)); clear hb Y8 X8 HB8 HVX)
      | (refine wp_loadEnt (y3 x) Y20.out rfl rfl rfl ?_)
      | (go_at_call 14; (with_reducible refine (HVY.out _).mono ?_); rintro e21 w21 ⟨rfl, hb⟩; have Y21 := Lib.hid (RowAt.keep Y20.out hb); have HB21 := Lib.hid (HB20.out.trans (hb.mono HB20.out.size)); clear hb Y20 HB20)
      | (refine wp_loadEnt (y3 x) Y21.out rfl rfl rfl ?_)
      | (go_at_call 15; (with_reducible refine (HRY.out _).mono ?_); rintro e22 w22 ⟨rfl, hb⟩; have HB22 := Lib.hid (HB21.out.trans (hb.mono HB21.out.size)); clear hb HB21))
    go_ret
    exact ⟨rfl, HB22.out⟩
  · rw [hk] at F0 F1 F2 F3
    have FV : validE (y3 x) = false := F3
    have HVY : Hid (Says 14 #[.agg (y3 x).arr] false) := Lib.hid fun w => by have := od.valid_any (y3 x) w FY; rwa [FV] at this
    have HRY : Hid (Says 15 #[.agg (y3 x).arr] false) := Lib.hid fun w => by have := refValid_any (y3 x) w FY; rwa [FV] at this
    have a1 := RowAt.cells X7.out 1 _ rfl
    have a0 := RowAt.cells X7.out 0 _ rfl
    have b3 := RowAt.cells Y7.out 3 _ rfl
    rw [hk] at a1
    clear F0 F1 F2 F3 F4 FV hk
    go_wp2_with (first
      | (refine wp_storeFieldW 3 (.int .i64 1) rfl rfl info_int1 Y7.out (show 7 < 13 by decide) rfl rfl rfl rfl ?_; intro w8 hE hS; have Y8 : Hid (EnAt w5.heap.size (y3 x) w8) := Lib.hid hE; have X8 := Lib.hid (StoredAt.row hS X7.out (by omega)); have HB8 := Lib.hid (StoredAt.below hS HB7.out (by omega)); clear hE hS Y7 X7 HB7 a0 a1 b3)
      | (refine wp_loadEnt x X8.out rfl rfl rfl ?_)
      | (go_at_call 14; (with_reducible refine (HVX.out _).mono ?_); rintro e20 w20 ⟨rfl, hb⟩; have Y20 := Lib.hid (RowAt.keep Y8.out hb); have HB20 := Lib.hid (HB8.out.trans (hb.mono HB8.out.size)); clear hb Y8 X8 HB8 HVX)
      | (refine wp_loadEnt (y3 x) Y20.out rfl rfl rfl ?_)
      | (go_at_call 14; (with_reducible refine (HVY.out _).mono ?_); rintro e21 w21 ⟨rfl, hb⟩; have Y21 := Lib.hid (RowAt.keep Y20.out hb); have HB21 := Lib.hid (HB20.out.trans (hb.mono HB20.out.size)); clear hb Y20 HB20)
      | (refine wp_loadEnt (y3 x) Y21.out rfl rfl rfl ?_)
      | (go_at_call 15; (with_reducible refine (HRY.out _).mono ?_); rintro e22 w22 ⟨rfl, hb⟩; have HB22 := Lib.hid (HB21.out.trans (hb.mono HB21.out.size)); clear hb HB21))
    go_ret
    exact ⟨rfl, HB22.out⟩
  · rw [hk] at F0 F1 F2 F3
    have FV : validE (y3 x) = false := F3
    have HVY : Hid (Says 14 #[.agg (y3 x).arr] false) := Lib.hid fun w => by have := od.valid_any (y3 x) w FY; rwa [FV] at this
    have HRY : Hid (Says 15 #[.agg (y3 x).arr] false) := Lib.hid fun w => by have := refValid_any (y3 x) w FY; rwa [FV] at this
    have a1 := RowAt.cells X7.out 1 _ rfl
    have a0 := RowAt.cells X7.out 0 _ rfl
    have b3 := RowAt.cells Y7.out 3 _ rfl
    rw [hk] at a1
    clear F0 F1 F2 F3 F4 FV hk
    go_wp2_with (first
      | (refine wp_storeFieldW 3 (.int .i64 1) rfl rfl info_int1 Y7.out (show 7 < 13 by decide) rfl rfl rfl rfl ?_; intro w8 hE hS; have Y8 : Hid (EnAt w5.heap.size (y3 x) w8) := Lib.hid hE; have X8 := Lib.hid (StoredAt.row hS X7.out (by omega)); have HB8 := Lib.hid (StoredAt.below hS HB7.out (by omega)); clear hE hS Y7 X7 HB7 a0 a1 b3)
      | (refine wp_loadEnt x X8.out rfl rfl rfl ?_)
      | (go_at_call 14; (with_reducible refine (HVX.out _).mono ?_); rintro e20 w20 ⟨rfl, hb⟩; have Y20 := Lib.hid (RowAt.keep Y8.out hb); have HB20 := Lib.hid (HB8.out.trans (hb.mono HB8.out.size)); clear hb Y8 X8 HB8 HVX)
      | (refine wp_loadEnt (y3 x) Y20.out rfl rfl rfl ?_)
      | (go_at_call 14; (with_reducible refine (HVY.out _).mono ?_); rintro e21 w21 ⟨rfl, hb⟩; have Y21 := Lib.hid (RowAt.keep Y20.out hb); have HB21 := Lib.hid (HB20.out.trans (hb.mono HB20.out.size)); clear hb Y20 HB20)
      | (refine wp_loadEnt (y3 x) Y21.out rfl rfl rfl ?_)
      | (go_at_call 15; (with_reducible refine (HRY.out _).mono ?_); rintro e22 w22 ⟨rfl, hb⟩; have HB22 := Lib.hid (HB21.out.trans (hb.mono HB21.out.size)); clear hb HB21))
    go_ret
    exact ⟨rfl, HB22.out⟩
  · rw [hk] at F0 F1 F2 F3
    have FV : validE (y3 x) = false := F3
    have HVY : Hid (Says 14 #[.agg (y3 x).arr] false) := Lib.hid fun w => by have := od.valid_any (y3 x) w FY; rwa [FV] at this
    have HRY : Hid (Says 15 #[.agg (y3 x).arr] false) := Lib.hid fun w => by have := refValid_any (y3 x) w FY; rwa [FV] at this
    have a1 := RowAt.cells X7.out 1 _ rfl
    have a0 := RowAt.cells X7.out 0 _ rfl
    have b3 := RowAt.cells Y7.out 3 _ rfl
    rw [hk] at a1
    clear F0 F1 F2 F3 F4 FV hk
    go_wp2_with (first
      | (refine wp_storeFieldW 3 (.int .i64 1) rfl rfl info_int1 Y7.out (show 7 < 13 by decide) rfl rfl rfl rfl ?_; intro w8 hE hS; have Y8 : Hid (EnAt w5.heap.size (y3 x) w8) := Lib.hid hE; have X8 := Lib.hid (StoredAt.row hS X7.out (by omega)); have HB8 := Lib.hid (StoredAt.below hS HB7.out (by omega)); clear hE hS Y7 X7 HB7 a0 a1 b3)
      | (refine wp_loadEnt x X8.out rfl rfl rfl ?_)
      | (go_at_call 14; (with_reducible refine (HVX.out _).mono ?_); rintro e20 w20 ⟨rfl, hb⟩; have Y20 := Lib.hid (RowAt.keep Y8.out hb); have HB20 := Lib.hid (HB8.out.trans (hb.mono HB8.out.size)); clear hb Y8 X8 HB8 HVX)
      | (refine wp_loadEnt (y3 x) Y20.out rfl rfl rfl ?_)
      | (go_at_call 14; (with_reducible refine (HVY.out _).mono ?_); rintro e21 w21 ⟨rfl, hb⟩; have Y21 := Lib.hid (RowAt.keep Y20.out hb); have HB21 := Lib.hid (HB20.out.trans (hb.mono HB20.out.size)); clear hb Y20 HB20)
      | (refine wp_loadEnt (y3 x) Y21.out rfl rfl rfl ?_)
      | (go_at_call 15; (with_reducible refine (HRY.out _).mono ?_); rintro e22 w22 ⟨rfl, hb⟩; have HB22 := Lib.hid (HB21.out.trans (hb.mono HB21.out.size)); clear hb HB21))
    go_ret
    exact ⟨rfl, HB22.out⟩
  · rw [hk] at F0 F1 F2 F3
    have FV : validE (y3 x) = false := F3
    have HVY : Hid (Says 14 #[.agg (y3 x).arr] false) := Lib.hid fun w => by have := od.valid_any (y3 x) w FY; rwa [FV] at this
    have HRY : Hid (Says 15 #[.agg (y3 x).arr] false) := Lib.hid fun w => by have := refValid_any (y3 x) w FY; rwa [FV] at this
    have a1 := RowAt.cells X7.out 1 _ rfl
    have a0 := RowAt.cells X7.out 0 _ rfl
    have b3 := RowAt.cells Y7.out 3 _ rfl
    rw [hk] at a1
    clear F0 F1 F2 F3 F4 FV hk
    go_wp2_with (first
      | (refine wp_storeFieldW 3 (.int .i64 1) rfl rfl info_int1 Y7.out (show 7 < 13 by decide) rfl rfl rfl rfl ?_; intro w8 hE hS; have Y8 : Hid (EnAt w5.heap.size (y3 x) w8) := Lib.hid hE; have X8 := Lib.hid (StoredAt.row hS X7.out (by omega)); have HB8 := Lib.hid (StoredAt.below hS HB7.out (by omega)); clear hE hS Y7 X7 HB7 a0 a1 b3)
      | (refine wp_loadEnt x X8.out rfl rfl rfl ?_)
      | (go_at_call 14; (with_reducible refine (HVX.out _).mono ?_); rintro e20 w20 ⟨rfl, hb⟩; have Y20 := Lib.hid (RowAt.keep Y8.out hb); have HB20 := Lib.hid (HB8.out.trans (hb.mono HB8.out.size)); clear hb Y8 X8 HB8 HVX)
      | (refine wp_loadEnt (y3 x) Y20.out rfl rfl rfl ?_)
      | (go_at_call 14; (with_reducible refine (HVY.out _).mono ?_); rintro e21 w21 ⟨rfl, hb⟩; have Y21 := Lib.hid (RowAt.keep Y20.out hb); have HB21 := Lib.hid (HB20.out.trans (hb.mono HB20.out.size)); clear hb Y20 HB20)
      | (refine wp_loadEnt (y3 x) Y21.out rfl rfl rfl ?_)
      | (go_at_call 15; (with_reducible refine (HRY.out _).mono ?_); rintro e22 w22 ⟨rfl, hb⟩; have HB22 := Lib.hid (HB21.out.trans (hb.mono HB21.out.size)); clear hb HB21))
    go_ret
    exact ⟨rfl, HB22.out⟩
  · rw [hk] at F0 F1 F2 F3
    have FV : validE (y3 x) = false := F3
    have HVY : Hid (Says 14 #[.agg (y3 x).arr] false) := Lib.hid fun w => by have := od.valid_any (y3 x) w FY; rwa [FV] at this
    have HRY : Hid (Says 15 #[.agg (y3 x).arr] false) := Lib.hid fun w => by have := refValid_any (y3 x) w FY; rwa [FV] at this
    have a1 := RowAt.cells X7.out 1 _ rfl
    have a0 := RowAt.cells X7.out 0 _ rfl
    have b3 := RowAt.cells Y7.out 3 _ rfl
    rw [hk] at a1
    clear F0 F1 F2 F3 F4 FV hk
    go_wp2_with (first
      | (refine wp_storeFieldW 3 (.int .i64 1) rfl rfl info_int1 Y7.out (show 7 < 13 by decide) rfl rfl rfl rfl ?_; intro w8 hE hS; have Y8 : Hid (EnAt w5.heap.size (y3 x) w8) := Lib.hid hE; have X8 := Lib.hid (StoredAt.row hS X7.out (by omega)); have HB8 := Lib.hid (StoredAt.below hS HB7.out (by omega)); clear hE hS Y7 X7 HB7 a0 a1 b3)
      | (refine wp_loadEnt x X8.out rfl rfl rfl ?_)
      | (go_at_call 14; (with_reducible refine (HVX.out _).mono ?_); rintro e20 w20 ⟨rfl, hb⟩; have Y20 := Lib.hid (RowAt.keep Y8.out hb); have HB20 := Lib.hid (HB8.out.trans (hb.mono HB8.out.size)); clear hb Y8 X8 HB8 HVX)
      | (refine wp_loadEnt (y3 x) Y20.out rfl rfl rfl ?_)
      | (go_at_call 14; (with_reducible refine (HVY.out _).mono ?_); rintro e21 w21 ⟨rfl, hb⟩; have Y21 := Lib.hid (RowAt.keep Y20.out hb); have HB21 := Lib.hid (HB20.out.trans (hb.mono HB20.out.size)); clear hb Y20 HB20)
      | (refine wp_loadEnt (y3 x) Y21.out rfl rfl rfl ?_)
      | (go_at_call 15; (with_reducible refine (HRY.out _).mono ?_); rintro e22 w22 ⟨rfl, hb⟩; have HB22 := Lib.hid (HB21.out.trans (hb.mono HB21.out.size)); clear hb HB21))
    go_ret
    exact ⟨rfl, HB22.out⟩
  · rw [hk] at F0 F1 F2 F3
    have FV : validE (y3 x) = false := F3
    have HVY : Hid (Says 14 #[.agg (y3 x).arr] false) := Lib.hid fun w => by have := od.valid_any (y3 x) w FY; rwa [FV] at this
    have HRY : Hid (Says 15 #[.agg (y3 x).arr] false) := Lib.hid fun w => by have := refValid_any (y3 x) w FY; rwa [FV] at this
    have a1 := RowAt.cells X7.out 1 _ rfl
    have a0 := RowAt.cells X7.out 0 _ rfl
    have b3 := RowAt.cells Y7.out 3 _ rfl
    rw [hk] at a1
    clear F0 F1 F2 F3 F4 FV hk
    go_wp2_with (first
      | (refine wp_storeFieldW 3 (.int .i64 1) rfl rfl info_int1 Y7.out (show 7 < 13 by decide) rfl rfl rfl rfl ?_; intro w8 hE hS; have Y8 : Hid (EnAt w5.heap.size (y3 x) w8) := Lib.hid hE; have X8 := Lib.hid (StoredAt.row hS X7.out (by omega)); have HB8 := Lib.hid (StoredAt.below hS HB7.out (by omega)); clear hE hS Y7 X7 HB7 a0 a1 b3)
      | (refine wp_loadEnt x X8.out rfl rfl rfl ?_)
      | (go_at_call 14; (with_reducible refine (HVX.out _).mono ?_); rintro e20 w20 ⟨rfl, hb⟩; have Y20 := Lib.hid (RowAt.keep Y8.out hb); have HB20 := Lib.hid (HB8.out.trans (hb.mono HB8.out.size)); clear hb Y8 X8 HB8 HVX)
      | (refine wp_loadEnt (y3 x) Y20.out rfl rfl rfl ?_)
      | (go_at_call 14; (with_reducible refine (HVY.out _).mono ?_); rintro e21 w21 ⟨rfl, hb⟩; have Y21 := Lib.hid (RowAt.keep Y20.out hb); have HB21 := Lib.hid (HB20.out.trans (hb.mono HB20.out.size)); clear hb Y20 HB20)
      | (refine wp_loadEnt (y3 x) Y21.out rfl rfl rfl ?_)
      | (go_at_call 15; (with_reducible refine (HRY.out _).mono ?_); rintro e22 w22 ⟨rfl, hb⟩; have HB22 := Lib.hid (HB21.out.trans (hb.mono HB21.out.size)); clear hb HB21))
    go_ret
    exact ⟨rfl, HB22.out⟩
set_option maxRecDepth 4000 in
set_option maxHeartbeats 8000000 in
theorem fields_walk4 (so : Option Addr) (len cap : Nat) (f : Int) (w : World) (hf0 : 0 ≤ f) (_hf1 : f ≤ 255) (hf5 : f % 5 = 4) (hin : BytesIn so len w) (hl : len ≤ 9223372036854775807) (hc : len ≤ cap) :
    Calls Try.prog 7 #[.slice so len cap, .int .u8 f] w fun e w' => e = .returned (.bool true) ∧ Below w.heap.size w w' := by
  have hft : Int.tmod f 5 = 4 := by rw [Int.tmod_eq_emod_of_nonneg hf0]; exact hf5
  have HU : Hid True := Lib.hid trivial
  go_enter Try.func7, Try.ntmps7
  go_upto_region 6 with (first
    | (go_at_call 8; refine (awake_any _).mono ?_; rintro e1 w1 ⟨rfl, hb⟩; have le1 := hb.size; have HI := Lib.hid (bytesIn_below hin hb); have HB1 := Lib.hid hb; clear hb)
    | (go_at_call 9; refine (new_is so len cap 100 100 rfl _ HI.out hl hc (by decide)).mono ?_; rintro e2 w2 ⟨rfl, hC, hb, hz⟩; have C2 := Lib.hid hC; have HB2 := Lib.hid (HB1.out.trans (hb.mono HB1.out.size)); clear hC hb hz HB1 HI)
    | (go_at_call 10; refine (entry_any _ _ C2.out).mono ?_; rintro e3 w3 ⟨x, rfl, hd, hC, hg⟩; have HB3 := Lib.hid (below_row HB2.out hg le1); have HD := Lib.hid hd; clear hC hg hd HB2 C2)
    | (have hle := HB3.out.size; clear HU; refine wp_newEntW rfl rfl ?_; intro w4 hE hb z4; have X4 := Lib.hid hE; have HB4 := Lib.hid (HB3.out.trans (hb.mono HB3.out.size)); clear hE hb HB3)
    | (refine wp_storeEntW x X4.out (evals_length _) rfl rfl rfl rfl ?_; intro w5 hE hS; have X5 := Lib.hid hE; have HB5 := Lib.hid (StoredAt.below hS HB4.out (by omega)); have lx := hE.lt; clear hE hS X4 HB4)
    | (refine wp_loadEnt x X5.out rfl rfl rfl ?_)
    | (have hq := X5.out; clear hq; refine wp_newEntW rfl rfl ?_; intro w6 hE hb z6; have Y6 := Lib.hid hE; have X6 := Lib.hid (RowAt.keep X5.out hb); have HB6 := Lib.hid (HB5.out.trans (hb.mono HB5.out.size)); clear hE hb X5 HB5)
    | (refine wp_storeEntW x Y6.out (evals_length _) rfl rfl rfl rfl ?_; intro w7 hE hS; have Y7 := Lib.hid hE; have X7 := Lib.hid (StoredAt.row hS X6.out (by omega)); have HB7 := Lib.hid (StoredAt.below hS HB6.out (by omega)); clear hE hS Y6 X6 HB6))
  obtain ⟨F0, F1, F2, F3, F4⟩ := field_all HD.out
  have HF := drawn_fitsE HD.out
  have HVX : Hid (Says 14 #[.agg x.arr] true) := Lib.hid fun w => by have := od.valid_any x w HF; rwa [drawn_valid HD.out] at this
  have FY : FitsE (y4 x) := HF
  have hk := drawn_kind HD.out
  rcases hk with hk | hk | hk | hk | hk | hk | hk | hk
  · rw [hk] at F0 F1 F2 F3
    have FV : validE (y4 x) = false := F4
    have HVY : Hid (Says 14 #[.agg (y4 x).arr] false) := Lib.hid fun w => by have := od.valid_any (y4 x) w FY; rwa [FV] at this
    have HRY : Hid (Says 15 #[.agg (y4 x).arr] false) := Lib.hid fun w => by have := refValid_any (y4 x) w FY; rwa [FV] at this
    have a1 := RowAt.cells X7.out 1 _ rfl
    have a0 := RowAt.cells X7.out 0 _ rfl
    have b3 := RowAt.cells Y7.out 3 _ rfl
    rw [hk] at a1
    clear F0 F1 F2 F3 F4 FV hk
    go_wp2_with (first
      | (refine wp_storeFieldW 3 (.int .i64 x.lsn) rfl rfl info_int1 Y7.out (show 3 < 13 by decide) rfl rfl rfl rfl ?_; intro w8 hE hS; have Y8 : Hid (EnAt w5.heap.size (y4 x) w8) := Lib.hid hE; have X8 := Lib.hid (StoredAt.row hS X7.out (by omega)); have HB8 := Lib.hid (StoredAt.below hS HB7.out (by omega)); clear hE hS Y7 X7 HB7 a0 a1 b3)
      | (refine wp_loadEnt x X8.out rfl rfl rfl ?_)
      | (go_at_call 14; (with_reducible refine (HVX.out _).mono ?_); rintro e20 w20 ⟨rfl, hb⟩; have Y20 := Lib.hid (RowAt.keep Y8.out hb); have HB20 := Lib.hid (HB8.out.trans (hb.mono HB8.out.size)); clear hb Y8 X8 HB8 HVX)
      | (refine wp_loadEnt (y4 x) Y20.out rfl rfl rfl ?_)
      | (go_at_call 14; (with_reducible refine (HVY.out _).mono ?_); rintro e21 w21 ⟨rfl, hb⟩; have Y21 := Lib.hid (RowAt.keep Y20.out hb); have HB21 := Lib.hid (HB20.out.trans (hb.mono HB20.out.size)); clear hb Y20 HB20)
      | (refine wp_loadEnt (y4 x) Y21.out rfl rfl rfl ?_)
      | (go_at_call 15; (with_reducible refine (HRY.out _).mono ?_); rintro e22 w22 ⟨rfl, hb⟩; have HB22 := Lib.hid (HB21.out.trans (hb.mono HB21.out.size)); clear hb HB21))
    go_ret
    exact ⟨rfl, HB22.out⟩
  · rw [hk] at F0 F1 F2 F3
    have FV : validE (y4 x) = false := F4
    have HVY : Hid (Says 14 #[.agg (y4 x).arr] false) := Lib.hid fun w => by have := od.valid_any (y4 x) w FY; rwa [FV] at this
    have HRY : Hid (Says 15 #[.agg (y4 x).arr] false) := Lib.hid fun w => by have := refValid_any (y4 x) w FY; rwa [FV] at this
    have a1 := RowAt.cells X7.out 1 _ rfl
    have a0 := RowAt.cells X7.out 0 _ rfl
    have b3 := RowAt.cells Y7.out 3 _ rfl
    rw [hk] at a1
    clear F0 F1 F2 F3 F4 FV hk
    go_wp2_with (first
      | (refine wp_storeFieldW 3 (.int .i64 x.lsn) rfl rfl info_int1 Y7.out (show 3 < 13 by decide) rfl rfl rfl rfl ?_; intro w8 hE hS; have Y8 : Hid (EnAt w5.heap.size (y4 x) w8) := Lib.hid hE; have X8 := Lib.hid (StoredAt.row hS X7.out (by omega)); have HB8 := Lib.hid (StoredAt.below hS HB7.out (by omega)); clear hE hS Y7 X7 HB7 a0 a1 b3)
      | (refine wp_loadEnt x X8.out rfl rfl rfl ?_)
      | (go_at_call 14; (with_reducible refine (HVX.out _).mono ?_); rintro e20 w20 ⟨rfl, hb⟩; have Y20 := Lib.hid (RowAt.keep Y8.out hb); have HB20 := Lib.hid (HB8.out.trans (hb.mono HB8.out.size)); clear hb Y8 X8 HB8 HVX)
      | (refine wp_loadEnt (y4 x) Y20.out rfl rfl rfl ?_)
      | (go_at_call 14; (with_reducible refine (HVY.out _).mono ?_); rintro e21 w21 ⟨rfl, hb⟩; have Y21 := Lib.hid (RowAt.keep Y20.out hb); have HB21 := Lib.hid (HB20.out.trans (hb.mono HB20.out.size)); clear hb Y20 HB20)
      | (refine wp_loadEnt (y4 x) Y21.out rfl rfl rfl ?_)
      | (go_at_call 15; (with_reducible refine (HRY.out _).mono ?_); rintro e22 w22 ⟨rfl, hb⟩; have HB22 := Lib.hid (HB21.out.trans (hb.mono HB21.out.size)); clear hb HB21))
    go_ret
    exact ⟨rfl, HB22.out⟩
  · rw [hk] at F0 F1 F2 F3
    have FV : validE (y4 x) = false := F4
    have HVY : Hid (Says 14 #[.agg (y4 x).arr] false) := Lib.hid fun w => by have := od.valid_any (y4 x) w FY; rwa [FV] at this
    have HRY : Hid (Says 15 #[.agg (y4 x).arr] false) := Lib.hid fun w => by have := refValid_any (y4 x) w FY; rwa [FV] at this
    have a1 := RowAt.cells X7.out 1 _ rfl
    have a0 := RowAt.cells X7.out 0 _ rfl
    have b3 := RowAt.cells Y7.out 3 _ rfl
    rw [hk] at a1
    clear F0 F1 F2 F3 F4 FV hk
    go_wp2_with (first
      | (refine wp_storeFieldW 3 (.int .i64 x.lsn) rfl rfl info_int1 Y7.out (show 3 < 13 by decide) rfl rfl rfl rfl ?_; intro w8 hE hS; have Y8 : Hid (EnAt w5.heap.size (y4 x) w8) := Lib.hid hE; have X8 := Lib.hid (StoredAt.row hS X7.out (by omega)); have HB8 := Lib.hid (StoredAt.below hS HB7.out (by omega)); clear hE hS Y7 X7 HB7 a0 a1 b3)
      | (refine wp_loadEnt x X8.out rfl rfl rfl ?_)
      | (go_at_call 14; (with_reducible refine (HVX.out _).mono ?_); rintro e20 w20 ⟨rfl, hb⟩; have Y20 := Lib.hid (RowAt.keep Y8.out hb); have HB20 := Lib.hid (HB8.out.trans (hb.mono HB8.out.size)); clear hb Y8 X8 HB8 HVX)
      | (refine wp_loadEnt (y4 x) Y20.out rfl rfl rfl ?_)
      | (go_at_call 14; (with_reducible refine (HVY.out _).mono ?_); rintro e21 w21 ⟨rfl, hb⟩; have Y21 := Lib.hid (RowAt.keep Y20.out hb); have HB21 := Lib.hid (HB20.out.trans (hb.mono HB20.out.size)); clear hb Y20 HB20)
      | (refine wp_loadEnt (y4 x) Y21.out rfl rfl rfl ?_)
      | (go_at_call 15; (with_reducible refine (HRY.out _).mono ?_); rintro e22 w22 ⟨rfl, hb⟩; have HB22 := Lib.hid (HB21.out.trans (hb.mono HB21.out.size)); clear hb HB21))
    go_ret
    exact ⟨rfl, HB22.out⟩
  · rw [hk] at F0 F1 F2 F3
    have FV : validE (y4 x) = false := F4
    have HVY : Hid (Says 14 #[.agg (y4 x).arr] false) := Lib.hid fun w => by have := od.valid_any (y4 x) w FY; rwa [FV] at this
    have HRY : Hid (Says 15 #[.agg (y4 x).arr] false) := Lib.hid fun w => by have := refValid_any (y4 x) w FY; rwa [FV] at this
    have a1 := RowAt.cells X7.out 1 _ rfl
    have a0 := RowAt.cells X7.out 0 _ rfl
    have b3 := RowAt.cells Y7.out 3 _ rfl
    rw [hk] at a1
    clear F0 F1 F2 F3 F4 FV hk
    go_wp2_with (first
      | (refine wp_storeFieldW 3 (.int .i64 x.lsn) rfl rfl info_int1 Y7.out (show 3 < 13 by decide) rfl rfl rfl rfl ?_; intro w8 hE hS; have Y8 : Hid (EnAt w5.heap.size (y4 x) w8) := Lib.hid hE; have X8 := Lib.hid (StoredAt.row hS X7.out (by omega)); have HB8 := Lib.hid (StoredAt.below hS HB7.out (by omega)); clear hE hS Y7 X7 HB7 a0 a1 b3)
      | (refine wp_loadEnt x X8.out rfl rfl rfl ?_)
      | (go_at_call 14; (with_reducible refine (HVX.out _).mono ?_); rintro e20 w20 ⟨rfl, hb⟩; have Y20 := Lib.hid (RowAt.keep Y8.out hb); have HB20 := Lib.hid (HB8.out.trans (hb.mono HB8.out.size)); clear hb Y8 X8 HB8 HVX)
      | (refine wp_loadEnt (y4 x) Y20.out rfl rfl rfl ?_)
      | (go_at_call 14; (with_reducible refine (HVY.out _).mono ?_); rintro e21 w21 ⟨rfl, hb⟩; have Y21 := Lib.hid (RowAt.keep Y20.out hb); have HB21 := Lib.hid (HB20.out.trans (hb.mono HB20.out.size)); clear hb Y20 HB20)
      | (refine wp_loadEnt (y4 x) Y21.out rfl rfl rfl ?_)
      | (go_at_call 15; (with_reducible refine (HRY.out _).mono ?_); rintro e22 w22 ⟨rfl, hb⟩; have HB22 := Lib.hid (HB21.out.trans (hb.mono HB21.out.size)); clear hb HB21))
    go_ret
    exact ⟨rfl, HB22.out⟩
  · rw [hk] at F0 F1 F2 F3
    have FV : validE (y4 x) = false := F4
    have HVY : Hid (Says 14 #[.agg (y4 x).arr] false) := Lib.hid fun w => by have := od.valid_any (y4 x) w FY; rwa [FV] at this
    have HRY : Hid (Says 15 #[.agg (y4 x).arr] false) := Lib.hid fun w => by have := refValid_any (y4 x) w FY; rwa [FV] at this
    have a1 := RowAt.cells X7.out 1 _ rfl
    have a0 := RowAt.cells X7.out 0 _ rfl
    have b3 := RowAt.cells Y7.out 3 _ rfl
    rw [hk] at a1
    clear F0 F1 F2 F3 F4 FV hk
    go_wp2_with (first
      | (refine wp_storeFieldW 3 (.int .i64 x.lsn) rfl rfl info_int1 Y7.out (show 3 < 13 by decide) rfl rfl rfl rfl ?_; intro w8 hE hS; have Y8 : Hid (EnAt w5.heap.size (y4 x) w8) := Lib.hid hE; have X8 := Lib.hid (StoredAt.row hS X7.out (by omega)); have HB8 := Lib.hid (StoredAt.below hS HB7.out (by omega)); clear hE hS Y7 X7 HB7 a0 a1 b3)
      | (refine wp_loadEnt x X8.out rfl rfl rfl ?_)
      | (go_at_call 14; (with_reducible refine (HVX.out _).mono ?_); rintro e20 w20 ⟨rfl, hb⟩; have Y20 := Lib.hid (RowAt.keep Y8.out hb); have HB20 := Lib.hid (HB8.out.trans (hb.mono HB8.out.size)); clear hb Y8 X8 HB8 HVX)
      | (refine wp_loadEnt (y4 x) Y20.out rfl rfl rfl ?_)
      | (go_at_call 14; (with_reducible refine (HVY.out _).mono ?_); rintro e21 w21 ⟨rfl, hb⟩; have Y21 := Lib.hid (RowAt.keep Y20.out hb); have HB21 := Lib.hid (HB20.out.trans (hb.mono HB20.out.size)); clear hb Y20 HB20)
      | (refine wp_loadEnt (y4 x) Y21.out rfl rfl rfl ?_)
      | (go_at_call 15; (with_reducible refine (HRY.out _).mono ?_); rintro e22 w22 ⟨rfl, hb⟩; have HB22 := Lib.hid (HB21.out.trans (hb.mono HB21.out.size)); clear hb HB21))
    go_ret
    exact ⟨rfl, HB22.out⟩
  · rw [hk] at F0 F1 F2 F3
    have FV : validE (y4 x) = false := F4
    have HVY : Hid (Says 14 #[.agg (y4 x).arr] false) := Lib.hid fun w => by have := od.valid_any (y4 x) w FY; rwa [FV] at this
    have HRY : Hid (Says 15 #[.agg (y4 x).arr] false) := Lib.hid fun w => by have := refValid_any (y4 x) w FY; rwa [FV] at this
    have a1 := RowAt.cells X7.out 1 _ rfl
    have a0 := RowAt.cells X7.out 0 _ rfl
    have b3 := RowAt.cells Y7.out 3 _ rfl
    rw [hk] at a1
    clear F0 F1 F2 F3 F4 FV hk
    go_wp2_with (first
      | (refine wp_storeFieldW 3 (.int .i64 x.lsn) rfl rfl info_int1 Y7.out (show 3 < 13 by decide) rfl rfl rfl rfl ?_; intro w8 hE hS; have Y8 : Hid (EnAt w5.heap.size (y4 x) w8) := Lib.hid hE; have X8 := Lib.hid (StoredAt.row hS X7.out (by omega)); have HB8 := Lib.hid (StoredAt.below hS HB7.out (by omega)); clear hE hS Y7 X7 HB7 a0 a1 b3)
      | (refine wp_loadEnt x X8.out rfl rfl rfl ?_)
      | (go_at_call 14; (with_reducible refine (HVX.out _).mono ?_); rintro e20 w20 ⟨rfl, hb⟩; have Y20 := Lib.hid (RowAt.keep Y8.out hb); have HB20 := Lib.hid (HB8.out.trans (hb.mono HB8.out.size)); clear hb Y8 X8 HB8 HVX)
      | (refine wp_loadEnt (y4 x) Y20.out rfl rfl rfl ?_)
      | (go_at_call 14; (with_reducible refine (HVY.out _).mono ?_); rintro e21 w21 ⟨rfl, hb⟩; have Y21 := Lib.hid (RowAt.keep Y20.out hb); have HB21 := Lib.hid (HB20.out.trans (hb.mono HB20.out.size)); clear hb Y20 HB20)
      | (refine wp_loadEnt (y4 x) Y21.out rfl rfl rfl ?_)
      | (go_at_call 15; (with_reducible refine (HRY.out _).mono ?_); rintro e22 w22 ⟨rfl, hb⟩; have HB22 := Lib.hid (HB21.out.trans (hb.mono HB21.out.size)); clear hb HB21))
    go_ret
    exact ⟨rfl, HB22.out⟩
  · rw [hk] at F0 F1 F2 F3
    have FV : validE (y4 x) = false := F4
    have HVY : Hid (Says 14 #[.agg (y4 x).arr] false) := Lib.hid fun w => by have := od.valid_any (y4 x) w FY; rwa [FV] at this
    have HRY : Hid (Says 15 #[.agg (y4 x).arr] false) := Lib.hid fun w => by have := refValid_any (y4 x) w FY; rwa [FV] at this
    have a1 := RowAt.cells X7.out 1 _ rfl
    have a0 := RowAt.cells X7.out 0 _ rfl
    have b3 := RowAt.cells Y7.out 3 _ rfl
    rw [hk] at a1
    clear F0 F1 F2 F3 F4 FV hk
    go_wp2_with (first
      | (refine wp_storeFieldW 3 (.int .i64 x.lsn) rfl rfl info_int1 Y7.out (show 3 < 13 by decide) rfl rfl rfl rfl ?_; intro w8 hE hS; have Y8 : Hid (EnAt w5.heap.size (y4 x) w8) := Lib.hid hE; have X8 := Lib.hid (StoredAt.row hS X7.out (by omega)); have HB8 := Lib.hid (StoredAt.below hS HB7.out (by omega)); clear hE hS Y7 X7 HB7 a0 a1 b3)
      | (refine wp_loadEnt x X8.out rfl rfl rfl ?_)
      | (go_at_call 14; (with_reducible refine (HVX.out _).mono ?_); rintro e20 w20 ⟨rfl, hb⟩; have Y20 := Lib.hid (RowAt.keep Y8.out hb); have HB20 := Lib.hid (HB8.out.trans (hb.mono HB8.out.size)); clear hb Y8 X8 HB8 HVX)
      | (refine wp_loadEnt (y4 x) Y20.out rfl rfl rfl ?_)
      | (go_at_call 14; (with_reducible refine (HVY.out _).mono ?_); rintro e21 w21 ⟨rfl, hb⟩; have Y21 := Lib.hid (RowAt.keep Y20.out hb); have HB21 := Lib.hid (HB20.out.trans (hb.mono HB20.out.size)); clear hb Y20 HB20)
      | (refine wp_loadEnt (y4 x) Y21.out rfl rfl rfl ?_)
      | (go_at_call 15; (with_reducible refine (HRY.out _).mono ?_); rintro e22 w22 ⟨rfl, hb⟩; have HB22 := Lib.hid (HB21.out.trans (hb.mono HB21.out.size)); clear hb HB21))
    go_ret
    exact ⟨rfl, HB22.out⟩
  · rw [hk] at F0 F1 F2 F3
    have FV : validE (y4 x) = false := F4
    have HVY : Hid (Says 14 #[.agg (y4 x).arr] false) := Lib.hid fun w => by have := od.valid_any (y4 x) w FY; rwa [FV] at this
    have HRY : Hid (Says 15 #[.agg (y4 x).arr] false) := Lib.hid fun w => by have := refValid_any (y4 x) w FY; rwa [FV] at this
    have a1 := RowAt.cells X7.out 1 _ rfl
    have a0 := RowAt.cells X7.out 0 _ rfl
    have b3 := RowAt.cells Y7.out 3 _ rfl
    rw [hk] at a1
    clear F0 F1 F2 F3 F4 FV hk
    go_wp2_with (first
      | (refine wp_storeFieldW 3 (.int .i64 x.lsn) rfl rfl info_int1 Y7.out (show 3 < 13 by decide) rfl rfl rfl rfl ?_; intro w8 hE hS; have Y8 : Hid (EnAt w5.heap.size (y4 x) w8) := Lib.hid hE; have X8 := Lib.hid (StoredAt.row hS X7.out (by omega)); have HB8 := Lib.hid (StoredAt.below hS HB7.out (by omega)); clear hE hS Y7 X7 HB7 a0 a1 b3)
      | (refine wp_loadEnt x X8.out rfl rfl rfl ?_)
      | (go_at_call 14; (with_reducible refine (HVX.out _).mono ?_); rintro e20 w20 ⟨rfl, hb⟩; have Y20 := Lib.hid (RowAt.keep Y8.out hb); have HB20 := Lib.hid (HB8.out.trans (hb.mono HB8.out.size)); clear hb Y8 X8 HB8 HVX)
      | (refine wp_loadEnt (y4 x) Y20.out rfl rfl rfl ?_)
      | (go_at_call 14; (with_reducible refine (HVY.out _).mono ?_); rintro e21 w21 ⟨rfl, hb⟩; have Y21 := Lib.hid (RowAt.keep Y20.out hb); have HB21 := Lib.hid (HB20.out.trans (hb.mono HB20.out.size)); clear hb Y20 HB20)
      | (refine wp_loadEnt (y4 x) Y21.out rfl rfl rfl ?_)
      | (go_at_call 15; (with_reducible refine (HRY.out _).mono ?_); rintro e22 w22 ⟨rfl, hb⟩; have HB22 := Lib.hid (HB21.out.trans (hb.mono HB21.out.size)); clear hb HB21))
    go_ret
    exact ⟨rfl, HB22.out⟩
theorem fields_walk (so : Option Addr) (len cap : Nat) (f : Int) (w : World) (hf0 : 0 ≤ f) (hf1 : f ≤ 255) (hin : BytesIn so len w) (hl : len ≤ 9223372036854775807) (hc : len ≤ cap) :
    Calls Try.prog 7 #[.slice so len cap, .int .u8 f] w fun e w' => e = .returned (.bool true) ∧ Below w.heap.size w w' := by
  have h5 : f % 5 = 0 ∨ f % 5 = 1 ∨ f % 5 = 2 ∨ f % 5 = 3 ∨ f % 5 = 4 := by omega
  rcases h5 with h | h | h | h | h
  · exact fields_walk0 so len cap f w hf0 hf1 h hin hl hc
  · exact fields_walk1 so len cap f w hf0 hf1 h hin hl hc
  · exact fields_walk2 so len cap f w hf0 hf1 h hin hl hc
  · exact fields_walk3 so len cap f w hf0 hf1 h hin hl hc
  · exact fields_walk4 so len cap f w hf0 hf1 h hin hl hc
end Go.Proofs.Ytiojpfljnbdonaa.ou
