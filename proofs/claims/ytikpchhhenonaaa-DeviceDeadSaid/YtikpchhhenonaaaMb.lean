/- DeviceDead. -/
import Derived.Test.YtikpchhhenonaaaMa
namespace Go.Proofs.Ytikpchhhenonaaa.mb
open Go.ChangeShapes Go.WideShapes Go.ChangeAt Go.RowKit Go.Proofs.Ytikpchhhenonaaa.cx Go.Proofs.Ytikpchhhenonaaa.ra Go.Proofs.Ytikpchhhenonaaa.la Go.Proofs.Ytikpchhhenonaaa.lb Go.Proofs.Ytikpchhhenonaaa.lc Go.Proofs.Ytikpchhhenonaaa.ld Go.Proofs.Ytikpchhhenonaaa.le Go.Proofs.Ytikpchhhenonaaa.lf Go.Proofs.Ytikpchhhenonaaa.lg Go.Proofs.Ytikpchhhenonaaa.lh Go.Proofs.Ytikpchhhenonaaa.li Go.Proofs.Ytikpchhhenonaaa.lj Go.Proofs.Ytikpchhhenonaaa.lk Go.Proofs.Ytikpchhhenonaaa.ll Go.Proofs.Ytikpchhhenonaaa.lm Go.Proofs.Ytikpchhhenonaaa.ln Go.Proofs.Ytikpchhhenonaaa.lo Go.Proofs.Ytikpchhhenonaaa.lp Go.Proofs.Ytikpchhhenonaaa.lq Go.Proofs.Ytikpchhhenonaaa.lr Go.Proofs.Ytikpchhhenonaaa.ls Go.Proofs.Ytikpchhhenonaaa.lt Go.Proofs.Ytikpchhhenonaaa.lu Go.Proofs.Ytikpchhhenonaaa.lv Go.Proofs.Ytikpchhhenonaaa.lw Go.Proofs.Ytikpchhhenonaaa.lx Go.Proofs.Ytikpchhhenonaaa.ly Go.Proofs.Ytikpchhhenonaaa.lz Go.Proofs.Ytikpchhhenonaaa.ma
set_option linter.unusedSimpArgs false
section
variable {o : Oper} {a : Act} {w : World} {Q : Exit → Act → World → Prop}
theorem op_newDev {K : Act → World → Prop} (ho : o.op = .alloc 27)
    (h : ∀ W, RowAt w.heap.size dev0 W → Below w.heap.size w W → K (a.put o.dst (.pointer (some ⟨w.heap.size, 0, none⟩))) W) : o.wp Try.prog a w K Q := by
  have hn := h _ (RowAt.new dev0 w 27) ((Below.refl _ _).alloc (Nat.le_refl _) _)
  unfold Oper.wp execOp
  simp only [ho]
  simp [Instr.alloc, newVar, newRow, Value.cells]
  exact hn
theorem var_put {x : Nat} {vs : List Value} {d : Dev} {w w' : World} (hr : RowAt x vs w') (hs : StoredAt x w w') (hv : DevV vs d w) (ho : Off x vs) : VarAt x [] vs d w' :=
  ⟨hr, devV_stored hv hs ho, ho, fun y hy => by cases hy⟩
theorem varAt_sub {x : Nat} {Y Y' : List Nat} {vs : List Value} {d : Dev} {w : World} (h : VarAt x Y vs d w) (hy : ∀ y ∈ Y', y ∈ Y) : VarAt x Y' vs d w := ⟨h.row, h.dev, h.off, fun y h' => h.offs y (hy y h')⟩
end
def fD (n : Nat) : Flt := ⟨6, (n : Int), 0, 0, 0, 0⟩
def fL (n : Nat) : Flt := ⟨1, (n : Int) + 1, 0, 0, 0, 0⟩
/-- A device of which n is the write that kills it, behind i writes. -/
def dD (ps : List ByteArray) (i n : Nat) : Dev := if i < n then ⟨ps, (i : Int), [], false, [fD n, fL n]⟩ else ⟨ps, (n : Int), [], true, [fL n]⟩
theorem okSimple {d : Dev} {k a : Int} (hk : k = 1 ∨ k = 6) (h1 : d.writes < a) (h2 : a ≤ 1099511627776) (h3 : 1 ≤ d.pages.length) : okFault d ⟨k, a, 0, 0, 0, 0⟩ = true := by
  unfold okFault inR
  have e1 : decide (d.writes < (⟨k, a, 0, 0, 0, 0⟩ : Flt).at') = true := decide_eq_true h1
  have e0 : decide ((⟨k, a, 0, 0, 0, 0⟩ : Flt).at' ≤ 1099511627776) = true := decide_eq_true h2
  have e2 : decide (0 ≤ (⟨k, a, 0, 0, 0, 0⟩ : Flt).page ∧ (⟨k, a, 0, 0, 0, 0⟩ : Flt).page < (d.pages.length : Int)) = true := decide_eq_true ⟨Int.le_refl 0, by show (0 : Int) < _; omega⟩
  have e6 : okKind ⟨k, a, 0, 0, 0, 0⟩ = true := by
    unfold okKind
    rcases hk with rfl | rfl
    · rw [show usedF ⟨1, a, 0, 0, 0, 0⟩ = ⟨1, a, 0, 0, 0, 0⟩ from rfl, sameF_iff.2 rfl]; rfl
    · rw [show usedF ⟨6, a, 0, 0, 0, 0⟩ = ⟨6, a, 0, 0, 0, 0⟩ from rfl, sameF_iff.2 rfl]; rfl
  rw [e0, e1, e2, e6]
  rfl
theorem dd_valid {ps : List ByteArray} {i n : Nat} (hp : Pages 2 ps) (hn : n ≤ 6) : validD (dD ps i n) = true := by
  have hl : 1 ≤ ps.length ∧ ps.length ≤ 64 := by have := hp.1; omega
  unfold dD
  by_cases h : i < n
  · rw [if_pos h]
    refine is_valid ⟨hl, hp.2⟩ ⟨by show (0 : Int) ≤ (i : Int); omega, by show (i : Int) ≤ _; omega⟩ ⟨asc_nil, fun _ hx => by cases hx⟩ ⟨by show 2 ≤ 64; decide, fun f hf => ?_⟩
    have hf : f = fD n ∨ f = fL n := by simpa using hf
    rcases hf with rfl | rfl
    · exact okSimple (.inr rfl) (by show (i : Int) < (n : Int); omega) (by omega) hl.1
    · exact okSimple (.inl rfl) (by show (i : Int) < (n : Int) + 1; omega) (by omega) hl.1
  · rw [if_neg h]
    refine is_valid ⟨hl, hp.2⟩ ⟨by show (0 : Int) ≤ (n : Int); omega, by show (n : Int) ≤ _; omega⟩ ⟨asc_nil, fun _ hx => by cases hx⟩ ⟨by show 1 ≤ 64; decide, fun f hf => ?_⟩
    obtain rfl : f = fL n := by simpa using hf
    exact okSimple (.inl rfl) (by show (n : Int) < (n : Int) + 1; omega) (by omega) hl.1
theorem dd_fits {ps : List ByteArray} {i n : Nat} (hp : Pages 2 ps) : FitsD (dD ps i n) := by
  unfold dD
  by_cases h : i < n
  · rw [if_pos h]; exact fits_pages (m := 2) hp
  · rw [if_neg h]; exact fits_pages (m := 2) hp
theorem dd_write {ps : List ByteArray} {i n k : Nat} {s : ByteArray} (hp : Pages 2 ps) (hs : s.size = 256) (hk : k < 2) (hin : i < n) (hn : n ≤ 6) : writeE (dD ps i n) (k : Int) s = 0 ∧ writeD (dD ps i n) (k : Int) s = dD (ps.set k s) (i + 1) n := by
  have hv := dd_valid (i := i) hp hn
  unfold dD at hv ⊢
  rw [if_pos hin] at hv ⊢
  refine ⟨writeE_of hv rfl ⟨by omega, by show (k : Int) < (ps.length : Int); have := hp.1; omega⟩ hs (by show (i : Int) < _; omega), ?_⟩
  have e2 : ((n : Int) + 1 == (i : Int) + 1) = false := by simp; omega
  have e2' : ((n : Int) + 1 != (i : Int) + 1) = true := by simp; omega
  unfold writeD
  by_cases h : i + 1 < n
  · have e1 : ((n : Int) == (i : Int) + 1) = false := by simp; omega
    have e1' : ((n : Int) != (i : Int) + 1) = true := by simp; omega
    rw [if_pos h]
    simp only [countD, dueF, restF, fD, fL, List.filter, e1, e1', e2, e2', Bool.not_true, Bool.not_false, becomeF, carryD, owrD, List.foldl, Int.toNat_natCast, mixS_full hs]
    rfl
  · obtain rfl : n = i + 1 := by omega
    have e1 : (((i + 1 : Nat) : Int) == (i : Int) + 1) = true := by simp
    have e1' : (((i + 1 : Nat) : Int) != (i : Int) + 1) = false := by simp
    rw [if_neg h]
    simp only [countD, dueF, restF, fD, fL, List.filter, e1, e1', e2, e2', Bool.not_true, Bool.not_false, becomeF, carryD, owrD, List.foldl, Int.toNat_natCast, mixS_full hs]
    rfl
theorem d_inject1 {n : Nat} (h : 1 ≤ n ∧ n ≤ 6) : injectE (qDev (blanks 2) 0) (fD n) = 0 ∧ injectD (qDev (blanks 2) 0) (fD n) = ⟨blanks 2, 0, [], false, [fD n]⟩ := by
  have hE : injectE (qDev (blanks 2) 0) (fD n) = 0 := by
    unfold injectE
    rw [if_pos (q_valid (pages_blanks 2) (by decide) (by decide)), if_pos (show okFault (qDev (blanks 2) 0) (fD n) = true from okSimple (.inr rfl) (by show (0 : Int) < (n : Int); omega) (by omega) (by show 1 ≤ (blanks 2).length; decide))]
    rfl
  refine ⟨hE, ?_⟩
  unfold injectD
  rw [if_pos hE]
  rfl
theorem d_inject2 {n : Nat} (h : 1 ≤ n ∧ n ≤ 6) : injectE ⟨blanks 2, 0, [], false, [fD n]⟩ (fL n) = 0 ∧ injectD ⟨blanks 2, 0, [], false, [fD n]⟩ (fL n) = dD (blanks 2) 0 n := by
  have hE : injectE ⟨blanks 2, 0, [], false, [fD n]⟩ (fL n) = 0 := by
    unfold injectE
    rw [if_pos (is_valid ⟨by show 1 ≤ (blanks 2).length ∧ (blanks 2).length ≤ 64; decide, (pages_blanks 2).2⟩ ⟨by show (0 : Int) ≤ 0; decide, by show (0 : Int) ≤ _; decide⟩ ⟨asc_nil, fun _ hx => by cases hx⟩ ⟨by show 1 ≤ 64; decide, fun f hf => by
      obtain rfl : f = fD n := by simpa using hf
      exact okSimple (.inr rfl) (by show (0 : Int) < (n : Int); omega) (by omega) (by show 1 ≤ (blanks 2).length; decide)⟩), if_pos (show okFault ⟨blanks 2, 0, [], false, [fD n]⟩ (fL n) = true from okSimple (.inl rfl) (by show (0 : Int) < (n : Int) + 1; omega) (by omega) (by show 1 ≤ (blanks 2).length; decide))]
    rfl
  refine ⟨hE, ?_⟩
  unfold injectD dD
  rw [if_pos hE, if_pos (by omega)]
  rfl
theorem dd_dead {ps : List ByteArray} {n : Nat} {p : Int} (hp : Pages 2 ps) (hn : n ≤ 6) : accessE (dD ps n n) p = 10 := by
  have hv := dd_valid (i := n) hp hn
  unfold accessE
  rw [if_pos hv, if_pos (by unfold dD; rw [if_neg (Nat.lt_irrefl _)])]
theorem dead_read {d : Dev} {p : Int} (h : accessE d p = 10) : readE d p = 10 ∧ readS d p = ByteArray.empty := by
  have h1 : readE d p = 10 := by unfold readE; rw [h]; rfl
  exact ⟨h1, by unfold readS; rw [h1]; rfl⟩
theorem write_dead (vs : List Value) (d : Dev) (page : Int) (s : ByteArray) (ha : accessE d page = 10) (w : World) (h : DevV vs d w) (hf : FitsD d) :
    Calls Try.prog 20 #[.agg vs.toArray, .int .i64 page, .string s] w fun e w' => ∃ vs', e = .returned (.tuple #[.agg vs'.toArray, .int .i64 10]) ∧ DevV vs' (writeR d page s) w' ∧ Below w.heap.size w w' := by
  have hE : writeE d page s = 10 := by unfold writeE; rw [ha]; rfl
  have := write_any vs d page s w h hf
  rw [hE] at this
  exact this.mono fun e w' ⟨v, h1, h2, _, h4⟩ => ⟨v, h1, h2, h4⟩
theorem tear_dead (vs : List Value) (d : Dev) (page : Int) (s : ByteArray) (cut : Int) (ha : accessE d page = 10) (w : World) (h : DevV vs d w) (hf : FitsD d) :
    Calls Try.prog 27 #[.agg vs.toArray, .int .i64 page, .string s, .int .i64 cut] w fun e w' => ∃ vs', e = .returned (.tuple #[.agg vs'.toArray, .int .i64 10]) ∧ DevV vs' (tearD d page s cut) w' ∧ Below w.heap.size w w' := by
  have hE : tearE d page s cut = 10 := by unfold tearE; rw [ha]; rfl
  have := tear_any vs d page s cut w h hf
  rw [hE] at this
  exact this.mono fun e w' ⟨v, h1, h2, _, h4⟩ => ⟨v, h1, h2, h4⟩
theorem dd_repl {ps : List ByteArray} {n : Nat} (hp : Pages 2 ps) (hn : n ≤ 6) : validD (dD ps n n) = true ∧ (⟨blanks (dD ps n n).pages.length, (dD ps n n).writes, [], false, (dD ps n n).faults⟩ : Dev) = ⟨blanks 2, (n : Int), [], false, [fL n]⟩ := by
  refine ⟨dd_valid hp hn, ?_⟩
  unfold dD
  rw [if_neg (Nat.lt_irrefl _)]
  show (⟨blanks ps.length, _, _, _, _⟩ : Dev) = _
  rw [hp.1]
theorem replace_b (vs : List Value) (d d' : Dev) (hv : validD d = true) (hd : (⟨blanks d.pages.length, d.writes, [], false, d.faults⟩ : Dev) = d') (w : World) (h : DevV vs d w) (hf : FitsD d) :
    Calls Try.prog 29 #[.agg vs.toArray] w fun e w' => ∃ vs', e = .returned (.tuple #[.agg vs'.toArray, .int .i64 0]) ∧ DevV vs' d' w' ∧ (∀ b, b ≤ w.heap.size → Lo b vs') ∧ Below w.heap.size w w' := hd ▸ replace_ok vs d w h hf hv
theorem lost_write {n : Nat} {s : ByteArray} (hs : s.size = 256) (hn : 1 ≤ n ∧ n ≤ 6) : writeE ⟨blanks 2, (n : Int), [], false, [fL n]⟩ 1 s = 0 ∧ writeD ⟨blanks 2, (n : Int), [], false, [fL n]⟩ 1 s = qDev (blanks 2) ((n : Int) + 1) := by
  refine ⟨writeE_of (is_valid ⟨by show 1 ≤ (blanks 2).length ∧ (blanks 2).length ≤ 64; decide, (pages_blanks 2).2⟩ ⟨by show (0 : Int) ≤ (n : Int); omega, by show (n : Int) ≤ _; omega⟩ ⟨asc_nil, fun _ hx => by cases hx⟩ ⟨by show 1 ≤ 64; decide, fun f hf => by
      obtain rfl : f = fL n := by simpa using hf
      exact okSimple (.inl rfl) (by show (n : Int) < (n : Int) + 1; omega) (by omega) (by show 1 ≤ (blanks 2).length; decide)⟩) rfl ⟨by decide, by show (1 : Int) < ((blanks 2).length : Int); decide⟩ hs (by show (n : Int) < _; omega), ?_⟩
  have e2 : ((n : Int) + 1 == (n : Int) + 1) = true := by simp
  have e2' : ((n : Int) + 1 != (n : Int) + 1) = false := by simp
  unfold writeD
  simp only [countD, dueF, restF, fL, List.filter, e2, e2', Bool.not_true, Bool.not_false]
  rfl
set_option maxHeartbeats 8000000 in
set_option maxRecDepth 4000 in
theorem dead_walk (so : Option Addr) (len cap : Nat) (a : Int) (w : World) (ha0 : 0 ≤ a) (ha1 : a ≤ 255) (hin : BytesIn so len w) (hl : len ≤ 9223372036854775807) (hc : len ≤ cap) :
    Calls Try.prog 7 #[.slice so len cap, .int .u8 a] w fun e w' => e = .returned (.bool true) ∧ Below w.heap.size w w' := by
  have HIN := Lib.hid hin
  clear hin
  obtain ⟨n, hn, hn1⟩ : ∃ n : Nat, 1 + a % 6 = (n : Int) ∧ 1 ≤ n ∧ n ≤ 6 := ⟨(1 + a % 6).toNat, by omega, by omega⟩
  have HN := Lib.hid hn1
  go_enter Try.func7, Try.ntmps7
  go_upto_region 5 with (first
    | (go_at_call 9; refine (awake_any _).mono ?_; rintro e w1 ⟨rfl, hb⟩; have B1 := Lib.hid hb; clear hb)
    | (go_at_call 11; refine (new_most 100 100 rfl so len cap _ (bytesIn_below HIN.out B1.out) hl hc (by decide)).mono ?_; rintro e w2 ⟨rfl, hC, hb, hz⟩; obtain ⟨m0, hC2⟩ := codL_new hC; have C2 := Lib.hid hC2; have B2 := Lib.hid (B1.out.trans (hb.mono B1.out.size)); have K2 : Hid (w.heap.size ≤ w1.heap.size ∧ w1.heap.size < w2.heap.size) := Lib.hid ⟨B1.out.size, codL_lt hC2⟩; clear hC hC2 hb hz)
    | (go_at_call 13; refine (new_b 2 0 (qDev (blanks 2) 0) (newD_of 2 (by decide)).1 (newD_of 2 (by decide)).2 _).mono ?_; rintro e w3 ⟨v1, rfl, hV, hl2, hb⟩; have V3 := Lib.hid hV; have L3 := Lib.hid (hl2 _ (Nat.le_refl _)); have C3 := Lib.hid (codL_keep C2.out hb); have B3 := Lib.hid (B2.out.trans (hb.mono B2.out.size)); have K3 := Lib.hid (Nat.lt_of_lt_of_le K2.out.2 hb.size); clear hV hl2 hb C2)
    | (refine wp_newW dev0 _ zero_dev rfl rfl ?_; intro w4 hP hb _; have N4 := Lib.hid hP; have M4 := Lib.hid hb; have C4 := Lib.hid (codL_keep C3.out hb); have B4 := Lib.hid (B3.out.trans (hb.mono B3.out.size)); clear hP hb C3)
    | (refine wp_storeV V3.out N4.out rfl rfl rfl rfl rfl ?_; intro w5 hP hS; have X5 : Hid (VarAt w3.heap.size [w1.heap.size] v1 (qDev (blanks 2) 0) w5) := Lib.hid (var_new V3.out M4.out hP hS (fun y h => by (obtain rfl : y = w1.heap.size := by simpa using h); exact ⟨K3.out, off_lo L3.out K2.out.2⟩)); have C5 := Lib.hid (codL_stored C4.out hS K3.out); have B5 := Lib.hid (hS.below B4.out B3.out.size); have KD : Hid (w1.heap.size < w3.heap.size ∧ w.heap.size ≤ w3.heap.size) := Lib.hid ⟨K3.out, B3.out.size⟩; clear hP hS N4 M4 V3 C4 L3))
  generalize w3.heap.size = xd at *
  have hwc := Lib.hid K2.out.1
  generalize w1.heap.size = xc at *
  clear B1 B2 B3 B4 K2 K3
  go_cut [8] from 34 to 37 (fun s8 wx => s8 = .int .i64 (n : Int) ∧ VarAt xd [xc] v1 (qDev (blanks 2) 0) wx ∧ CodL xc m0 wx ∧ Below w.heap.size w wx)
  case first =>
    go_wp2_with fail
    go_meet
    exact ⟨by rw [← hn], X5.out, C5.out, B5.out⟩
  case rest =>
  obtain ⟨rfl, hX, hC, hB⟩ := hcut
  have X6 := Lib.hid hX
  have C6 := Lib.hid hC
  have B6 := Lib.hid hB
  have I1 := Lib.hid (d_inject1 HN.out)
  have I2 := Lib.hid (d_inject2 HN.out)
  have F6 : Hid (FitsD (qDev (blanks 2) 0) ∧ FitsD ⟨blanks 2, 0, [], false, [fD n]⟩) := Lib.hid ⟨fits_pages (m := 2) (pages_blanks 2), fits_pages (m := 2) (pages_blanks 2)⟩
  have bf := build_flt2
  have n0 : (0 : Int) ≤ (n : Int) := by omega
  have n6 : (n : Int) ≤ 6 := by have := HN.out; omega
  clear hX hC hB X5 C5 B5 hn hn1
  go_wp2_with (first
    | (refine wp_loadV _ X6.out.row X6.out.len rfl rfl rfl ?_)
    | (go_at_call 25; refine (inject_b _ _ _ (fD n) 0 I1.out.1 I1.out.2 _ X6.out.dev F6.out.1).mono ?_; rintro e w7 ⟨v7, rfl, hV, hl2, hb⟩; have V7 := Lib.hid hV; have L7 := Lib.hid (hl2 _ (Nat.le_refl _)); have X7 := Lib.hid (X6.out.keep hb); have C7 := Lib.hid (codL_keep C6.out hb); have B7 := Lib.hid (B6.out.trans (hb.mono B6.out.size)); have K7 := Lib.hid (And.intro X6.out.row.lt (codL_lt C6.out)); clear hV hl2 hb X6 C6 B6)
    | (refine wp_storeV V7.out X7.out.row X7.out.len rfl rfl rfl rfl ?_; intro w8 hP hS; have X8 := Lib.hid (var_set X7.out V7.out L7.out K7.out.1 (fun y h => by (obtain rfl : y = xc := by simpa using h); exact K7.out.2) hP hS); have C8 := Lib.hid (codL_stored C7.out hS KD.out.1); have B8 := Lib.hid (hS.below B7.out KD.out.2); clear hP hS X7 V7 C7 B7)
    | (refine wp_loadV _ X8.out.row X8.out.len rfl rfl rfl ?_)
    | (go_at_call 25; refine (inject_b _ _ _ (fL n) 0 I2.out.1 I2.out.2 _ X8.out.dev F6.out.2).mono ?_; rintro e w9 ⟨v9, rfl, hV, hl2, hb⟩; have V9 := Lib.hid hV; have L9 := Lib.hid (hl2 _ (Nat.le_refl _)); have X9 := Lib.hid (X8.out.keep hb); have C9 := Lib.hid (codL_keep C8.out hb); have B9 := Lib.hid (B8.out.trans (hb.mono B8.out.size)); have K9 := Lib.hid (And.intro X8.out.row.lt (codL_lt C8.out)); clear hV hl2 hb X8 C8 B8)
    | (refine wp_storeV V9.out X9.out.row X9.out.len rfl rfl rfl rfl ?_; intro wa hP hS; have XA := Lib.hid (var_set X9.out V9.out L9.out K9.out.1 (fun y h => by (obtain rfl : y = xc := by simpa using h); exact K9.out.2) hP hS); have CA := Lib.hid (codL_stored C9.out hS KD.out.1); have BA := Lib.hid (hS.below B9.out KD.out.2); clear hP hS X9 V9 C9 B9))
  go_loopw [11, 12, 13] (fun s11 _ _ wr => ∃ (i m : Nat) (ps : List ByteArray) (vs : List Value), i ≤ n ∧ s11 = .int .i64 (i : Int) ∧ Hid (Pages 2 ps) ∧ Hid (VarAt xd [xc] vs (dD ps i n) wr) ∧ Hid (CodL xc m wr) ∧ Hid (Below w.heap.size w wr)) (fun s11 _ _ _ => n - (intOf s11).toNat)
  case atStart => exact ⟨0, _, _, _, Nat.zero_le _, rfl, Lib.hid (pages_blanks 2), XA, CA, BA⟩
  case round =>
    clear XA CA BA
    obtain ⟨i, m, ps, vs, hi, rfl, HP, XR, CR, BR⟩ := hrel
    by_cases hil : i < n
    · have q1 : (i : Int) < (n : Int) := by omega
      have hin := Lib.hid hil
      have hn6 := Lib.hid HN.out.2
      go_upto_region 13 with fail
      go_cut [12, 13] from 63 to 88 (fun s12 s13 wx => ∃ (xx m : Nat) (ps' : List ByteArray) (v vs : List Value), s12 = .pointer (some ⟨xx, 0, none⟩) ∧ s13 = .int .i64 0 ∧ Pages 2 ps' ∧ VarAt xd [xc] vs (dD ps i n) wx ∧ VarAt xx [] v (dD ps' (i + 1) n) wx ∧ CodL xc m wx ∧ Below w.heap.size w wx ∧ Off xd v ∧ Off xc v)
      case first =>
        refine wp_region_held_drew (S := St [] w) (by kernel_rfl) (st_nil BR.out).drew (fun hHeld => ?_)
        have f13_1 := Lib.hid (XR.out.keep (Below.refl _ _).drew)
        have f13_2 := Lib.hid (codL_keep CR.out (Below.refl _ _).drew)
        refine wpAnyH_take (i := 1) (v := ?_) rfl (by kernel_rfl) (by kernel_rfl) (by kernel_rfl) (fun _ _ _ h => h) (Or.inl ⟨by rfl, ?_⟩) (by assumption) ?_
        rotate_left
        · (intro W _; go_simp; try with_reducible rfl)
        try simp only [Act.put, List.getElem_toArray, List.getElem_cons_zero, List.getElem_cons_succ, List.setIfInBounds_toArray, List.set_cons_zero, List.set_cons_succ]
        refine wpAnyH_take (i := 3) (v := ?_) rfl (by kernel_rfl) (by kernel_rfl) (by kernel_rfl) (fun _ _ _ h => h) (Or.inl ⟨by rfl, ?_⟩) (by assumption) ?_
        rotate_left
        · (intro W _; go_simp; try with_reducible rfl)
        try simp only [Act.put, List.getElem_toArray, List.getElem_cons_zero, List.getElem_cons_succ, List.setIfInBounds_toArray, List.set_cons_zero, List.set_cons_succ]
        refine wpAnyH_ready (rs := [0, 2, 9]) (by kernel_rfl) (by simp) (AllReadyH.cons rfl (fun K hK => ?_) (AllReadyH.cons rfl (fun K hK => ?_) (AllReadyH.cons rfl (fun K hK => ?_) AllReadyH.nil)))
        · simp only [List.getElem_toArray, List.getElem_cons_zero, List.getElem_cons_succ]
          rw [if_pos (by rfl)]
          with_reducible refine op_loadV _ f13_1.out.row f13_1.out.len (by rfl) ?_ ?_
          · rfl
          refine hK.out _ _ (hHeld) (fun hH13_4 => ?_)
          clear hK K
          try simp only [Act.put, List.getElem_toArray, List.getElem_cons_zero, List.getElem_cons_succ, List.setIfInBounds_toArray, List.set_cons_zero, List.set_cons_succ]
          refine wpAnyH_ready (rs := [2, 9]) (by kernel_rfl) (by simp) (AllReadyH.cons rfl (fun K hK => ?_) (AllReadyH.cons rfl (fun K hK => ?_) AllReadyH.nil))
          · go_simp
            go_wp2_with (go_at_call 17; (with_reducible refine (nextL_any xc _ 2 _ f13_2.out (by decide)).mono ?_); rintro e W13_5 ⟨r13_8, rfl, q13_9, q13_10, _, ⟨_, _, _, hC13_11⟩, hg13_7⟩)
            obtain ⟨k13_12, rfl⟩ := Int.eq_ofNat_of_zero_le q13_9
            have f13_13 : Hid (k13_12 < 2) := Lib.hid (by have := q13_10 (by decide); omega)
            clear q13_9 q13_10
            have f13_14 := Lib.hid (f13_1.out.grown hg13_7 (fun k e => by injection e with e; subst e; simp))
            have f13_15 := Lib.hid hC13_11
            refine hK.out _ _ (hH13_4.grown hg13_7 (fun _ hx => by cases hx) (fun k e => by injection e with e; subst e; exact hwc.out)) (fun hH13_6 => ?_)
            clear hK K
            try simp only [Act.put, List.getElem_toArray, List.getElem_cons_zero, List.getElem_cons_succ, List.setIfInBounds_toArray, List.set_cons_zero, List.set_cons_succ]
            refine wpAnyH_ready (rs := [4, 9]) (by kernel_rfl) (by simp) (AllReadyH.cons rfl (fun K hK => ?_) (AllReadyH.cons rfl (fun K hK => ?_) AllReadyH.nil))
            · go_simp
              go_wp2_with (go_at_call 18; (with_reducible refine (bytes_any xc _ _ f13_15.out).mono ?_); rintro e W13_16 ⟨x13_19, rfl, hx13_20, ⟨_, _, hC13_21⟩, hg13_18⟩)
              have f13_22 := Lib.hid (f13_14.out.grown hg13_18 (fun k e => by injection e with e; subst e; simp))
              have f13_23 := Lib.hid hC13_21
              have f13_24 := Lib.hid hx13_20
              refine hK.out _ _ (hH13_6.grown hg13_18 (fun _ hx => by cases hx) (fun k e => by injection e with e; subst e; exact hwc.out)) (fun hH13_17 => ?_)
              clear hK K
              try simp only [Act.put, List.getElem_toArray, List.getElem_cons_zero, List.getElem_cons_succ, List.setIfInBounds_toArray, List.set_cons_zero, List.set_cons_succ]
              refine wpAnyH_ready (rs := [5, 9]) (by kernel_rfl) (by simp) (AllReadyH.cons rfl (fun K hK => ?_) (AllReadyH.cons rfl (fun K hK => ?_) AllReadyH.nil))
              · go_simp
                go_wp2_with (go_at_call 20; (with_reducible refine (write_b _ _ (dD (ps.set k13_12 x13_19) (i + 1) n) (k13_12 : Int) x13_19 (dd_write HP.out f13_24.out f13_13.out hin.out hn6.out).1 (dd_write HP.out f13_24.out f13_13.out hin.out hn6.out).2 _ f13_22.out.dev (dd_fits HP.out)).mono ?_); rintro e W13_25 ⟨v13_30, rfl, hV13_28, hL13_29, hb13_27⟩)
                have f13_31 := Lib.hid (And.intro f13_22.out.row.lt (codL_lt f13_23.out))
                have f13_32 := Lib.hid (hL13_29 _ (Nat.le_refl _))
                have f13_34 := Lib.hid (f13_22.out.keep hb13_27)
                have f13_35 := Lib.hid (codL_keep f13_23.out hb13_27)
                have f13_33 := Lib.hid hV13_28
                refine hK.out _ _ (hH13_17.keep hb13_27) (fun hH13_26 => ?_)
                clear hK K
                try simp only [Act.put, List.getElem_toArray, List.getElem_cons_zero, List.getElem_cons_succ, List.setIfInBounds_toArray, List.set_cons_zero, List.set_cons_succ]
                refine wpAnyH_take (i := 6) (v := ?_) rfl (by kernel_rfl) (by kernel_rfl) (by kernel_rfl) (fun _ _ _ h => h) (Or.inl ⟨by rfl, ?_⟩) (by assumption) ?_
                rotate_left
                · (intro W _; go_simp; try with_reducible rfl)
                try simp only [Act.put, List.getElem_toArray, List.getElem_cons_zero, List.getElem_cons_succ, List.setIfInBounds_toArray, List.set_cons_zero, List.set_cons_succ]
                refine wpAnyH_take (i := 7) (v := ?_) rfl (by kernel_rfl) (by kernel_rfl) (by kernel_rfl) (fun _ _ _ h => h) (Or.inl ⟨by rfl, ?_⟩) (by assumption) ?_
                rotate_left
                · (intro W _; go_simp; try with_reducible rfl)
                try simp only [Act.put, List.getElem_toArray, List.getElem_cons_zero, List.getElem_cons_succ, List.setIfInBounds_toArray, List.set_cons_zero, List.set_cons_succ]
                refine wpAnyH_take (i := 8) (v := ?_) rfl (by kernel_rfl) (by kernel_rfl) (by kernel_rfl) (fun _ _ _ h => h) (Or.inl ⟨by rfl, ?_⟩) (by assumption) ?_
                rotate_left
                · (intro W _; go_simp; try with_reducible rfl)
                try simp only [Act.put, List.getElem_toArray, List.getElem_cons_zero, List.getElem_cons_succ, List.setIfInBounds_toArray, List.set_cons_zero, List.set_cons_succ]
                refine wpAnyH_ready (rs := [9]) (by kernel_rfl) (by simp) (AllReadyH.cons rfl (fun K hK => ?_) AllReadyH.nil)
                · have f13_40 := Lib.hid (codL_lt f13_35.out)
                  have f13_41 := Lib.hid hH13_26.2.size
                  have f13_44 := Lib.hid (off_new f13_33.out (Nat.le_refl _))
                  have f13_43 := Lib.hid (varAt_more f13_34.out (Nat.le_refl _))
                  simp only [List.getElem_toArray, List.getElem_cons_zero, List.getElem_cons_succ]
                  rw [if_pos (by rfl)]
                  with_reducible refine op_newDev (by rfl) (fun W13_36 hP13_38 hb13_39 => ?_)
                  have f13_45 := Lib.hid (f13_43.out.keep hb13_39)
                  have f13_46 := Lib.hid (codL_keep f13_35.out hb13_39)
                  have f13_47 := Lib.hid (f13_33.out.keep hb13_39)
                  have f13_42 := Lib.hid hP13_38
                  refine hK.out _ _ (hH13_26.keep hb13_39) (fun hH13_37 => ?_)
                  clear hK K
                  try simp only [Act.put, List.getElem_toArray, List.getElem_cons_zero, List.getElem_cons_succ, List.setIfInBounds_toArray, List.set_cons_zero, List.set_cons_succ]
                  refine wpAnyH_ready (rs := [10]) (by kernel_rfl) (by simp) (AllReadyH.cons rfl (fun K hK => ?_) AllReadyH.nil)
                  · simp only [List.getElem_toArray, List.getElem_cons_zero, List.getElem_cons_succ]
                    rw [if_pos (by rfl)]
                    have hd0 : dev0.length = 5 := rfl
                    with_reducible refine op_storeV f13_47.out f13_42.out hd0 (by rfl) ?_ ?_ (fun W13_48 hP13_50 hS13_51 => ?_)
                    · rfl
                    · rfl
                    have f13_52 := Lib.hid (var_put hP13_50 hS13_51 f13_47.out f13_44.out)
                    have f13_54 := Lib.hid (f13_45.out.stored hS13_51 (by simp))
                    have f13_53 := Lib.hid (codL_stored f13_46.out hS13_51 f13_40.out)
                    refine hK.out _ _ (hH13_37.stored (fun _ hx => by cases hx) f13_41.out hS13_51) (fun hH13_49 => ?_)
                    clear hK K
                    try simp only [Act.put, List.getElem_toArray, List.getElem_cons_zero, List.getElem_cons_succ, List.setIfInBounds_toArray, List.set_cons_zero, List.set_cons_succ]
                    refine wpAnyH_take (i := 11) (v := ?_) rfl (by kernel_rfl) (by kernel_rfl) (by kernel_rfl) (fun _ _ _ h => h) (Or.inl ⟨by rfl, ?_⟩) (by assumption) ?_
                    rotate_left
                    · (intro W _; go_simp; try with_reducible rfl)
                    try simp only [Act.put, List.getElem_toArray, List.getElem_cons_zero, List.getElem_cons_succ, List.setIfInBounds_toArray, List.set_cons_zero, List.set_cons_succ]
                    refine wpAnyH_done (by kernel_rfl) ?_ _
                    go_wp2_with fail
                    go_meet
                    exact ⟨_, _, _, _, _, rfl, rfl, pages_set HP.out f13_24.out, varAt_sub f13_54.out (by simp), f13_52.out, f13_53.out, hH13_49.2, off_lo f13_32.out f13_31.out.1, off_lo f13_32.out f13_31.out.2⟩
              · have f13_59 := Lib.hid (codL_lt f13_23.out)
                have f13_60 := Lib.hid hH13_17.2.size
                have f13_62 := Lib.hid (varAt_more f13_22.out (Nat.le_refl _))
                simp only [List.getElem_toArray, List.getElem_cons_zero, List.getElem_cons_succ]
                rw [if_pos (by rfl)]
                with_reducible refine op_newDev (by rfl) (fun W13_55 hP13_57 hb13_58 => ?_)
                have f13_63 := Lib.hid (f13_62.out.keep hb13_58)
                have f13_64 := Lib.hid (codL_keep f13_23.out hb13_58)
                have f13_61 := Lib.hid hP13_57
                refine hK.out _ _ (hH13_17.keep hb13_58) (fun hH13_56 => ?_)
                clear hK K
                try simp only [Act.put, List.getElem_toArray, List.getElem_cons_zero, List.getElem_cons_succ, List.setIfInBounds_toArray, List.set_cons_zero, List.set_cons_succ]
                refine wpAnyH_ready (rs := [5]) (by kernel_rfl) (by simp) (AllReadyH.cons rfl (fun K hK => ?_) AllReadyH.nil)
                · go_simp
                  go_wp2_with (go_at_call 20; (with_reducible refine (write_b _ _ (dD (ps.set k13_12 x13_19) (i + 1) n) (k13_12 : Int) x13_19 (dd_write HP.out f13_24.out f13_13.out hin.out hn6.out).1 (dd_write HP.out f13_24.out f13_13.out hin.out hn6.out).2 _ f13_63.out.dev (dd_fits HP.out)).mono ?_); rintro e W13_65 ⟨v13_70, rfl, hV13_68, hL13_69, hb13_67⟩)
                  have f13_71 := Lib.hid (And.intro f13_63.out.row.lt (codL_lt f13_64.out))
                  have f13_72 := Lib.hid (hL13_69 _ (Nat.le_refl _))
                  have f13_74 := Lib.hid (off_lo f13_72.out f13_61.out.lt)
                  have f13_75 := Lib.hid (f13_63.out.keep hb13_67)
                  have f13_76 := Lib.hid (codL_keep f13_64.out hb13_67)
                  have f13_77 := Lib.hid (RowAt.keep f13_61.out hb13_67)
                  have f13_73 := Lib.hid hV13_68
                  refine hK.out _ _ (hH13_56.keep hb13_67) (fun hH13_66 => ?_)
                  clear hK K
                  try simp only [Act.put, List.getElem_toArray, List.getElem_cons_zero, List.getElem_cons_succ, List.setIfInBounds_toArray, List.set_cons_zero, List.set_cons_succ]
                  refine wpAnyH_take (i := 6) (v := ?_) rfl (by kernel_rfl) (by kernel_rfl) (by kernel_rfl) (fun _ _ _ h => h) (Or.inl ⟨by rfl, ?_⟩) (by assumption) ?_
                  rotate_left
                  · (intro W _; go_simp; try with_reducible rfl)
                  try simp only [Act.put, List.getElem_toArray, List.getElem_cons_zero, List.getElem_cons_succ, List.setIfInBounds_toArray, List.set_cons_zero, List.set_cons_succ]
                  refine wpAnyH_take (i := 7) (v := ?_) rfl (by kernel_rfl) (by kernel_rfl) (by kernel_rfl) (fun _ _ _ h => h) (Or.inl ⟨by rfl, ?_⟩) (by assumption) ?_
                  rotate_left
                  · (intro W _; go_simp; try with_reducible rfl)
                  try simp only [Act.put, List.getElem_toArray, List.getElem_cons_zero, List.getElem_cons_succ, List.setIfInBounds_toArray, List.set_cons_zero, List.set_cons_succ]
                  refine wpAnyH_take (i := 8) (v := ?_) rfl (by kernel_rfl) (by kernel_rfl) (by kernel_rfl) (fun _ _ _ h => h) (Or.inl ⟨by rfl, ?_⟩) (by assumption) ?_
                  rotate_left
                  · (intro W _; go_simp; try with_reducible rfl)
                  try simp only [Act.put, List.getElem_toArray, List.getElem_cons_zero, List.getElem_cons_succ, List.setIfInBounds_toArray, List.set_cons_zero, List.set_cons_succ]
                  refine wpAnyH_ready (rs := [10]) (by kernel_rfl) (by simp) (AllReadyH.cons rfl (fun K hK => ?_) AllReadyH.nil)
                  · simp only [List.getElem_toArray, List.getElem_cons_zero, List.getElem_cons_succ]
                    rw [if_pos (by rfl)]
                    have hd0 : dev0.length = 5 := rfl
                    with_reducible refine op_storeV f13_73.out f13_77.out hd0 (by rfl) ?_ ?_ (fun W13_78 hP13_80 hS13_81 => ?_)
                    · rfl
                    · rfl
                    have f13_82 := Lib.hid (var_put hP13_80 hS13_81 f13_73.out f13_74.out)
                    have f13_84 := Lib.hid (f13_75.out.stored hS13_81 (by simp))
                    have f13_83 := Lib.hid (codL_stored f13_76.out hS13_81 f13_59.out)
                    refine hK.out _ _ (hH13_66.stored (fun _ hx => by cases hx) f13_60.out hS13_81) (fun hH13_79 => ?_)
                    clear hK K
                    try simp only [Act.put, List.getElem_toArray, List.getElem_cons_zero, List.getElem_cons_succ, List.setIfInBounds_toArray, List.set_cons_zero, List.set_cons_succ]
                    refine wpAnyH_take (i := 11) (v := ?_) rfl (by kernel_rfl) (by kernel_rfl) (by kernel_rfl) (fun _ _ _ h => h) (Or.inl ⟨by rfl, ?_⟩) (by assumption) ?_
                    rotate_left
                    · (intro W _; go_simp; try with_reducible rfl)
                    try simp only [Act.put, List.getElem_toArray, List.getElem_cons_zero, List.getElem_cons_succ, List.setIfInBounds_toArray, List.set_cons_zero, List.set_cons_succ]
                    refine wpAnyH_done (by kernel_rfl) ?_ _
                    go_wp2_with fail
                    go_meet
                    exact ⟨_, _, _, _, _, rfl, rfl, pages_set HP.out f13_24.out, varAt_sub f13_84.out (by simp), f13_82.out, f13_83.out, hH13_79.2, off_lo f13_72.out f13_71.out.1, off_lo f13_72.out f13_71.out.2⟩
            · have f13_89 := Lib.hid (codL_lt f13_15.out)
              have f13_90 := Lib.hid hH13_6.2.size
              have f13_92 := Lib.hid (varAt_more f13_14.out (Nat.le_refl _))
              simp only [List.getElem_toArray, List.getElem_cons_zero, List.getElem_cons_succ]
              rw [if_pos (by rfl)]
              with_reducible refine op_newDev (by rfl) (fun W13_85 hP13_87 hb13_88 => ?_)
              have f13_93 := Lib.hid (f13_92.out.keep hb13_88)
              have f13_94 := Lib.hid (codL_keep f13_15.out hb13_88)
              have f13_91 := Lib.hid hP13_87
              refine hK.out _ _ (hH13_6.keep hb13_88) (fun hH13_86 => ?_)
              clear hK K
              try simp only [Act.put, List.getElem_toArray, List.getElem_cons_zero, List.getElem_cons_succ, List.setIfInBounds_toArray, List.set_cons_zero, List.set_cons_succ]
              refine wpAnyH_ready (rs := [4]) (by kernel_rfl) (by simp) (AllReadyH.cons rfl (fun K hK => ?_) AllReadyH.nil)
              · go_simp
                go_wp2_with (go_at_call 18; (with_reducible refine (bytes_any xc _ _ f13_94.out).mono ?_); rintro e W13_95 ⟨x13_98, rfl, hx13_99, ⟨_, _, hC13_100⟩, hg13_97⟩)
                have f13_101 := Lib.hid (f13_93.out.grown hg13_97 (fun k e => by injection e with e; subst e; simp))
                have f13_102 := Lib.hid (RowAt.grown f13_91.out hg13_97 (fun e => by injection e with e; exact Nat.ne_of_lt f13_89.out e))
                have f13_103 := Lib.hid hC13_100
                have f13_104 := Lib.hid hx13_99
                refine hK.out _ _ (hH13_86.grown hg13_97 (fun _ hx => by cases hx) (fun k e => by injection e with e; subst e; exact hwc.out)) (fun hH13_96 => ?_)
                clear hK K
                try simp only [Act.put, List.getElem_toArray, List.getElem_cons_zero, List.getElem_cons_succ, List.setIfInBounds_toArray, List.set_cons_zero, List.set_cons_succ]
                refine wpAnyH_ready (rs := [5]) (by kernel_rfl) (by simp) (AllReadyH.cons rfl (fun K hK => ?_) AllReadyH.nil)
                · go_simp
                  go_wp2_with (go_at_call 20; (with_reducible refine (write_b _ _ (dD (ps.set k13_12 x13_98) (i + 1) n) (k13_12 : Int) x13_98 (dd_write HP.out f13_104.out f13_13.out hin.out hn6.out).1 (dd_write HP.out f13_104.out f13_13.out hin.out hn6.out).2 _ f13_101.out.dev (dd_fits HP.out)).mono ?_); rintro e W13_105 ⟨v13_110, rfl, hV13_108, hL13_109, hb13_107⟩)
                  have f13_111 := Lib.hid (And.intro f13_101.out.row.lt (codL_lt f13_103.out))
                  have f13_112 := Lib.hid (hL13_109 _ (Nat.le_refl _))
                  have f13_114 := Lib.hid (off_lo f13_112.out f13_102.out.lt)
                  have f13_115 := Lib.hid (f13_101.out.keep hb13_107)
                  have f13_116 := Lib.hid (codL_keep f13_103.out hb13_107)
                  have f13_117 := Lib.hid (RowAt.keep f13_102.out hb13_107)
                  have f13_113 := Lib.hid hV13_108
                  refine hK.out _ _ (hH13_96.keep hb13_107) (fun hH13_106 => ?_)
                  clear hK K
                  try simp only [Act.put, List.getElem_toArray, List.getElem_cons_zero, List.getElem_cons_succ, List.setIfInBounds_toArray, List.set_cons_zero, List.set_cons_succ]
                  refine wpAnyH_take (i := 6) (v := ?_) rfl (by kernel_rfl) (by kernel_rfl) (by kernel_rfl) (fun _ _ _ h => h) (Or.inl ⟨by rfl, ?_⟩) (by assumption) ?_
                  rotate_left
                  · (intro W _; go_simp; try with_reducible rfl)
                  try simp only [Act.put, List.getElem_toArray, List.getElem_cons_zero, List.getElem_cons_succ, List.setIfInBounds_toArray, List.set_cons_zero, List.set_cons_succ]
                  refine wpAnyH_take (i := 7) (v := ?_) rfl (by kernel_rfl) (by kernel_rfl) (by kernel_rfl) (fun _ _ _ h => h) (Or.inl ⟨by rfl, ?_⟩) (by assumption) ?_
                  rotate_left
                  · (intro W _; go_simp; try with_reducible rfl)
                  try simp only [Act.put, List.getElem_toArray, List.getElem_cons_zero, List.getElem_cons_succ, List.setIfInBounds_toArray, List.set_cons_zero, List.set_cons_succ]
                  refine wpAnyH_take (i := 8) (v := ?_) rfl (by kernel_rfl) (by kernel_rfl) (by kernel_rfl) (fun _ _ _ h => h) (Or.inl ⟨by rfl, ?_⟩) (by assumption) ?_
                  rotate_left
                  · (intro W _; go_simp; try with_reducible rfl)
                  try simp only [Act.put, List.getElem_toArray, List.getElem_cons_zero, List.getElem_cons_succ, List.setIfInBounds_toArray, List.set_cons_zero, List.set_cons_succ]
                  refine wpAnyH_ready (rs := [10]) (by kernel_rfl) (by simp) (AllReadyH.cons rfl (fun K hK => ?_) AllReadyH.nil)
                  · simp only [List.getElem_toArray, List.getElem_cons_zero, List.getElem_cons_succ]
                    rw [if_pos (by rfl)]
                    have hd0 : dev0.length = 5 := rfl
                    with_reducible refine op_storeV f13_113.out f13_117.out hd0 (by rfl) ?_ ?_ (fun W13_118 hP13_120 hS13_121 => ?_)
                    · rfl
                    · rfl
                    have f13_122 := Lib.hid (var_put hP13_120 hS13_121 f13_113.out f13_114.out)
                    have f13_124 := Lib.hid (f13_115.out.stored hS13_121 (by simp))
                    have f13_123 := Lib.hid (codL_stored f13_116.out hS13_121 f13_89.out)
                    refine hK.out _ _ (hH13_106.stored (fun _ hx => by cases hx) f13_90.out hS13_121) (fun hH13_119 => ?_)
                    clear hK K
                    try simp only [Act.put, List.getElem_toArray, List.getElem_cons_zero, List.getElem_cons_succ, List.setIfInBounds_toArray, List.set_cons_zero, List.set_cons_succ]
                    refine wpAnyH_take (i := 11) (v := ?_) rfl (by kernel_rfl) (by kernel_rfl) (by kernel_rfl) (fun _ _ _ h => h) (Or.inl ⟨by rfl, ?_⟩) (by assumption) ?_
                    rotate_left
                    · (intro W _; go_simp; try with_reducible rfl)
                    try simp only [Act.put, List.getElem_toArray, List.getElem_cons_zero, List.getElem_cons_succ, List.setIfInBounds_toArray, List.set_cons_zero, List.set_cons_succ]
                    refine wpAnyH_done (by kernel_rfl) ?_ _
                    go_wp2_with fail
                    go_meet
                    exact ⟨_, _, _, _, _, rfl, rfl, pages_set HP.out f13_104.out, varAt_sub f13_124.out (by simp), f13_122.out, f13_123.out, hH13_119.2, off_lo f13_112.out f13_111.out.1, off_lo f13_112.out f13_111.out.2⟩
          · have f13_129 := Lib.hid (codL_lt f13_2.out)
            have f13_130 := Lib.hid hH13_4.2.size
            have f13_132 := Lib.hid (varAt_more f13_1.out (Nat.le_refl _))
            simp only [List.getElem_toArray, List.getElem_cons_zero, List.getElem_cons_succ]
            rw [if_pos (by rfl)]
            with_reducible refine op_newDev (by rfl) (fun W13_125 hP13_127 hb13_128 => ?_)
            have f13_133 := Lib.hid (f13_132.out.keep hb13_128)
            have f13_134 := Lib.hid (codL_keep f13_2.out hb13_128)
            have f13_131 := Lib.hid hP13_127
            refine hK.out _ _ (hH13_4.keep hb13_128) (fun hH13_126 => ?_)
            clear hK K
            try simp only [Act.put, List.getElem_toArray, List.getElem_cons_zero, List.getElem_cons_succ, List.setIfInBounds_toArray, List.set_cons_zero, List.set_cons_succ]
            refine wpAnyH_ready (rs := [2]) (by kernel_rfl) (by simp) (AllReadyH.cons rfl (fun K hK => ?_) AllReadyH.nil)
            · go_simp
              go_wp2_with (go_at_call 17; (with_reducible refine (nextL_any xc _ 2 _ f13_134.out (by decide)).mono ?_); rintro e W13_135 ⟨r13_138, rfl, q13_139, q13_140, _, ⟨_, _, _, hC13_141⟩, hg13_137⟩)
              obtain ⟨k13_142, rfl⟩ := Int.eq_ofNat_of_zero_le q13_139
              have f13_143 : Hid (k13_142 < 2) := Lib.hid (by have := q13_140 (by decide); omega)
              clear q13_139 q13_140
              have f13_144 := Lib.hid (f13_133.out.grown hg13_137 (fun k e => by injection e with e; subst e; simp))
              have f13_145 := Lib.hid (RowAt.grown f13_131.out hg13_137 (fun e => by injection e with e; exact Nat.ne_of_lt f13_129.out e))
              have f13_146 := Lib.hid hC13_141
              refine hK.out _ _ (hH13_126.grown hg13_137 (fun _ hx => by cases hx) (fun k e => by injection e with e; subst e; exact hwc.out)) (fun hH13_136 => ?_)
              clear hK K
              try simp only [Act.put, List.getElem_toArray, List.getElem_cons_zero, List.getElem_cons_succ, List.setIfInBounds_toArray, List.set_cons_zero, List.set_cons_succ]
              refine wpAnyH_ready (rs := [4]) (by kernel_rfl) (by simp) (AllReadyH.cons rfl (fun K hK => ?_) AllReadyH.nil)
              · go_simp
                go_wp2_with (go_at_call 18; (with_reducible refine (bytes_any xc _ _ f13_146.out).mono ?_); rintro e W13_147 ⟨x13_150, rfl, hx13_151, ⟨_, _, hC13_152⟩, hg13_149⟩)
                have f13_153 := Lib.hid (f13_144.out.grown hg13_149 (fun k e => by injection e with e; subst e; simp))
                have f13_154 := Lib.hid (RowAt.grown f13_145.out hg13_149 (fun e => by injection e with e; exact Nat.ne_of_lt f13_129.out e))
                have f13_155 := Lib.hid hC13_152
                have f13_156 := Lib.hid hx13_151
                refine hK.out _ _ (hH13_136.grown hg13_149 (fun _ hx => by cases hx) (fun k e => by injection e with e; subst e; exact hwc.out)) (fun hH13_148 => ?_)
                clear hK K
                try simp only [Act.put, List.getElem_toArray, List.getElem_cons_zero, List.getElem_cons_succ, List.setIfInBounds_toArray, List.set_cons_zero, List.set_cons_succ]
                refine wpAnyH_ready (rs := [5]) (by kernel_rfl) (by simp) (AllReadyH.cons rfl (fun K hK => ?_) AllReadyH.nil)
                · go_simp
                  go_wp2_with (go_at_call 20; (with_reducible refine (write_b _ _ (dD (ps.set k13_142 x13_150) (i + 1) n) (k13_142 : Int) x13_150 (dd_write HP.out f13_156.out f13_143.out hin.out hn6.out).1 (dd_write HP.out f13_156.out f13_143.out hin.out hn6.out).2 _ f13_153.out.dev (dd_fits HP.out)).mono ?_); rintro e W13_157 ⟨v13_162, rfl, hV13_160, hL13_161, hb13_159⟩)
                  have f13_163 := Lib.hid (And.intro f13_153.out.row.lt (codL_lt f13_155.out))
                  have f13_164 := Lib.hid (hL13_161 _ (Nat.le_refl _))
                  have f13_166 := Lib.hid (off_lo f13_164.out f13_154.out.lt)
                  have f13_167 := Lib.hid (f13_153.out.keep hb13_159)
                  have f13_168 := Lib.hid (codL_keep f13_155.out hb13_159)
                  have f13_169 := Lib.hid (RowAt.keep f13_154.out hb13_159)
                  have f13_165 := Lib.hid hV13_160
                  refine hK.out _ _ (hH13_148.keep hb13_159) (fun hH13_158 => ?_)
                  clear hK K
                  try simp only [Act.put, List.getElem_toArray, List.getElem_cons_zero, List.getElem_cons_succ, List.setIfInBounds_toArray, List.set_cons_zero, List.set_cons_succ]
                  refine wpAnyH_take (i := 6) (v := ?_) rfl (by kernel_rfl) (by kernel_rfl) (by kernel_rfl) (fun _ _ _ h => h) (Or.inl ⟨by rfl, ?_⟩) (by assumption) ?_
                  rotate_left
                  · (intro W _; go_simp; try with_reducible rfl)
                  try simp only [Act.put, List.getElem_toArray, List.getElem_cons_zero, List.getElem_cons_succ, List.setIfInBounds_toArray, List.set_cons_zero, List.set_cons_succ]
                  refine wpAnyH_take (i := 7) (v := ?_) rfl (by kernel_rfl) (by kernel_rfl) (by kernel_rfl) (fun _ _ _ h => h) (Or.inl ⟨by rfl, ?_⟩) (by assumption) ?_
                  rotate_left
                  · (intro W _; go_simp; try with_reducible rfl)
                  try simp only [Act.put, List.getElem_toArray, List.getElem_cons_zero, List.getElem_cons_succ, List.setIfInBounds_toArray, List.set_cons_zero, List.set_cons_succ]
                  refine wpAnyH_take (i := 8) (v := ?_) rfl (by kernel_rfl) (by kernel_rfl) (by kernel_rfl) (fun _ _ _ h => h) (Or.inl ⟨by rfl, ?_⟩) (by assumption) ?_
                  rotate_left
                  · (intro W _; go_simp; try with_reducible rfl)
                  try simp only [Act.put, List.getElem_toArray, List.getElem_cons_zero, List.getElem_cons_succ, List.setIfInBounds_toArray, List.set_cons_zero, List.set_cons_succ]
                  refine wpAnyH_ready (rs := [10]) (by kernel_rfl) (by simp) (AllReadyH.cons rfl (fun K hK => ?_) AllReadyH.nil)
                  · simp only [List.getElem_toArray, List.getElem_cons_zero, List.getElem_cons_succ]
                    rw [if_pos (by rfl)]
                    have hd0 : dev0.length = 5 := rfl
                    with_reducible refine op_storeV f13_165.out f13_169.out hd0 (by rfl) ?_ ?_ (fun W13_170 hP13_172 hS13_173 => ?_)
                    · rfl
                    · rfl
                    have f13_174 := Lib.hid (var_put hP13_172 hS13_173 f13_165.out f13_166.out)
                    have f13_176 := Lib.hid (f13_167.out.stored hS13_173 (by simp))
                    have f13_175 := Lib.hid (codL_stored f13_168.out hS13_173 f13_129.out)
                    refine hK.out _ _ (hH13_158.stored (fun _ hx => by cases hx) f13_130.out hS13_173) (fun hH13_171 => ?_)
                    clear hK K
                    try simp only [Act.put, List.getElem_toArray, List.getElem_cons_zero, List.getElem_cons_succ, List.setIfInBounds_toArray, List.set_cons_zero, List.set_cons_succ]
                    refine wpAnyH_take (i := 11) (v := ?_) rfl (by kernel_rfl) (by kernel_rfl) (by kernel_rfl) (fun _ _ _ h => h) (Or.inl ⟨by rfl, ?_⟩) (by assumption) ?_
                    rotate_left
                    · (intro W _; go_simp; try with_reducible rfl)
                    try simp only [Act.put, List.getElem_toArray, List.getElem_cons_zero, List.getElem_cons_succ, List.setIfInBounds_toArray, List.set_cons_zero, List.set_cons_succ]
                    refine wpAnyH_done (by kernel_rfl) ?_ _
                    go_wp2_with fail
                    go_meet
                    exact ⟨_, _, _, _, _, rfl, rfl, pages_set HP.out f13_156.out, varAt_sub f13_176.out (by simp), f13_174.out, f13_175.out, hH13_171.2, off_lo f13_164.out f13_163.out.1, off_lo f13_164.out f13_163.out.2⟩
        · go_simp
          go_wp2_with (go_at_call 17; (with_reducible refine (nextL_any xc _ 2 _ f13_2.out (by decide)).mono ?_); rintro e W13_177 ⟨r13_180, rfl, q13_181, q13_182, _, ⟨_, _, _, hC13_183⟩, hg13_179⟩)
          obtain ⟨k13_184, rfl⟩ := Int.eq_ofNat_of_zero_le q13_181
          have f13_185 : Hid (k13_184 < 2) := Lib.hid (by have := q13_182 (by decide); omega)
          clear q13_181 q13_182
          have f13_186 := Lib.hid (f13_1.out.grown hg13_179 (fun k e => by injection e with e; subst e; simp))
          have f13_187 := Lib.hid hC13_183
          refine hK.out _ _ (hHeld.grown hg13_179 (fun _ hx => by cases hx) (fun k e => by injection e with e; subst e; exact hwc.out)) (fun hH13_178 => ?_)
          clear hK K
          try simp only [Act.put, List.getElem_toArray, List.getElem_cons_zero, List.getElem_cons_succ, List.setIfInBounds_toArray, List.set_cons_zero, List.set_cons_succ]
          refine wpAnyH_ready (rs := [0, 4, 9]) (by kernel_rfl) (by simp) (AllReadyH.cons rfl (fun K hK => ?_) (AllReadyH.cons rfl (fun K hK => ?_) (AllReadyH.cons rfl (fun K hK => ?_) AllReadyH.nil)))
          · simp only [List.getElem_toArray, List.getElem_cons_zero, List.getElem_cons_succ]
            rw [if_pos (by rfl)]
            with_reducible refine op_loadV _ f13_186.out.row f13_186.out.len (by rfl) ?_ ?_
            · rfl
            refine hK.out _ _ (hH13_178) (fun hH13_189 => ?_)
            clear hK K
            try simp only [Act.put, List.getElem_toArray, List.getElem_cons_zero, List.getElem_cons_succ, List.setIfInBounds_toArray, List.set_cons_zero, List.set_cons_succ]
            refine wpAnyH_ready (rs := [4, 9]) (by kernel_rfl) (by simp) (AllReadyH.cons rfl (fun K hK => ?_) (AllReadyH.cons rfl (fun K hK => ?_) AllReadyH.nil))
            · go_simp
              go_wp2_with (go_at_call 18; (with_reducible refine (bytes_any xc _ _ f13_187.out).mono ?_); rintro e W13_190 ⟨x13_193, rfl, hx13_194, ⟨_, _, hC13_195⟩, hg13_192⟩)
              have f13_196 := Lib.hid (f13_186.out.grown hg13_192 (fun k e => by injection e with e; subst e; simp))
              have f13_197 := Lib.hid hC13_195
              have f13_198 := Lib.hid hx13_194
              refine hK.out _ _ (hH13_189.grown hg13_192 (fun _ hx => by cases hx) (fun k e => by injection e with e; subst e; exact hwc.out)) (fun hH13_191 => ?_)
              clear hK K
              try simp only [Act.put, List.getElem_toArray, List.getElem_cons_zero, List.getElem_cons_succ, List.setIfInBounds_toArray, List.set_cons_zero, List.set_cons_succ]
              refine wpAnyH_ready (rs := [5, 9]) (by kernel_rfl) (by simp) (AllReadyH.cons rfl (fun K hK => ?_) (AllReadyH.cons rfl (fun K hK => ?_) AllReadyH.nil))
              · go_simp
                go_wp2_with (go_at_call 20; (with_reducible refine (write_b _ _ (dD (ps.set k13_184 x13_193) (i + 1) n) (k13_184 : Int) x13_193 (dd_write HP.out f13_198.out f13_185.out hin.out hn6.out).1 (dd_write HP.out f13_198.out f13_185.out hin.out hn6.out).2 _ f13_196.out.dev (dd_fits HP.out)).mono ?_); rintro e W13_199 ⟨v13_204, rfl, hV13_202, hL13_203, hb13_201⟩)
                have f13_205 := Lib.hid (And.intro f13_196.out.row.lt (codL_lt f13_197.out))
                have f13_206 := Lib.hid (hL13_203 _ (Nat.le_refl _))
                have f13_208 := Lib.hid (f13_196.out.keep hb13_201)
                have f13_209 := Lib.hid (codL_keep f13_197.out hb13_201)
                have f13_207 := Lib.hid hV13_202
                refine hK.out _ _ (hH13_191.keep hb13_201) (fun hH13_200 => ?_)
                clear hK K
                try simp only [Act.put, List.getElem_toArray, List.getElem_cons_zero, List.getElem_cons_succ, List.setIfInBounds_toArray, List.set_cons_zero, List.set_cons_succ]
                refine wpAnyH_take (i := 6) (v := ?_) rfl (by kernel_rfl) (by kernel_rfl) (by kernel_rfl) (fun _ _ _ h => h) (Or.inl ⟨by rfl, ?_⟩) (by assumption) ?_
                rotate_left
                · (intro W _; go_simp; try with_reducible rfl)
                try simp only [Act.put, List.getElem_toArray, List.getElem_cons_zero, List.getElem_cons_succ, List.setIfInBounds_toArray, List.set_cons_zero, List.set_cons_succ]
                refine wpAnyH_take (i := 7) (v := ?_) rfl (by kernel_rfl) (by kernel_rfl) (by kernel_rfl) (fun _ _ _ h => h) (Or.inl ⟨by rfl, ?_⟩) (by assumption) ?_
                rotate_left
                · (intro W _; go_simp; try with_reducible rfl)
                try simp only [Act.put, List.getElem_toArray, List.getElem_cons_zero, List.getElem_cons_succ, List.setIfInBounds_toArray, List.set_cons_zero, List.set_cons_succ]
                refine wpAnyH_take (i := 8) (v := ?_) rfl (by kernel_rfl) (by kernel_rfl) (by kernel_rfl) (fun _ _ _ h => h) (Or.inl ⟨by rfl, ?_⟩) (by assumption) ?_
                rotate_left
                · (intro W _; go_simp; try with_reducible rfl)
                try simp only [Act.put, List.getElem_toArray, List.getElem_cons_zero, List.getElem_cons_succ, List.setIfInBounds_toArray, List.set_cons_zero, List.set_cons_succ]
                refine wpAnyH_ready (rs := [9]) (by kernel_rfl) (by simp) (AllReadyH.cons rfl (fun K hK => ?_) AllReadyH.nil)
                · have f13_214 := Lib.hid (codL_lt f13_209.out)
                  have f13_215 := Lib.hid hH13_200.2.size
                  have f13_218 := Lib.hid (off_new f13_207.out (Nat.le_refl _))
                  have f13_217 := Lib.hid (varAt_more f13_208.out (Nat.le_refl _))
                  simp only [List.getElem_toArray, List.getElem_cons_zero, List.getElem_cons_succ]
                  rw [if_pos (by rfl)]
                  with_reducible refine op_newDev (by rfl) (fun W13_210 hP13_212 hb13_213 => ?_)
                  have f13_219 := Lib.hid (f13_217.out.keep hb13_213)
                  have f13_220 := Lib.hid (codL_keep f13_209.out hb13_213)
                  have f13_221 := Lib.hid (f13_207.out.keep hb13_213)
                  have f13_216 := Lib.hid hP13_212
                  refine hK.out _ _ (hH13_200.keep hb13_213) (fun hH13_211 => ?_)
                  clear hK K
                  try simp only [Act.put, List.getElem_toArray, List.getElem_cons_zero, List.getElem_cons_succ, List.setIfInBounds_toArray, List.set_cons_zero, List.set_cons_succ]
                  refine wpAnyH_ready (rs := [10]) (by kernel_rfl) (by simp) (AllReadyH.cons rfl (fun K hK => ?_) AllReadyH.nil)
                  · simp only [List.getElem_toArray, List.getElem_cons_zero, List.getElem_cons_succ]
                    rw [if_pos (by rfl)]
                    have hd0 : dev0.length = 5 := rfl
                    with_reducible refine op_storeV f13_221.out f13_216.out hd0 (by rfl) ?_ ?_ (fun W13_222 hP13_224 hS13_225 => ?_)
                    · rfl
                    · rfl
                    have f13_226 := Lib.hid (var_put hP13_224 hS13_225 f13_221.out f13_218.out)
                    have f13_228 := Lib.hid (f13_219.out.stored hS13_225 (by simp))
                    have f13_227 := Lib.hid (codL_stored f13_220.out hS13_225 f13_214.out)
                    refine hK.out _ _ (hH13_211.stored (fun _ hx => by cases hx) f13_215.out hS13_225) (fun hH13_223 => ?_)
                    clear hK K
                    try simp only [Act.put, List.getElem_toArray, List.getElem_cons_zero, List.getElem_cons_succ, List.setIfInBounds_toArray, List.set_cons_zero, List.set_cons_succ]
                    refine wpAnyH_take (i := 11) (v := ?_) rfl (by kernel_rfl) (by kernel_rfl) (by kernel_rfl) (fun _ _ _ h => h) (Or.inl ⟨by rfl, ?_⟩) (by assumption) ?_
                    rotate_left
                    · (intro W _; go_simp; try with_reducible rfl)
                    try simp only [Act.put, List.getElem_toArray, List.getElem_cons_zero, List.getElem_cons_succ, List.setIfInBounds_toArray, List.set_cons_zero, List.set_cons_succ]
                    refine wpAnyH_done (by kernel_rfl) ?_ _
                    go_wp2_with fail
                    go_meet
                    exact ⟨_, _, _, _, _, rfl, rfl, pages_set HP.out f13_198.out, varAt_sub f13_228.out (by simp), f13_226.out, f13_227.out, hH13_223.2, off_lo f13_206.out f13_205.out.1, off_lo f13_206.out f13_205.out.2⟩
              · have f13_233 := Lib.hid (codL_lt f13_197.out)
                have f13_234 := Lib.hid hH13_191.2.size
                have f13_236 := Lib.hid (varAt_more f13_196.out (Nat.le_refl _))
                simp only [List.getElem_toArray, List.getElem_cons_zero, List.getElem_cons_succ]
                rw [if_pos (by rfl)]
                with_reducible refine op_newDev (by rfl) (fun W13_229 hP13_231 hb13_232 => ?_)
                have f13_237 := Lib.hid (f13_236.out.keep hb13_232)
                have f13_238 := Lib.hid (codL_keep f13_197.out hb13_232)
                have f13_235 := Lib.hid hP13_231
                refine hK.out _ _ (hH13_191.keep hb13_232) (fun hH13_230 => ?_)
                clear hK K
                try simp only [Act.put, List.getElem_toArray, List.getElem_cons_zero, List.getElem_cons_succ, List.setIfInBounds_toArray, List.set_cons_zero, List.set_cons_succ]
                refine wpAnyH_ready (rs := [5]) (by kernel_rfl) (by simp) (AllReadyH.cons rfl (fun K hK => ?_) AllReadyH.nil)
                · go_simp
                  go_wp2_with (go_at_call 20; (with_reducible refine (write_b _ _ (dD (ps.set k13_184 x13_193) (i + 1) n) (k13_184 : Int) x13_193 (dd_write HP.out f13_198.out f13_185.out hin.out hn6.out).1 (dd_write HP.out f13_198.out f13_185.out hin.out hn6.out).2 _ f13_237.out.dev (dd_fits HP.out)).mono ?_); rintro e W13_239 ⟨v13_244, rfl, hV13_242, hL13_243, hb13_241⟩)
                  have f13_245 := Lib.hid (And.intro f13_237.out.row.lt (codL_lt f13_238.out))
                  have f13_246 := Lib.hid (hL13_243 _ (Nat.le_refl _))
                  have f13_248 := Lib.hid (off_lo f13_246.out f13_235.out.lt)
                  have f13_249 := Lib.hid (f13_237.out.keep hb13_241)
                  have f13_250 := Lib.hid (codL_keep f13_238.out hb13_241)
                  have f13_251 := Lib.hid (RowAt.keep f13_235.out hb13_241)
                  have f13_247 := Lib.hid hV13_242
                  refine hK.out _ _ (hH13_230.keep hb13_241) (fun hH13_240 => ?_)
                  clear hK K
                  try simp only [Act.put, List.getElem_toArray, List.getElem_cons_zero, List.getElem_cons_succ, List.setIfInBounds_toArray, List.set_cons_zero, List.set_cons_succ]
                  refine wpAnyH_take (i := 6) (v := ?_) rfl (by kernel_rfl) (by kernel_rfl) (by kernel_rfl) (fun _ _ _ h => h) (Or.inl ⟨by rfl, ?_⟩) (by assumption) ?_
                  rotate_left
                  · (intro W _; go_simp; try with_reducible rfl)
                  try simp only [Act.put, List.getElem_toArray, List.getElem_cons_zero, List.getElem_cons_succ, List.setIfInBounds_toArray, List.set_cons_zero, List.set_cons_succ]
                  refine wpAnyH_take (i := 7) (v := ?_) rfl (by kernel_rfl) (by kernel_rfl) (by kernel_rfl) (fun _ _ _ h => h) (Or.inl ⟨by rfl, ?_⟩) (by assumption) ?_
                  rotate_left
                  · (intro W _; go_simp; try with_reducible rfl)
                  try simp only [Act.put, List.getElem_toArray, List.getElem_cons_zero, List.getElem_cons_succ, List.setIfInBounds_toArray, List.set_cons_zero, List.set_cons_succ]
                  refine wpAnyH_take (i := 8) (v := ?_) rfl (by kernel_rfl) (by kernel_rfl) (by kernel_rfl) (fun _ _ _ h => h) (Or.inl ⟨by rfl, ?_⟩) (by assumption) ?_
                  rotate_left
                  · (intro W _; go_simp; try with_reducible rfl)
                  try simp only [Act.put, List.getElem_toArray, List.getElem_cons_zero, List.getElem_cons_succ, List.setIfInBounds_toArray, List.set_cons_zero, List.set_cons_succ]
                  refine wpAnyH_ready (rs := [10]) (by kernel_rfl) (by simp) (AllReadyH.cons rfl (fun K hK => ?_) AllReadyH.nil)
                  · simp only [List.getElem_toArray, List.getElem_cons_zero, List.getElem_cons_succ]
                    rw [if_pos (by rfl)]
                    have hd0 : dev0.length = 5 := rfl
                    with_reducible refine op_storeV f13_247.out f13_251.out hd0 (by rfl) ?_ ?_ (fun W13_252 hP13_254 hS13_255 => ?_)
                    · rfl
                    · rfl
                    have f13_256 := Lib.hid (var_put hP13_254 hS13_255 f13_247.out f13_248.out)
                    have f13_258 := Lib.hid (f13_249.out.stored hS13_255 (by simp))
                    have f13_257 := Lib.hid (codL_stored f13_250.out hS13_255 f13_233.out)
                    refine hK.out _ _ (hH13_240.stored (fun _ hx => by cases hx) f13_234.out hS13_255) (fun hH13_253 => ?_)
                    clear hK K
                    try simp only [Act.put, List.getElem_toArray, List.getElem_cons_zero, List.getElem_cons_succ, List.setIfInBounds_toArray, List.set_cons_zero, List.set_cons_succ]
                    refine wpAnyH_take (i := 11) (v := ?_) rfl (by kernel_rfl) (by kernel_rfl) (by kernel_rfl) (fun _ _ _ h => h) (Or.inl ⟨by rfl, ?_⟩) (by assumption) ?_
                    rotate_left
                    · (intro W _; go_simp; try with_reducible rfl)
                    try simp only [Act.put, List.getElem_toArray, List.getElem_cons_zero, List.getElem_cons_succ, List.setIfInBounds_toArray, List.set_cons_zero, List.set_cons_succ]
                    refine wpAnyH_done (by kernel_rfl) ?_ _
                    go_wp2_with fail
                    go_meet
                    exact ⟨_, _, _, _, _, rfl, rfl, pages_set HP.out f13_198.out, varAt_sub f13_258.out (by simp), f13_256.out, f13_257.out, hH13_253.2, off_lo f13_246.out f13_245.out.1, off_lo f13_246.out f13_245.out.2⟩
            · have f13_263 := Lib.hid (codL_lt f13_187.out)
              have f13_264 := Lib.hid hH13_189.2.size
              have f13_266 := Lib.hid (varAt_more f13_186.out (Nat.le_refl _))
              simp only [List.getElem_toArray, List.getElem_cons_zero, List.getElem_cons_succ]
              rw [if_pos (by rfl)]
              with_reducible refine op_newDev (by rfl) (fun W13_259 hP13_261 hb13_262 => ?_)
              have f13_267 := Lib.hid (f13_266.out.keep hb13_262)
              have f13_268 := Lib.hid (codL_keep f13_187.out hb13_262)
              have f13_265 := Lib.hid hP13_261
              refine hK.out _ _ (hH13_189.keep hb13_262) (fun hH13_260 => ?_)
              clear hK K
              try simp only [Act.put, List.getElem_toArray, List.getElem_cons_zero, List.getElem_cons_succ, List.setIfInBounds_toArray, List.set_cons_zero, List.set_cons_succ]
              refine wpAnyH_ready (rs := [4]) (by kernel_rfl) (by simp) (AllReadyH.cons rfl (fun K hK => ?_) AllReadyH.nil)
              · go_simp
                go_wp2_with (go_at_call 18; (with_reducible refine (bytes_any xc _ _ f13_268.out).mono ?_); rintro e W13_269 ⟨x13_272, rfl, hx13_273, ⟨_, _, hC13_274⟩, hg13_271⟩)
                have f13_275 := Lib.hid (f13_267.out.grown hg13_271 (fun k e => by injection e with e; subst e; simp))
                have f13_276 := Lib.hid (RowAt.grown f13_265.out hg13_271 (fun e => by injection e with e; exact Nat.ne_of_lt f13_263.out e))
                have f13_277 := Lib.hid hC13_274
                have f13_278 := Lib.hid hx13_273
                refine hK.out _ _ (hH13_260.grown hg13_271 (fun _ hx => by cases hx) (fun k e => by injection e with e; subst e; exact hwc.out)) (fun hH13_270 => ?_)
                clear hK K
                try simp only [Act.put, List.getElem_toArray, List.getElem_cons_zero, List.getElem_cons_succ, List.setIfInBounds_toArray, List.set_cons_zero, List.set_cons_succ]
                refine wpAnyH_ready (rs := [5]) (by kernel_rfl) (by simp) (AllReadyH.cons rfl (fun K hK => ?_) AllReadyH.nil)
                · go_simp
                  go_wp2_with (go_at_call 20; (with_reducible refine (write_b _ _ (dD (ps.set k13_184 x13_272) (i + 1) n) (k13_184 : Int) x13_272 (dd_write HP.out f13_278.out f13_185.out hin.out hn6.out).1 (dd_write HP.out f13_278.out f13_185.out hin.out hn6.out).2 _ f13_275.out.dev (dd_fits HP.out)).mono ?_); rintro e W13_279 ⟨v13_284, rfl, hV13_282, hL13_283, hb13_281⟩)
                  have f13_285 := Lib.hid (And.intro f13_275.out.row.lt (codL_lt f13_277.out))
                  have f13_286 := Lib.hid (hL13_283 _ (Nat.le_refl _))
                  have f13_288 := Lib.hid (off_lo f13_286.out f13_276.out.lt)
                  have f13_289 := Lib.hid (f13_275.out.keep hb13_281)
                  have f13_290 := Lib.hid (codL_keep f13_277.out hb13_281)
                  have f13_291 := Lib.hid (RowAt.keep f13_276.out hb13_281)
                  have f13_287 := Lib.hid hV13_282
                  refine hK.out _ _ (hH13_270.keep hb13_281) (fun hH13_280 => ?_)
                  clear hK K
                  try simp only [Act.put, List.getElem_toArray, List.getElem_cons_zero, List.getElem_cons_succ, List.setIfInBounds_toArray, List.set_cons_zero, List.set_cons_succ]
                  refine wpAnyH_take (i := 6) (v := ?_) rfl (by kernel_rfl) (by kernel_rfl) (by kernel_rfl) (fun _ _ _ h => h) (Or.inl ⟨by rfl, ?_⟩) (by assumption) ?_
                  rotate_left
                  · (intro W _; go_simp; try with_reducible rfl)
                  try simp only [Act.put, List.getElem_toArray, List.getElem_cons_zero, List.getElem_cons_succ, List.setIfInBounds_toArray, List.set_cons_zero, List.set_cons_succ]
                  refine wpAnyH_take (i := 7) (v := ?_) rfl (by kernel_rfl) (by kernel_rfl) (by kernel_rfl) (fun _ _ _ h => h) (Or.inl ⟨by rfl, ?_⟩) (by assumption) ?_
                  rotate_left
                  · (intro W _; go_simp; try with_reducible rfl)
                  try simp only [Act.put, List.getElem_toArray, List.getElem_cons_zero, List.getElem_cons_succ, List.setIfInBounds_toArray, List.set_cons_zero, List.set_cons_succ]
                  refine wpAnyH_take (i := 8) (v := ?_) rfl (by kernel_rfl) (by kernel_rfl) (by kernel_rfl) (fun _ _ _ h => h) (Or.inl ⟨by rfl, ?_⟩) (by assumption) ?_
                  rotate_left
                  · (intro W _; go_simp; try with_reducible rfl)
                  try simp only [Act.put, List.getElem_toArray, List.getElem_cons_zero, List.getElem_cons_succ, List.setIfInBounds_toArray, List.set_cons_zero, List.set_cons_succ]
                  refine wpAnyH_ready (rs := [10]) (by kernel_rfl) (by simp) (AllReadyH.cons rfl (fun K hK => ?_) AllReadyH.nil)
                  · simp only [List.getElem_toArray, List.getElem_cons_zero, List.getElem_cons_succ]
                    rw [if_pos (by rfl)]
                    have hd0 : dev0.length = 5 := rfl
                    with_reducible refine op_storeV f13_287.out f13_291.out hd0 (by rfl) ?_ ?_ (fun W13_292 hP13_294 hS13_295 => ?_)
                    · rfl
                    · rfl
                    have f13_296 := Lib.hid (var_put hP13_294 hS13_295 f13_287.out f13_288.out)
                    have f13_298 := Lib.hid (f13_289.out.stored hS13_295 (by simp))
                    have f13_297 := Lib.hid (codL_stored f13_290.out hS13_295 f13_263.out)
                    refine hK.out _ _ (hH13_280.stored (fun _ hx => by cases hx) f13_264.out hS13_295) (fun hH13_293 => ?_)
                    clear hK K
                    try simp only [Act.put, List.getElem_toArray, List.getElem_cons_zero, List.getElem_cons_succ, List.setIfInBounds_toArray, List.set_cons_zero, List.set_cons_succ]
                    refine wpAnyH_take (i := 11) (v := ?_) rfl (by kernel_rfl) (by kernel_rfl) (by kernel_rfl) (fun _ _ _ h => h) (Or.inl ⟨by rfl, ?_⟩) (by assumption) ?_
                    rotate_left
                    · (intro W _; go_simp; try with_reducible rfl)
                    try simp only [Act.put, List.getElem_toArray, List.getElem_cons_zero, List.getElem_cons_succ, List.setIfInBounds_toArray, List.set_cons_zero, List.set_cons_succ]
                    refine wpAnyH_done (by kernel_rfl) ?_ _
                    go_wp2_with fail
                    go_meet
                    exact ⟨_, _, _, _, _, rfl, rfl, pages_set HP.out f13_278.out, varAt_sub f13_298.out (by simp), f13_296.out, f13_297.out, hH13_293.2, off_lo f13_286.out f13_285.out.1, off_lo f13_286.out f13_285.out.2⟩
          · go_simp
            go_wp2_with (go_at_call 18; (with_reducible refine (bytes_any xc _ _ f13_187.out).mono ?_); rintro e W13_299 ⟨x13_302, rfl, hx13_303, ⟨_, _, hC13_304⟩, hg13_301⟩)
            have f13_305 := Lib.hid (f13_186.out.grown hg13_301 (fun k e => by injection e with e; subst e; simp))
            have f13_306 := Lib.hid hC13_304
            have f13_307 := Lib.hid hx13_303
            refine hK.out _ _ (hH13_178.grown hg13_301 (fun _ hx => by cases hx) (fun k e => by injection e with e; subst e; exact hwc.out)) (fun hH13_300 => ?_)
            clear hK K
            try simp only [Act.put, List.getElem_toArray, List.getElem_cons_zero, List.getElem_cons_succ, List.setIfInBounds_toArray, List.set_cons_zero, List.set_cons_succ]
            refine wpAnyH_ready (rs := [0, 9]) (by kernel_rfl) (by simp) (AllReadyH.cons rfl (fun K hK => ?_) (AllReadyH.cons rfl (fun K hK => ?_) AllReadyH.nil))
            · simp only [List.getElem_toArray, List.getElem_cons_zero, List.getElem_cons_succ]
              rw [if_pos (by rfl)]
              with_reducible refine op_loadV _ f13_305.out.row f13_305.out.len (by rfl) ?_ ?_
              · rfl
              refine hK.out _ _ (hH13_300) (fun hH13_309 => ?_)
              clear hK K
              try simp only [Act.put, List.getElem_toArray, List.getElem_cons_zero, List.getElem_cons_succ, List.setIfInBounds_toArray, List.set_cons_zero, List.set_cons_succ]
              refine wpAnyH_ready (rs := [5, 9]) (by kernel_rfl) (by simp) (AllReadyH.cons rfl (fun K hK => ?_) (AllReadyH.cons rfl (fun K hK => ?_) AllReadyH.nil))
              · go_simp
                go_wp2_with (go_at_call 20; (with_reducible refine (write_b _ _ (dD (ps.set k13_184 x13_302) (i + 1) n) (k13_184 : Int) x13_302 (dd_write HP.out f13_307.out f13_185.out hin.out hn6.out).1 (dd_write HP.out f13_307.out f13_185.out hin.out hn6.out).2 _ f13_305.out.dev (dd_fits HP.out)).mono ?_); rintro e W13_310 ⟨v13_315, rfl, hV13_313, hL13_314, hb13_312⟩)
                have f13_316 := Lib.hid (And.intro f13_305.out.row.lt (codL_lt f13_306.out))
                have f13_317 := Lib.hid (hL13_314 _ (Nat.le_refl _))
                have f13_319 := Lib.hid (f13_305.out.keep hb13_312)
                have f13_320 := Lib.hid (codL_keep f13_306.out hb13_312)
                have f13_318 := Lib.hid hV13_313
                refine hK.out _ _ (hH13_309.keep hb13_312) (fun hH13_311 => ?_)
                clear hK K
                try simp only [Act.put, List.getElem_toArray, List.getElem_cons_zero, List.getElem_cons_succ, List.setIfInBounds_toArray, List.set_cons_zero, List.set_cons_succ]
                refine wpAnyH_take (i := 6) (v := ?_) rfl (by kernel_rfl) (by kernel_rfl) (by kernel_rfl) (fun _ _ _ h => h) (Or.inl ⟨by rfl, ?_⟩) (by assumption) ?_
                rotate_left
                · (intro W _; go_simp; try with_reducible rfl)
                try simp only [Act.put, List.getElem_toArray, List.getElem_cons_zero, List.getElem_cons_succ, List.setIfInBounds_toArray, List.set_cons_zero, List.set_cons_succ]
                refine wpAnyH_take (i := 7) (v := ?_) rfl (by kernel_rfl) (by kernel_rfl) (by kernel_rfl) (fun _ _ _ h => h) (Or.inl ⟨by rfl, ?_⟩) (by assumption) ?_
                rotate_left
                · (intro W _; go_simp; try with_reducible rfl)
                try simp only [Act.put, List.getElem_toArray, List.getElem_cons_zero, List.getElem_cons_succ, List.setIfInBounds_toArray, List.set_cons_zero, List.set_cons_succ]
                refine wpAnyH_take (i := 8) (v := ?_) rfl (by kernel_rfl) (by kernel_rfl) (by kernel_rfl) (fun _ _ _ h => h) (Or.inl ⟨by rfl, ?_⟩) (by assumption) ?_
                rotate_left
                · (intro W _; go_simp; try with_reducible rfl)
                try simp only [Act.put, List.getElem_toArray, List.getElem_cons_zero, List.getElem_cons_succ, List.setIfInBounds_toArray, List.set_cons_zero, List.set_cons_succ]
                refine wpAnyH_ready (rs := [9]) (by kernel_rfl) (by simp) (AllReadyH.cons rfl (fun K hK => ?_) AllReadyH.nil)
                · have f13_325 := Lib.hid (codL_lt f13_320.out)
                  have f13_326 := Lib.hid hH13_311.2.size
                  have f13_329 := Lib.hid (off_new f13_318.out (Nat.le_refl _))
                  have f13_328 := Lib.hid (varAt_more f13_319.out (Nat.le_refl _))
                  simp only [List.getElem_toArray, List.getElem_cons_zero, List.getElem_cons_succ]
                  rw [if_pos (by rfl)]
                  with_reducible refine op_newDev (by rfl) (fun W13_321 hP13_323 hb13_324 => ?_)
                  have f13_330 := Lib.hid (f13_328.out.keep hb13_324)
                  have f13_331 := Lib.hid (codL_keep f13_320.out hb13_324)
                  have f13_332 := Lib.hid (f13_318.out.keep hb13_324)
                  have f13_327 := Lib.hid hP13_323
                  refine hK.out _ _ (hH13_311.keep hb13_324) (fun hH13_322 => ?_)
                  clear hK K
                  try simp only [Act.put, List.getElem_toArray, List.getElem_cons_zero, List.getElem_cons_succ, List.setIfInBounds_toArray, List.set_cons_zero, List.set_cons_succ]
                  refine wpAnyH_ready (rs := [10]) (by kernel_rfl) (by simp) (AllReadyH.cons rfl (fun K hK => ?_) AllReadyH.nil)
                  · simp only [List.getElem_toArray, List.getElem_cons_zero, List.getElem_cons_succ]
                    rw [if_pos (by rfl)]
                    have hd0 : dev0.length = 5 := rfl
                    with_reducible refine op_storeV f13_332.out f13_327.out hd0 (by rfl) ?_ ?_ (fun W13_333 hP13_335 hS13_336 => ?_)
                    · rfl
                    · rfl
                    have f13_337 := Lib.hid (var_put hP13_335 hS13_336 f13_332.out f13_329.out)
                    have f13_339 := Lib.hid (f13_330.out.stored hS13_336 (by simp))
                    have f13_338 := Lib.hid (codL_stored f13_331.out hS13_336 f13_325.out)
                    refine hK.out _ _ (hH13_322.stored (fun _ hx => by cases hx) f13_326.out hS13_336) (fun hH13_334 => ?_)
                    clear hK K
                    try simp only [Act.put, List.getElem_toArray, List.getElem_cons_zero, List.getElem_cons_succ, List.setIfInBounds_toArray, List.set_cons_zero, List.set_cons_succ]
                    refine wpAnyH_take (i := 11) (v := ?_) rfl (by kernel_rfl) (by kernel_rfl) (by kernel_rfl) (fun _ _ _ h => h) (Or.inl ⟨by rfl, ?_⟩) (by assumption) ?_
                    rotate_left
                    · (intro W _; go_simp; try with_reducible rfl)
                    try simp only [Act.put, List.getElem_toArray, List.getElem_cons_zero, List.getElem_cons_succ, List.setIfInBounds_toArray, List.set_cons_zero, List.set_cons_succ]
                    refine wpAnyH_done (by kernel_rfl) ?_ _
                    go_wp2_with fail
                    go_meet
                    exact ⟨_, _, _, _, _, rfl, rfl, pages_set HP.out f13_307.out, varAt_sub f13_339.out (by simp), f13_337.out, f13_338.out, hH13_334.2, off_lo f13_317.out f13_316.out.1, off_lo f13_317.out f13_316.out.2⟩
              · have f13_344 := Lib.hid (codL_lt f13_306.out)
                have f13_345 := Lib.hid hH13_309.2.size
                have f13_347 := Lib.hid (varAt_more f13_305.out (Nat.le_refl _))
                simp only [List.getElem_toArray, List.getElem_cons_zero, List.getElem_cons_succ]
                rw [if_pos (by rfl)]
                with_reducible refine op_newDev (by rfl) (fun W13_340 hP13_342 hb13_343 => ?_)
                have f13_348 := Lib.hid (f13_347.out.keep hb13_343)
                have f13_349 := Lib.hid (codL_keep f13_306.out hb13_343)
                have f13_346 := Lib.hid hP13_342
                refine hK.out _ _ (hH13_309.keep hb13_343) (fun hH13_341 => ?_)
                clear hK K
                try simp only [Act.put, List.getElem_toArray, List.getElem_cons_zero, List.getElem_cons_succ, List.setIfInBounds_toArray, List.set_cons_zero, List.set_cons_succ]
                refine wpAnyH_ready (rs := [5]) (by kernel_rfl) (by simp) (AllReadyH.cons rfl (fun K hK => ?_) AllReadyH.nil)
                · go_simp
                  go_wp2_with (go_at_call 20; (with_reducible refine (write_b _ _ (dD (ps.set k13_184 x13_302) (i + 1) n) (k13_184 : Int) x13_302 (dd_write HP.out f13_307.out f13_185.out hin.out hn6.out).1 (dd_write HP.out f13_307.out f13_185.out hin.out hn6.out).2 _ f13_348.out.dev (dd_fits HP.out)).mono ?_); rintro e W13_350 ⟨v13_355, rfl, hV13_353, hL13_354, hb13_352⟩)
                  have f13_356 := Lib.hid (And.intro f13_348.out.row.lt (codL_lt f13_349.out))
                  have f13_357 := Lib.hid (hL13_354 _ (Nat.le_refl _))
                  have f13_359 := Lib.hid (off_lo f13_357.out f13_346.out.lt)
                  have f13_360 := Lib.hid (f13_348.out.keep hb13_352)
                  have f13_361 := Lib.hid (codL_keep f13_349.out hb13_352)
                  have f13_362 := Lib.hid (RowAt.keep f13_346.out hb13_352)
                  have f13_358 := Lib.hid hV13_353
                  refine hK.out _ _ (hH13_341.keep hb13_352) (fun hH13_351 => ?_)
                  clear hK K
                  try simp only [Act.put, List.getElem_toArray, List.getElem_cons_zero, List.getElem_cons_succ, List.setIfInBounds_toArray, List.set_cons_zero, List.set_cons_succ]
                  refine wpAnyH_take (i := 6) (v := ?_) rfl (by kernel_rfl) (by kernel_rfl) (by kernel_rfl) (fun _ _ _ h => h) (Or.inl ⟨by rfl, ?_⟩) (by assumption) ?_
                  rotate_left
                  · (intro W _; go_simp; try with_reducible rfl)
                  try simp only [Act.put, List.getElem_toArray, List.getElem_cons_zero, List.getElem_cons_succ, List.setIfInBounds_toArray, List.set_cons_zero, List.set_cons_succ]
                  refine wpAnyH_take (i := 7) (v := ?_) rfl (by kernel_rfl) (by kernel_rfl) (by kernel_rfl) (fun _ _ _ h => h) (Or.inl ⟨by rfl, ?_⟩) (by assumption) ?_
                  rotate_left
                  · (intro W _; go_simp; try with_reducible rfl)
                  try simp only [Act.put, List.getElem_toArray, List.getElem_cons_zero, List.getElem_cons_succ, List.setIfInBounds_toArray, List.set_cons_zero, List.set_cons_succ]
                  refine wpAnyH_take (i := 8) (v := ?_) rfl (by kernel_rfl) (by kernel_rfl) (by kernel_rfl) (fun _ _ _ h => h) (Or.inl ⟨by rfl, ?_⟩) (by assumption) ?_
                  rotate_left
                  · (intro W _; go_simp; try with_reducible rfl)
                  try simp only [Act.put, List.getElem_toArray, List.getElem_cons_zero, List.getElem_cons_succ, List.setIfInBounds_toArray, List.set_cons_zero, List.set_cons_succ]
                  refine wpAnyH_ready (rs := [10]) (by kernel_rfl) (by simp) (AllReadyH.cons rfl (fun K hK => ?_) AllReadyH.nil)
                  · simp only [List.getElem_toArray, List.getElem_cons_zero, List.getElem_cons_succ]
                    rw [if_pos (by rfl)]
                    have hd0 : dev0.length = 5 := rfl
                    with_reducible refine op_storeV f13_358.out f13_362.out hd0 (by rfl) ?_ ?_ (fun W13_363 hP13_365 hS13_366 => ?_)
                    · rfl
                    · rfl
                    have f13_367 := Lib.hid (var_put hP13_365 hS13_366 f13_358.out f13_359.out)
                    have f13_369 := Lib.hid (f13_360.out.stored hS13_366 (by simp))
                    have f13_368 := Lib.hid (codL_stored f13_361.out hS13_366 f13_344.out)
                    refine hK.out _ _ (hH13_351.stored (fun _ hx => by cases hx) f13_345.out hS13_366) (fun hH13_364 => ?_)
                    clear hK K
                    try simp only [Act.put, List.getElem_toArray, List.getElem_cons_zero, List.getElem_cons_succ, List.setIfInBounds_toArray, List.set_cons_zero, List.set_cons_succ]
                    refine wpAnyH_take (i := 11) (v := ?_) rfl (by kernel_rfl) (by kernel_rfl) (by kernel_rfl) (fun _ _ _ h => h) (Or.inl ⟨by rfl, ?_⟩) (by assumption) ?_
                    rotate_left
                    · (intro W _; go_simp; try with_reducible rfl)
                    try simp only [Act.put, List.getElem_toArray, List.getElem_cons_zero, List.getElem_cons_succ, List.setIfInBounds_toArray, List.set_cons_zero, List.set_cons_succ]
                    refine wpAnyH_done (by kernel_rfl) ?_ _
                    go_wp2_with fail
                    go_meet
                    exact ⟨_, _, _, _, _, rfl, rfl, pages_set HP.out f13_307.out, varAt_sub f13_369.out (by simp), f13_367.out, f13_368.out, hH13_364.2, off_lo f13_357.out f13_356.out.1, off_lo f13_357.out f13_356.out.2⟩
            · have f13_374 := Lib.hid (codL_lt f13_306.out)
              have f13_375 := Lib.hid hH13_300.2.size
              have f13_377 := Lib.hid (varAt_more f13_305.out (Nat.le_refl _))
              simp only [List.getElem_toArray, List.getElem_cons_zero, List.getElem_cons_succ]
              rw [if_pos (by rfl)]
              with_reducible refine op_newDev (by rfl) (fun W13_370 hP13_372 hb13_373 => ?_)
              have f13_378 := Lib.hid (f13_377.out.keep hb13_373)
              have f13_379 := Lib.hid (codL_keep f13_306.out hb13_373)
              have f13_376 := Lib.hid hP13_372
              refine hK.out _ _ (hH13_300.keep hb13_373) (fun hH13_371 => ?_)
              clear hK K
              try simp only [Act.put, List.getElem_toArray, List.getElem_cons_zero, List.getElem_cons_succ, List.setIfInBounds_toArray, List.set_cons_zero, List.set_cons_succ]
              refine wpAnyH_ready (rs := [0]) (by kernel_rfl) (by simp) (AllReadyH.cons rfl (fun K hK => ?_) AllReadyH.nil)
              · simp only [List.getElem_toArray, List.getElem_cons_zero, List.getElem_cons_succ]
                rw [if_pos (by rfl)]
                with_reducible refine op_loadV _ f13_378.out.row f13_378.out.len (by rfl) ?_ ?_
                · rfl
                refine hK.out _ _ (hH13_371) (fun hH13_381 => ?_)
                clear hK K
                try simp only [Act.put, List.getElem_toArray, List.getElem_cons_zero, List.getElem_cons_succ, List.setIfInBounds_toArray, List.set_cons_zero, List.set_cons_succ]
                refine wpAnyH_ready (rs := [5]) (by kernel_rfl) (by simp) (AllReadyH.cons rfl (fun K hK => ?_) AllReadyH.nil)
                · go_simp
                  go_wp2_with (go_at_call 20; (with_reducible refine (write_b _ _ (dD (ps.set k13_184 x13_302) (i + 1) n) (k13_184 : Int) x13_302 (dd_write HP.out f13_307.out f13_185.out hin.out hn6.out).1 (dd_write HP.out f13_307.out f13_185.out hin.out hn6.out).2 _ f13_378.out.dev (dd_fits HP.out)).mono ?_); rintro e W13_382 ⟨v13_387, rfl, hV13_385, hL13_386, hb13_384⟩)
                  have f13_388 := Lib.hid (And.intro f13_378.out.row.lt (codL_lt f13_379.out))
                  have f13_389 := Lib.hid (hL13_386 _ (Nat.le_refl _))
                  have f13_391 := Lib.hid (off_lo f13_389.out f13_376.out.lt)
                  have f13_392 := Lib.hid (f13_378.out.keep hb13_384)
                  have f13_393 := Lib.hid (codL_keep f13_379.out hb13_384)
                  have f13_394 := Lib.hid (RowAt.keep f13_376.out hb13_384)
                  have f13_390 := Lib.hid hV13_385
                  refine hK.out _ _ (hH13_381.keep hb13_384) (fun hH13_383 => ?_)
                  clear hK K
                  try simp only [Act.put, List.getElem_toArray, List.getElem_cons_zero, List.getElem_cons_succ, List.setIfInBounds_toArray, List.set_cons_zero, List.set_cons_succ]
                  refine wpAnyH_take (i := 6) (v := ?_) rfl (by kernel_rfl) (by kernel_rfl) (by kernel_rfl) (fun _ _ _ h => h) (Or.inl ⟨by rfl, ?_⟩) (by assumption) ?_
                  rotate_left
                  · (intro W _; go_simp; try with_reducible rfl)
                  try simp only [Act.put, List.getElem_toArray, List.getElem_cons_zero, List.getElem_cons_succ, List.setIfInBounds_toArray, List.set_cons_zero, List.set_cons_succ]
                  refine wpAnyH_take (i := 7) (v := ?_) rfl (by kernel_rfl) (by kernel_rfl) (by kernel_rfl) (fun _ _ _ h => h) (Or.inl ⟨by rfl, ?_⟩) (by assumption) ?_
                  rotate_left
                  · (intro W _; go_simp; try with_reducible rfl)
                  try simp only [Act.put, List.getElem_toArray, List.getElem_cons_zero, List.getElem_cons_succ, List.setIfInBounds_toArray, List.set_cons_zero, List.set_cons_succ]
                  refine wpAnyH_take (i := 8) (v := ?_) rfl (by kernel_rfl) (by kernel_rfl) (by kernel_rfl) (fun _ _ _ h => h) (Or.inl ⟨by rfl, ?_⟩) (by assumption) ?_
                  rotate_left
                  · (intro W _; go_simp; try with_reducible rfl)
                  try simp only [Act.put, List.getElem_toArray, List.getElem_cons_zero, List.getElem_cons_succ, List.setIfInBounds_toArray, List.set_cons_zero, List.set_cons_succ]
                  refine wpAnyH_ready (rs := [10]) (by kernel_rfl) (by simp) (AllReadyH.cons rfl (fun K hK => ?_) AllReadyH.nil)
                  · simp only [List.getElem_toArray, List.getElem_cons_zero, List.getElem_cons_succ]
                    rw [if_pos (by rfl)]
                    have hd0 : dev0.length = 5 := rfl
                    with_reducible refine op_storeV f13_390.out f13_394.out hd0 (by rfl) ?_ ?_ (fun W13_395 hP13_397 hS13_398 => ?_)
                    · rfl
                    · rfl
                    have f13_399 := Lib.hid (var_put hP13_397 hS13_398 f13_390.out f13_391.out)
                    have f13_401 := Lib.hid (f13_392.out.stored hS13_398 (by simp))
                    have f13_400 := Lib.hid (codL_stored f13_393.out hS13_398 f13_374.out)
                    refine hK.out _ _ (hH13_383.stored (fun _ hx => by cases hx) f13_375.out hS13_398) (fun hH13_396 => ?_)
                    clear hK K
                    try simp only [Act.put, List.getElem_toArray, List.getElem_cons_zero, List.getElem_cons_succ, List.setIfInBounds_toArray, List.set_cons_zero, List.set_cons_succ]
                    refine wpAnyH_take (i := 11) (v := ?_) rfl (by kernel_rfl) (by kernel_rfl) (by kernel_rfl) (fun _ _ _ h => h) (Or.inl ⟨by rfl, ?_⟩) (by assumption) ?_
                    rotate_left
                    · (intro W _; go_simp; try with_reducible rfl)
                    try simp only [Act.put, List.getElem_toArray, List.getElem_cons_zero, List.getElem_cons_succ, List.setIfInBounds_toArray, List.set_cons_zero, List.set_cons_succ]
                    refine wpAnyH_done (by kernel_rfl) ?_ _
                    go_wp2_with fail
                    go_meet
                    exact ⟨_, _, _, _, _, rfl, rfl, pages_set HP.out f13_307.out, varAt_sub f13_401.out (by simp), f13_399.out, f13_400.out, hH13_396.2, off_lo f13_389.out f13_388.out.1, off_lo f13_389.out f13_388.out.2⟩
          · have f13_406 := Lib.hid (codL_lt f13_187.out)
            have f13_407 := Lib.hid hH13_178.2.size
            have f13_409 := Lib.hid (varAt_more f13_186.out (Nat.le_refl _))
            simp only [List.getElem_toArray, List.getElem_cons_zero, List.getElem_cons_succ]
            rw [if_pos (by rfl)]
            with_reducible refine op_newDev (by rfl) (fun W13_402 hP13_404 hb13_405 => ?_)
            have f13_410 := Lib.hid (f13_409.out.keep hb13_405)
            have f13_411 := Lib.hid (codL_keep f13_187.out hb13_405)
            have f13_408 := Lib.hid hP13_404
            refine hK.out _ _ (hH13_178.keep hb13_405) (fun hH13_403 => ?_)
            clear hK K
            try simp only [Act.put, List.getElem_toArray, List.getElem_cons_zero, List.getElem_cons_succ, List.setIfInBounds_toArray, List.set_cons_zero, List.set_cons_succ]
            refine wpAnyH_ready (rs := [0, 4]) (by kernel_rfl) (by simp) (AllReadyH.cons rfl (fun K hK => ?_) (AllReadyH.cons rfl (fun K hK => ?_) AllReadyH.nil))
            · simp only [List.getElem_toArray, List.getElem_cons_zero, List.getElem_cons_succ]
              rw [if_pos (by rfl)]
              with_reducible refine op_loadV _ f13_410.out.row f13_410.out.len (by rfl) ?_ ?_
              · rfl
              refine hK.out _ _ (hH13_403) (fun hH13_413 => ?_)
              clear hK K
              try simp only [Act.put, List.getElem_toArray, List.getElem_cons_zero, List.getElem_cons_succ, List.setIfInBounds_toArray, List.set_cons_zero, List.set_cons_succ]
              refine wpAnyH_ready (rs := [4]) (by kernel_rfl) (by simp) (AllReadyH.cons rfl (fun K hK => ?_) AllReadyH.nil)
              · go_simp
                go_wp2_with (go_at_call 18; (with_reducible refine (bytes_any xc _ _ f13_411.out).mono ?_); rintro e W13_414 ⟨x13_417, rfl, hx13_418, ⟨_, _, hC13_419⟩, hg13_416⟩)
                have f13_420 := Lib.hid (f13_410.out.grown hg13_416 (fun k e => by injection e with e; subst e; simp))
                have f13_421 := Lib.hid (RowAt.grown f13_408.out hg13_416 (fun e => by injection e with e; exact Nat.ne_of_lt f13_406.out e))
                have f13_422 := Lib.hid hC13_419
                have f13_423 := Lib.hid hx13_418
                refine hK.out _ _ (hH13_413.grown hg13_416 (fun _ hx => by cases hx) (fun k e => by injection e with e; subst e; exact hwc.out)) (fun hH13_415 => ?_)
                clear hK K
                try simp only [Act.put, List.getElem_toArray, List.getElem_cons_zero, List.getElem_cons_succ, List.setIfInBounds_toArray, List.set_cons_zero, List.set_cons_succ]
                refine wpAnyH_ready (rs := [5]) (by kernel_rfl) (by simp) (AllReadyH.cons rfl (fun K hK => ?_) AllReadyH.nil)
                · go_simp
                  go_wp2_with (go_at_call 20; (with_reducible refine (write_b _ _ (dD (ps.set k13_184 x13_417) (i + 1) n) (k13_184 : Int) x13_417 (dd_write HP.out f13_423.out f13_185.out hin.out hn6.out).1 (dd_write HP.out f13_423.out f13_185.out hin.out hn6.out).2 _ f13_420.out.dev (dd_fits HP.out)).mono ?_); rintro e W13_424 ⟨v13_429, rfl, hV13_427, hL13_428, hb13_426⟩)
                  have f13_430 := Lib.hid (And.intro f13_420.out.row.lt (codL_lt f13_422.out))
                  have f13_431 := Lib.hid (hL13_428 _ (Nat.le_refl _))
                  have f13_433 := Lib.hid (off_lo f13_431.out f13_421.out.lt)
                  have f13_434 := Lib.hid (f13_420.out.keep hb13_426)
                  have f13_435 := Lib.hid (codL_keep f13_422.out hb13_426)
                  have f13_436 := Lib.hid (RowAt.keep f13_421.out hb13_426)
                  have f13_432 := Lib.hid hV13_427
                  refine hK.out _ _ (hH13_415.keep hb13_426) (fun hH13_425 => ?_)
                  clear hK K
                  try simp only [Act.put, List.getElem_toArray, List.getElem_cons_zero, List.getElem_cons_succ, List.setIfInBounds_toArray, List.set_cons_zero, List.set_cons_succ]
                  refine wpAnyH_take (i := 6) (v := ?_) rfl (by kernel_rfl) (by kernel_rfl) (by kernel_rfl) (fun _ _ _ h => h) (Or.inl ⟨by rfl, ?_⟩) (by assumption) ?_
                  rotate_left
                  · (intro W _; go_simp; try with_reducible rfl)
                  try simp only [Act.put, List.getElem_toArray, List.getElem_cons_zero, List.getElem_cons_succ, List.setIfInBounds_toArray, List.set_cons_zero, List.set_cons_succ]
                  refine wpAnyH_take (i := 7) (v := ?_) rfl (by kernel_rfl) (by kernel_rfl) (by kernel_rfl) (fun _ _ _ h => h) (Or.inl ⟨by rfl, ?_⟩) (by assumption) ?_
                  rotate_left
                  · (intro W _; go_simp; try with_reducible rfl)
                  try simp only [Act.put, List.getElem_toArray, List.getElem_cons_zero, List.getElem_cons_succ, List.setIfInBounds_toArray, List.set_cons_zero, List.set_cons_succ]
                  refine wpAnyH_take (i := 8) (v := ?_) rfl (by kernel_rfl) (by kernel_rfl) (by kernel_rfl) (fun _ _ _ h => h) (Or.inl ⟨by rfl, ?_⟩) (by assumption) ?_
                  rotate_left
                  · (intro W _; go_simp; try with_reducible rfl)
                  try simp only [Act.put, List.getElem_toArray, List.getElem_cons_zero, List.getElem_cons_succ, List.setIfInBounds_toArray, List.set_cons_zero, List.set_cons_succ]
                  refine wpAnyH_ready (rs := [10]) (by kernel_rfl) (by simp) (AllReadyH.cons rfl (fun K hK => ?_) AllReadyH.nil)
                  · simp only [List.getElem_toArray, List.getElem_cons_zero, List.getElem_cons_succ]
                    rw [if_pos (by rfl)]
                    have hd0 : dev0.length = 5 := rfl
                    with_reducible refine op_storeV f13_432.out f13_436.out hd0 (by rfl) ?_ ?_ (fun W13_437 hP13_439 hS13_440 => ?_)
                    · rfl
                    · rfl
                    have f13_441 := Lib.hid (var_put hP13_439 hS13_440 f13_432.out f13_433.out)
                    have f13_443 := Lib.hid (f13_434.out.stored hS13_440 (by simp))
                    have f13_442 := Lib.hid (codL_stored f13_435.out hS13_440 f13_406.out)
                    refine hK.out _ _ (hH13_425.stored (fun _ hx => by cases hx) f13_407.out hS13_440) (fun hH13_438 => ?_)
                    clear hK K
                    try simp only [Act.put, List.getElem_toArray, List.getElem_cons_zero, List.getElem_cons_succ, List.setIfInBounds_toArray, List.set_cons_zero, List.set_cons_succ]
                    refine wpAnyH_take (i := 11) (v := ?_) rfl (by kernel_rfl) (by kernel_rfl) (by kernel_rfl) (fun _ _ _ h => h) (Or.inl ⟨by rfl, ?_⟩) (by assumption) ?_
                    rotate_left
                    · (intro W _; go_simp; try with_reducible rfl)
                    try simp only [Act.put, List.getElem_toArray, List.getElem_cons_zero, List.getElem_cons_succ, List.setIfInBounds_toArray, List.set_cons_zero, List.set_cons_succ]
                    refine wpAnyH_done (by kernel_rfl) ?_ _
                    go_wp2_with fail
                    go_meet
                    exact ⟨_, _, _, _, _, rfl, rfl, pages_set HP.out f13_423.out, varAt_sub f13_443.out (by simp), f13_441.out, f13_442.out, hH13_438.2, off_lo f13_431.out f13_430.out.1, off_lo f13_431.out f13_430.out.2⟩
            · go_simp
              go_wp2_with (go_at_call 18; (with_reducible refine (bytes_any xc _ _ f13_411.out).mono ?_); rintro e W13_444 ⟨x13_447, rfl, hx13_448, ⟨_, _, hC13_449⟩, hg13_446⟩)
              have f13_450 := Lib.hid (f13_410.out.grown hg13_446 (fun k e => by injection e with e; subst e; simp))
              have f13_451 := Lib.hid (RowAt.grown f13_408.out hg13_446 (fun e => by injection e with e; exact Nat.ne_of_lt f13_406.out e))
              have f13_452 := Lib.hid hC13_449
              have f13_453 := Lib.hid hx13_448
              refine hK.out _ _ (hH13_403.grown hg13_446 (fun _ hx => by cases hx) (fun k e => by injection e with e; subst e; exact hwc.out)) (fun hH13_445 => ?_)
              clear hK K
              try simp only [Act.put, List.getElem_toArray, List.getElem_cons_zero, List.getElem_cons_succ, List.setIfInBounds_toArray, List.set_cons_zero, List.set_cons_succ]
              refine wpAnyH_ready (rs := [0]) (by kernel_rfl) (by simp) (AllReadyH.cons rfl (fun K hK => ?_) AllReadyH.nil)
              · simp only [List.getElem_toArray, List.getElem_cons_zero, List.getElem_cons_succ]
                rw [if_pos (by rfl)]
                with_reducible refine op_loadV _ f13_450.out.row f13_450.out.len (by rfl) ?_ ?_
                · rfl
                refine hK.out _ _ (hH13_445) (fun hH13_455 => ?_)
                clear hK K
                try simp only [Act.put, List.getElem_toArray, List.getElem_cons_zero, List.getElem_cons_succ, List.setIfInBounds_toArray, List.set_cons_zero, List.set_cons_succ]
                refine wpAnyH_ready (rs := [5]) (by kernel_rfl) (by simp) (AllReadyH.cons rfl (fun K hK => ?_) AllReadyH.nil)
                · go_simp
                  go_wp2_with (go_at_call 20; (with_reducible refine (write_b _ _ (dD (ps.set k13_184 x13_447) (i + 1) n) (k13_184 : Int) x13_447 (dd_write HP.out f13_453.out f13_185.out hin.out hn6.out).1 (dd_write HP.out f13_453.out f13_185.out hin.out hn6.out).2 _ f13_450.out.dev (dd_fits HP.out)).mono ?_); rintro e W13_456 ⟨v13_461, rfl, hV13_459, hL13_460, hb13_458⟩)
                  have f13_462 := Lib.hid (And.intro f13_450.out.row.lt (codL_lt f13_452.out))
                  have f13_463 := Lib.hid (hL13_460 _ (Nat.le_refl _))
                  have f13_465 := Lib.hid (off_lo f13_463.out f13_451.out.lt)
                  have f13_466 := Lib.hid (f13_450.out.keep hb13_458)
                  have f13_467 := Lib.hid (codL_keep f13_452.out hb13_458)
                  have f13_468 := Lib.hid (RowAt.keep f13_451.out hb13_458)
                  have f13_464 := Lib.hid hV13_459
                  refine hK.out _ _ (hH13_455.keep hb13_458) (fun hH13_457 => ?_)
                  clear hK K
                  try simp only [Act.put, List.getElem_toArray, List.getElem_cons_zero, List.getElem_cons_succ, List.setIfInBounds_toArray, List.set_cons_zero, List.set_cons_succ]
                  refine wpAnyH_take (i := 6) (v := ?_) rfl (by kernel_rfl) (by kernel_rfl) (by kernel_rfl) (fun _ _ _ h => h) (Or.inl ⟨by rfl, ?_⟩) (by assumption) ?_
                  rotate_left
                  · (intro W _; go_simp; try with_reducible rfl)
                  try simp only [Act.put, List.getElem_toArray, List.getElem_cons_zero, List.getElem_cons_succ, List.setIfInBounds_toArray, List.set_cons_zero, List.set_cons_succ]
                  refine wpAnyH_take (i := 7) (v := ?_) rfl (by kernel_rfl) (by kernel_rfl) (by kernel_rfl) (fun _ _ _ h => h) (Or.inl ⟨by rfl, ?_⟩) (by assumption) ?_
                  rotate_left
                  · (intro W _; go_simp; try with_reducible rfl)
                  try simp only [Act.put, List.getElem_toArray, List.getElem_cons_zero, List.getElem_cons_succ, List.setIfInBounds_toArray, List.set_cons_zero, List.set_cons_succ]
                  refine wpAnyH_take (i := 8) (v := ?_) rfl (by kernel_rfl) (by kernel_rfl) (by kernel_rfl) (fun _ _ _ h => h) (Or.inl ⟨by rfl, ?_⟩) (by assumption) ?_
                  rotate_left
                  · (intro W _; go_simp; try with_reducible rfl)
                  try simp only [Act.put, List.getElem_toArray, List.getElem_cons_zero, List.getElem_cons_succ, List.setIfInBounds_toArray, List.set_cons_zero, List.set_cons_succ]
                  refine wpAnyH_ready (rs := [10]) (by kernel_rfl) (by simp) (AllReadyH.cons rfl (fun K hK => ?_) AllReadyH.nil)
                  · simp only [List.getElem_toArray, List.getElem_cons_zero, List.getElem_cons_succ]
                    rw [if_pos (by rfl)]
                    have hd0 : dev0.length = 5 := rfl
                    with_reducible refine op_storeV f13_464.out f13_468.out hd0 (by rfl) ?_ ?_ (fun W13_469 hP13_471 hS13_472 => ?_)
                    · rfl
                    · rfl
                    have f13_473 := Lib.hid (var_put hP13_471 hS13_472 f13_464.out f13_465.out)
                    have f13_475 := Lib.hid (f13_466.out.stored hS13_472 (by simp))
                    have f13_474 := Lib.hid (codL_stored f13_467.out hS13_472 f13_406.out)
                    refine hK.out _ _ (hH13_457.stored (fun _ hx => by cases hx) f13_407.out hS13_472) (fun hH13_470 => ?_)
                    clear hK K
                    try simp only [Act.put, List.getElem_toArray, List.getElem_cons_zero, List.getElem_cons_succ, List.setIfInBounds_toArray, List.set_cons_zero, List.set_cons_succ]
                    refine wpAnyH_take (i := 11) (v := ?_) rfl (by kernel_rfl) (by kernel_rfl) (by kernel_rfl) (fun _ _ _ h => h) (Or.inl ⟨by rfl, ?_⟩) (by assumption) ?_
                    rotate_left
                    · (intro W _; go_simp; try with_reducible rfl)
                    try simp only [Act.put, List.getElem_toArray, List.getElem_cons_zero, List.getElem_cons_succ, List.setIfInBounds_toArray, List.set_cons_zero, List.set_cons_succ]
                    refine wpAnyH_done (by kernel_rfl) ?_ _
                    go_wp2_with fail
                    go_meet
                    exact ⟨_, _, _, _, _, rfl, rfl, pages_set HP.out f13_453.out, varAt_sub f13_475.out (by simp), f13_473.out, f13_474.out, hH13_470.2, off_lo f13_463.out f13_462.out.1, off_lo f13_463.out f13_462.out.2⟩
        · have f13_480 := Lib.hid (codL_lt f13_2.out)
          have f13_481 := Lib.hid hHeld.2.size
          have f13_483 := Lib.hid (varAt_more f13_1.out (Nat.le_refl _))
          simp only [List.getElem_toArray, List.getElem_cons_zero, List.getElem_cons_succ]
          rw [if_pos (by rfl)]
          with_reducible refine op_newDev (by rfl) (fun W13_476 hP13_478 hb13_479 => ?_)
          have f13_484 := Lib.hid (f13_483.out.keep hb13_479)
          have f13_485 := Lib.hid (codL_keep f13_2.out hb13_479)
          have f13_482 := Lib.hid hP13_478
          refine hK.out _ _ (hHeld.keep hb13_479) (fun hH13_477 => ?_)
          clear hK K
          try simp only [Act.put, List.getElem_toArray, List.getElem_cons_zero, List.getElem_cons_succ, List.setIfInBounds_toArray, List.set_cons_zero, List.set_cons_succ]
          refine wpAnyH_ready (rs := [0, 2]) (by kernel_rfl) (by simp) (AllReadyH.cons rfl (fun K hK => ?_) (AllReadyH.cons rfl (fun K hK => ?_) AllReadyH.nil))
          · simp only [List.getElem_toArray, List.getElem_cons_zero, List.getElem_cons_succ]
            rw [if_pos (by rfl)]
            with_reducible refine op_loadV _ f13_484.out.row f13_484.out.len (by rfl) ?_ ?_
            · rfl
            refine hK.out _ _ (hH13_477) (fun hH13_487 => ?_)
            clear hK K
            try simp only [Act.put, List.getElem_toArray, List.getElem_cons_zero, List.getElem_cons_succ, List.setIfInBounds_toArray, List.set_cons_zero, List.set_cons_succ]
            refine wpAnyH_ready (rs := [2]) (by kernel_rfl) (by simp) (AllReadyH.cons rfl (fun K hK => ?_) AllReadyH.nil)
            · go_simp
              go_wp2_with (go_at_call 17; (with_reducible refine (nextL_any xc _ 2 _ f13_485.out (by decide)).mono ?_); rintro e W13_488 ⟨r13_491, rfl, q13_492, q13_493, _, ⟨_, _, _, hC13_494⟩, hg13_490⟩)
              obtain ⟨k13_495, rfl⟩ := Int.eq_ofNat_of_zero_le q13_492
              have f13_496 : Hid (k13_495 < 2) := Lib.hid (by have := q13_493 (by decide); omega)
              clear q13_492 q13_493
              have f13_497 := Lib.hid (f13_484.out.grown hg13_490 (fun k e => by injection e with e; subst e; simp))
              have f13_498 := Lib.hid (RowAt.grown f13_482.out hg13_490 (fun e => by injection e with e; exact Nat.ne_of_lt f13_480.out e))
              have f13_499 := Lib.hid hC13_494
              refine hK.out _ _ (hH13_487.grown hg13_490 (fun _ hx => by cases hx) (fun k e => by injection e with e; subst e; exact hwc.out)) (fun hH13_489 => ?_)
              clear hK K
              try simp only [Act.put, List.getElem_toArray, List.getElem_cons_zero, List.getElem_cons_succ, List.setIfInBounds_toArray, List.set_cons_zero, List.set_cons_succ]
              refine wpAnyH_ready (rs := [4]) (by kernel_rfl) (by simp) (AllReadyH.cons rfl (fun K hK => ?_) AllReadyH.nil)
              · go_simp
                go_wp2_with (go_at_call 18; (with_reducible refine (bytes_any xc _ _ f13_499.out).mono ?_); rintro e W13_500 ⟨x13_503, rfl, hx13_504, ⟨_, _, hC13_505⟩, hg13_502⟩)
                have f13_506 := Lib.hid (f13_497.out.grown hg13_502 (fun k e => by injection e with e; subst e; simp))
                have f13_507 := Lib.hid (RowAt.grown f13_498.out hg13_502 (fun e => by injection e with e; exact Nat.ne_of_lt f13_480.out e))
                have f13_508 := Lib.hid hC13_505
                have f13_509 := Lib.hid hx13_504
                refine hK.out _ _ (hH13_489.grown hg13_502 (fun _ hx => by cases hx) (fun k e => by injection e with e; subst e; exact hwc.out)) (fun hH13_501 => ?_)
                clear hK K
                try simp only [Act.put, List.getElem_toArray, List.getElem_cons_zero, List.getElem_cons_succ, List.setIfInBounds_toArray, List.set_cons_zero, List.set_cons_succ]
                refine wpAnyH_ready (rs := [5]) (by kernel_rfl) (by simp) (AllReadyH.cons rfl (fun K hK => ?_) AllReadyH.nil)
                · go_simp
                  go_wp2_with (go_at_call 20; (with_reducible refine (write_b _ _ (dD (ps.set k13_495 x13_503) (i + 1) n) (k13_495 : Int) x13_503 (dd_write HP.out f13_509.out f13_496.out hin.out hn6.out).1 (dd_write HP.out f13_509.out f13_496.out hin.out hn6.out).2 _ f13_506.out.dev (dd_fits HP.out)).mono ?_); rintro e W13_510 ⟨v13_515, rfl, hV13_513, hL13_514, hb13_512⟩)
                  have f13_516 := Lib.hid (And.intro f13_506.out.row.lt (codL_lt f13_508.out))
                  have f13_517 := Lib.hid (hL13_514 _ (Nat.le_refl _))
                  have f13_519 := Lib.hid (off_lo f13_517.out f13_507.out.lt)
                  have f13_520 := Lib.hid (f13_506.out.keep hb13_512)
                  have f13_521 := Lib.hid (codL_keep f13_508.out hb13_512)
                  have f13_522 := Lib.hid (RowAt.keep f13_507.out hb13_512)
                  have f13_518 := Lib.hid hV13_513
                  refine hK.out _ _ (hH13_501.keep hb13_512) (fun hH13_511 => ?_)
                  clear hK K
                  try simp only [Act.put, List.getElem_toArray, List.getElem_cons_zero, List.getElem_cons_succ, List.setIfInBounds_toArray, List.set_cons_zero, List.set_cons_succ]
                  refine wpAnyH_take (i := 6) (v := ?_) rfl (by kernel_rfl) (by kernel_rfl) (by kernel_rfl) (fun _ _ _ h => h) (Or.inl ⟨by rfl, ?_⟩) (by assumption) ?_
                  rotate_left
                  · (intro W _; go_simp; try with_reducible rfl)
                  try simp only [Act.put, List.getElem_toArray, List.getElem_cons_zero, List.getElem_cons_succ, List.setIfInBounds_toArray, List.set_cons_zero, List.set_cons_succ]
                  refine wpAnyH_take (i := 7) (v := ?_) rfl (by kernel_rfl) (by kernel_rfl) (by kernel_rfl) (fun _ _ _ h => h) (Or.inl ⟨by rfl, ?_⟩) (by assumption) ?_
                  rotate_left
                  · (intro W _; go_simp; try with_reducible rfl)
                  try simp only [Act.put, List.getElem_toArray, List.getElem_cons_zero, List.getElem_cons_succ, List.setIfInBounds_toArray, List.set_cons_zero, List.set_cons_succ]
                  refine wpAnyH_take (i := 8) (v := ?_) rfl (by kernel_rfl) (by kernel_rfl) (by kernel_rfl) (fun _ _ _ h => h) (Or.inl ⟨by rfl, ?_⟩) (by assumption) ?_
                  rotate_left
                  · (intro W _; go_simp; try with_reducible rfl)
                  try simp only [Act.put, List.getElem_toArray, List.getElem_cons_zero, List.getElem_cons_succ, List.setIfInBounds_toArray, List.set_cons_zero, List.set_cons_succ]
                  refine wpAnyH_ready (rs := [10]) (by kernel_rfl) (by simp) (AllReadyH.cons rfl (fun K hK => ?_) AllReadyH.nil)
                  · simp only [List.getElem_toArray, List.getElem_cons_zero, List.getElem_cons_succ]
                    rw [if_pos (by rfl)]
                    have hd0 : dev0.length = 5 := rfl
                    with_reducible refine op_storeV f13_518.out f13_522.out hd0 (by rfl) ?_ ?_ (fun W13_523 hP13_525 hS13_526 => ?_)
                    · rfl
                    · rfl
                    have f13_527 := Lib.hid (var_put hP13_525 hS13_526 f13_518.out f13_519.out)
                    have f13_529 := Lib.hid (f13_520.out.stored hS13_526 (by simp))
                    have f13_528 := Lib.hid (codL_stored f13_521.out hS13_526 f13_480.out)
                    refine hK.out _ _ (hH13_511.stored (fun _ hx => by cases hx) f13_481.out hS13_526) (fun hH13_524 => ?_)
                    clear hK K
                    try simp only [Act.put, List.getElem_toArray, List.getElem_cons_zero, List.getElem_cons_succ, List.setIfInBounds_toArray, List.set_cons_zero, List.set_cons_succ]
                    refine wpAnyH_take (i := 11) (v := ?_) rfl (by kernel_rfl) (by kernel_rfl) (by kernel_rfl) (fun _ _ _ h => h) (Or.inl ⟨by rfl, ?_⟩) (by assumption) ?_
                    rotate_left
                    · (intro W _; go_simp; try with_reducible rfl)
                    try simp only [Act.put, List.getElem_toArray, List.getElem_cons_zero, List.getElem_cons_succ, List.setIfInBounds_toArray, List.set_cons_zero, List.set_cons_succ]
                    refine wpAnyH_done (by kernel_rfl) ?_ _
                    go_wp2_with fail
                    go_meet
                    exact ⟨_, _, _, _, _, rfl, rfl, pages_set HP.out f13_509.out, varAt_sub f13_529.out (by simp), f13_527.out, f13_528.out, hH13_524.2, off_lo f13_517.out f13_516.out.1, off_lo f13_517.out f13_516.out.2⟩
          · go_simp
            go_wp2_with (go_at_call 17; (with_reducible refine (nextL_any xc _ 2 _ f13_485.out (by decide)).mono ?_); rintro e W13_530 ⟨r13_533, rfl, q13_534, q13_535, _, ⟨_, _, _, hC13_536⟩, hg13_532⟩)
            obtain ⟨k13_537, rfl⟩ := Int.eq_ofNat_of_zero_le q13_534
            have f13_538 : Hid (k13_537 < 2) := Lib.hid (by have := q13_535 (by decide); omega)
            clear q13_534 q13_535
            have f13_539 := Lib.hid (f13_484.out.grown hg13_532 (fun k e => by injection e with e; subst e; simp))
            have f13_540 := Lib.hid (RowAt.grown f13_482.out hg13_532 (fun e => by injection e with e; exact Nat.ne_of_lt f13_480.out e))
            have f13_541 := Lib.hid hC13_536
            refine hK.out _ _ (hH13_477.grown hg13_532 (fun _ hx => by cases hx) (fun k e => by injection e with e; subst e; exact hwc.out)) (fun hH13_531 => ?_)
            clear hK K
            try simp only [Act.put, List.getElem_toArray, List.getElem_cons_zero, List.getElem_cons_succ, List.setIfInBounds_toArray, List.set_cons_zero, List.set_cons_succ]
            refine wpAnyH_ready (rs := [0, 4]) (by kernel_rfl) (by simp) (AllReadyH.cons rfl (fun K hK => ?_) (AllReadyH.cons rfl (fun K hK => ?_) AllReadyH.nil))
            · simp only [List.getElem_toArray, List.getElem_cons_zero, List.getElem_cons_succ]
              rw [if_pos (by rfl)]
              with_reducible refine op_loadV _ f13_539.out.row f13_539.out.len (by rfl) ?_ ?_
              · rfl
              refine hK.out _ _ (hH13_531) (fun hH13_543 => ?_)
              clear hK K
              try simp only [Act.put, List.getElem_toArray, List.getElem_cons_zero, List.getElem_cons_succ, List.setIfInBounds_toArray, List.set_cons_zero, List.set_cons_succ]
              refine wpAnyH_ready (rs := [4]) (by kernel_rfl) (by simp) (AllReadyH.cons rfl (fun K hK => ?_) AllReadyH.nil)
              · go_simp
                go_wp2_with (go_at_call 18; (with_reducible refine (bytes_any xc _ _ f13_541.out).mono ?_); rintro e W13_544 ⟨x13_547, rfl, hx13_548, ⟨_, _, hC13_549⟩, hg13_546⟩)
                have f13_550 := Lib.hid (f13_539.out.grown hg13_546 (fun k e => by injection e with e; subst e; simp))
                have f13_551 := Lib.hid (RowAt.grown f13_540.out hg13_546 (fun e => by injection e with e; exact Nat.ne_of_lt f13_480.out e))
                have f13_552 := Lib.hid hC13_549
                have f13_553 := Lib.hid hx13_548
                refine hK.out _ _ (hH13_543.grown hg13_546 (fun _ hx => by cases hx) (fun k e => by injection e with e; subst e; exact hwc.out)) (fun hH13_545 => ?_)
                clear hK K
                try simp only [Act.put, List.getElem_toArray, List.getElem_cons_zero, List.getElem_cons_succ, List.setIfInBounds_toArray, List.set_cons_zero, List.set_cons_succ]
                refine wpAnyH_ready (rs := [5]) (by kernel_rfl) (by simp) (AllReadyH.cons rfl (fun K hK => ?_) AllReadyH.nil)
                · go_simp
                  go_wp2_with (go_at_call 20; (with_reducible refine (write_b _ _ (dD (ps.set k13_537 x13_547) (i + 1) n) (k13_537 : Int) x13_547 (dd_write HP.out f13_553.out f13_538.out hin.out hn6.out).1 (dd_write HP.out f13_553.out f13_538.out hin.out hn6.out).2 _ f13_550.out.dev (dd_fits HP.out)).mono ?_); rintro e W13_554 ⟨v13_559, rfl, hV13_557, hL13_558, hb13_556⟩)
                  have f13_560 := Lib.hid (And.intro f13_550.out.row.lt (codL_lt f13_552.out))
                  have f13_561 := Lib.hid (hL13_558 _ (Nat.le_refl _))
                  have f13_563 := Lib.hid (off_lo f13_561.out f13_551.out.lt)
                  have f13_564 := Lib.hid (f13_550.out.keep hb13_556)
                  have f13_565 := Lib.hid (codL_keep f13_552.out hb13_556)
                  have f13_566 := Lib.hid (RowAt.keep f13_551.out hb13_556)
                  have f13_562 := Lib.hid hV13_557
                  refine hK.out _ _ (hH13_545.keep hb13_556) (fun hH13_555 => ?_)
                  clear hK K
                  try simp only [Act.put, List.getElem_toArray, List.getElem_cons_zero, List.getElem_cons_succ, List.setIfInBounds_toArray, List.set_cons_zero, List.set_cons_succ]
                  refine wpAnyH_take (i := 6) (v := ?_) rfl (by kernel_rfl) (by kernel_rfl) (by kernel_rfl) (fun _ _ _ h => h) (Or.inl ⟨by rfl, ?_⟩) (by assumption) ?_
                  rotate_left
                  · (intro W _; go_simp; try with_reducible rfl)
                  try simp only [Act.put, List.getElem_toArray, List.getElem_cons_zero, List.getElem_cons_succ, List.setIfInBounds_toArray, List.set_cons_zero, List.set_cons_succ]
                  refine wpAnyH_take (i := 7) (v := ?_) rfl (by kernel_rfl) (by kernel_rfl) (by kernel_rfl) (fun _ _ _ h => h) (Or.inl ⟨by rfl, ?_⟩) (by assumption) ?_
                  rotate_left
                  · (intro W _; go_simp; try with_reducible rfl)
                  try simp only [Act.put, List.getElem_toArray, List.getElem_cons_zero, List.getElem_cons_succ, List.setIfInBounds_toArray, List.set_cons_zero, List.set_cons_succ]
                  refine wpAnyH_take (i := 8) (v := ?_) rfl (by kernel_rfl) (by kernel_rfl) (by kernel_rfl) (fun _ _ _ h => h) (Or.inl ⟨by rfl, ?_⟩) (by assumption) ?_
                  rotate_left
                  · (intro W _; go_simp; try with_reducible rfl)
                  try simp only [Act.put, List.getElem_toArray, List.getElem_cons_zero, List.getElem_cons_succ, List.setIfInBounds_toArray, List.set_cons_zero, List.set_cons_succ]
                  refine wpAnyH_ready (rs := [10]) (by kernel_rfl) (by simp) (AllReadyH.cons rfl (fun K hK => ?_) AllReadyH.nil)
                  · simp only [List.getElem_toArray, List.getElem_cons_zero, List.getElem_cons_succ]
                    rw [if_pos (by rfl)]
                    have hd0 : dev0.length = 5 := rfl
                    with_reducible refine op_storeV f13_562.out f13_566.out hd0 (by rfl) ?_ ?_ (fun W13_567 hP13_569 hS13_570 => ?_)
                    · rfl
                    · rfl
                    have f13_571 := Lib.hid (var_put hP13_569 hS13_570 f13_562.out f13_563.out)
                    have f13_573 := Lib.hid (f13_564.out.stored hS13_570 (by simp))
                    have f13_572 := Lib.hid (codL_stored f13_565.out hS13_570 f13_480.out)
                    refine hK.out _ _ (hH13_555.stored (fun _ hx => by cases hx) f13_481.out hS13_570) (fun hH13_568 => ?_)
                    clear hK K
                    try simp only [Act.put, List.getElem_toArray, List.getElem_cons_zero, List.getElem_cons_succ, List.setIfInBounds_toArray, List.set_cons_zero, List.set_cons_succ]
                    refine wpAnyH_take (i := 11) (v := ?_) rfl (by kernel_rfl) (by kernel_rfl) (by kernel_rfl) (fun _ _ _ h => h) (Or.inl ⟨by rfl, ?_⟩) (by assumption) ?_
                    rotate_left
                    · (intro W _; go_simp; try with_reducible rfl)
                    try simp only [Act.put, List.getElem_toArray, List.getElem_cons_zero, List.getElem_cons_succ, List.setIfInBounds_toArray, List.set_cons_zero, List.set_cons_succ]
                    refine wpAnyH_done (by kernel_rfl) ?_ _
                    go_wp2_with fail
                    go_meet
                    exact ⟨_, _, _, _, _, rfl, rfl, pages_set HP.out f13_553.out, varAt_sub f13_573.out (by simp), f13_571.out, f13_572.out, hH13_568.2, off_lo f13_561.out f13_560.out.1, off_lo f13_561.out f13_560.out.2⟩
            · go_simp
              go_wp2_with (go_at_call 18; (with_reducible refine (bytes_any xc _ _ f13_541.out).mono ?_); rintro e W13_574 ⟨x13_577, rfl, hx13_578, ⟨_, _, hC13_579⟩, hg13_576⟩)
              have f13_580 := Lib.hid (f13_539.out.grown hg13_576 (fun k e => by injection e with e; subst e; simp))
              have f13_581 := Lib.hid (RowAt.grown f13_540.out hg13_576 (fun e => by injection e with e; exact Nat.ne_of_lt f13_480.out e))
              have f13_582 := Lib.hid hC13_579
              have f13_583 := Lib.hid hx13_578
              refine hK.out _ _ (hH13_531.grown hg13_576 (fun _ hx => by cases hx) (fun k e => by injection e with e; subst e; exact hwc.out)) (fun hH13_575 => ?_)
              clear hK K
              try simp only [Act.put, List.getElem_toArray, List.getElem_cons_zero, List.getElem_cons_succ, List.setIfInBounds_toArray, List.set_cons_zero, List.set_cons_succ]
              refine wpAnyH_ready (rs := [0]) (by kernel_rfl) (by simp) (AllReadyH.cons rfl (fun K hK => ?_) AllReadyH.nil)
              · simp only [List.getElem_toArray, List.getElem_cons_zero, List.getElem_cons_succ]
                rw [if_pos (by rfl)]
                with_reducible refine op_loadV _ f13_580.out.row f13_580.out.len (by rfl) ?_ ?_
                · rfl
                refine hK.out _ _ (hH13_575) (fun hH13_585 => ?_)
                clear hK K
                try simp only [Act.put, List.getElem_toArray, List.getElem_cons_zero, List.getElem_cons_succ, List.setIfInBounds_toArray, List.set_cons_zero, List.set_cons_succ]
                refine wpAnyH_ready (rs := [5]) (by kernel_rfl) (by simp) (AllReadyH.cons rfl (fun K hK => ?_) AllReadyH.nil)
                · go_simp
                  go_wp2_with (go_at_call 20; (with_reducible refine (write_b _ _ (dD (ps.set k13_537 x13_577) (i + 1) n) (k13_537 : Int) x13_577 (dd_write HP.out f13_583.out f13_538.out hin.out hn6.out).1 (dd_write HP.out f13_583.out f13_538.out hin.out hn6.out).2 _ f13_580.out.dev (dd_fits HP.out)).mono ?_); rintro e W13_586 ⟨v13_591, rfl, hV13_589, hL13_590, hb13_588⟩)
                  have f13_592 := Lib.hid (And.intro f13_580.out.row.lt (codL_lt f13_582.out))
                  have f13_593 := Lib.hid (hL13_590 _ (Nat.le_refl _))
                  have f13_595 := Lib.hid (off_lo f13_593.out f13_581.out.lt)
                  have f13_596 := Lib.hid (f13_580.out.keep hb13_588)
                  have f13_597 := Lib.hid (codL_keep f13_582.out hb13_588)
                  have f13_598 := Lib.hid (RowAt.keep f13_581.out hb13_588)
                  have f13_594 := Lib.hid hV13_589
                  refine hK.out _ _ (hH13_585.keep hb13_588) (fun hH13_587 => ?_)
                  clear hK K
                  try simp only [Act.put, List.getElem_toArray, List.getElem_cons_zero, List.getElem_cons_succ, List.setIfInBounds_toArray, List.set_cons_zero, List.set_cons_succ]
                  refine wpAnyH_take (i := 6) (v := ?_) rfl (by kernel_rfl) (by kernel_rfl) (by kernel_rfl) (fun _ _ _ h => h) (Or.inl ⟨by rfl, ?_⟩) (by assumption) ?_
                  rotate_left
                  · (intro W _; go_simp; try with_reducible rfl)
                  try simp only [Act.put, List.getElem_toArray, List.getElem_cons_zero, List.getElem_cons_succ, List.setIfInBounds_toArray, List.set_cons_zero, List.set_cons_succ]
                  refine wpAnyH_take (i := 7) (v := ?_) rfl (by kernel_rfl) (by kernel_rfl) (by kernel_rfl) (fun _ _ _ h => h) (Or.inl ⟨by rfl, ?_⟩) (by assumption) ?_
                  rotate_left
                  · (intro W _; go_simp; try with_reducible rfl)
                  try simp only [Act.put, List.getElem_toArray, List.getElem_cons_zero, List.getElem_cons_succ, List.setIfInBounds_toArray, List.set_cons_zero, List.set_cons_succ]
                  refine wpAnyH_take (i := 8) (v := ?_) rfl (by kernel_rfl) (by kernel_rfl) (by kernel_rfl) (fun _ _ _ h => h) (Or.inl ⟨by rfl, ?_⟩) (by assumption) ?_
                  rotate_left
                  · (intro W _; go_simp; try with_reducible rfl)
                  try simp only [Act.put, List.getElem_toArray, List.getElem_cons_zero, List.getElem_cons_succ, List.setIfInBounds_toArray, List.set_cons_zero, List.set_cons_succ]
                  refine wpAnyH_ready (rs := [10]) (by kernel_rfl) (by simp) (AllReadyH.cons rfl (fun K hK => ?_) AllReadyH.nil)
                  · simp only [List.getElem_toArray, List.getElem_cons_zero, List.getElem_cons_succ]
                    rw [if_pos (by rfl)]
                    have hd0 : dev0.length = 5 := rfl
                    with_reducible refine op_storeV f13_594.out f13_598.out hd0 (by rfl) ?_ ?_ (fun W13_599 hP13_601 hS13_602 => ?_)
                    · rfl
                    · rfl
                    have f13_603 := Lib.hid (var_put hP13_601 hS13_602 f13_594.out f13_595.out)
                    have f13_605 := Lib.hid (f13_596.out.stored hS13_602 (by simp))
                    have f13_604 := Lib.hid (codL_stored f13_597.out hS13_602 f13_480.out)
                    refine hK.out _ _ (hH13_587.stored (fun _ hx => by cases hx) f13_481.out hS13_602) (fun hH13_600 => ?_)
                    clear hK K
                    try simp only [Act.put, List.getElem_toArray, List.getElem_cons_zero, List.getElem_cons_succ, List.setIfInBounds_toArray, List.set_cons_zero, List.set_cons_succ]
                    refine wpAnyH_take (i := 11) (v := ?_) rfl (by kernel_rfl) (by kernel_rfl) (by kernel_rfl) (fun _ _ _ h => h) (Or.inl ⟨by rfl, ?_⟩) (by assumption) ?_
                    rotate_left
                    · (intro W _; go_simp; try with_reducible rfl)
                    try simp only [Act.put, List.getElem_toArray, List.getElem_cons_zero, List.getElem_cons_succ, List.setIfInBounds_toArray, List.set_cons_zero, List.set_cons_succ]
                    refine wpAnyH_done (by kernel_rfl) ?_ _
                    go_wp2_with fail
                    go_meet
                    exact ⟨_, _, _, _, _, rfl, rfl, pages_set HP.out f13_583.out, varAt_sub f13_605.out (by simp), f13_603.out, f13_604.out, hH13_600.2, off_lo f13_593.out f13_592.out.1, off_lo f13_593.out f13_592.out.2⟩
      case rest =>
        obtain ⟨xx, m2, ps2, v, vs2, rfl, rfl, hp2, hX, hZ, hC, hB, ho1, ho2⟩ := hcut
        have X2 := Lib.hid hX
        have Z2 := Lib.hid hZ
        have C2 := Lib.hid hC
        have B2 := Lib.hid hB
        have HP2 := Lib.hid hp2
        have OF := Lib.hid (And.intro ho1 ho2)
        have hz3 : wc.cell? ⟨xx, 3, none⟩ = some (.bool (dD ps2 (i + 1) n).dead) := by
          obtain ⟨_, _, _, e, _⟩ := hZ.dev
          exact hZ.row.cells 3 _ (by rw [e]; rfl)
        have hdd : (dD ps2 (i + 1) n).dead = decide ((i : Int) = (n : Int) - 1) := by
          unfold dD
          by_cases h : i + 1 < n
          · rw [if_pos h]; exact (decide_eq_false (by omega)).symm
          · rw [if_neg h]; exact (decide_eq_true (by omega)).symm
        have hdd2 : ((i : Int) == (n : Int) - 1) = decide ((i : Int) = (n : Int) - 1) := rfl
        rw [hdd] at hz3
        have n1 : (1 : Int) ≤ (n : Int) := by have := HN.out; omega
        clear hX hZ hC hB hp2 ho1 ho2 XR CR BR hdd
        cases hq : decide ((i : Int) = (n : Int) - 1)
        all_goals rw [hq] at hz3 hdd2
        all_goals go_wp2_with (first
          | (refine wp_loadV _ Z2.out.row Z2.out.len rfl rfl rfl ?_)
          | (refine wp_storeV Z2.out.dev X2.out.row X2.out.len rfl rfl rfl rfl ?_; intro w7 hP hS; have X3 : Hid (VarAt xd [xc] v (dD ps2 (i + 1) n) w7) := Lib.hid ⟨hP, devV_stored Z2.out.dev hS OF.out.1, OF.out.1, fun y h => by (obtain rfl : y = xc := by simpa using h); exact ⟨Nat.ne_of_lt KD.out.1, OF.out.2⟩⟩; have C3 := Lib.hid (codL_stored C2.out hS KD.out.1); have B3 := Lib.hid (hS.below B2.out KD.out.2); clear hP hS))
        all_goals go_roundw
        case measure => simp [intOf]; omega
        case measure => simp [intOf]; omega
        all_goals exact ⟨i + 1, _, ps2, v, by omega, by go_num, HP2, X3, C3, B3⟩
    · obtain rfl : i = n := by omega
      have HR := Lib.hid (dead_read (p := 0) (dd_dead (ps := ps) HP.out HN.out.2))
      go_upto_region 18 with (first
        | (refine wp_loadV _ XR.out.row XR.out.len rfl rfl rfl ?_)
        | (go_at_call 31; refine (read_b _ _ 0 ByteArray.empty 10 HR.out.1 HR.out.2 _ XR.out.dev (dd_fits HP.out)).mono ?_; rintro e w6 ⟨rfl, hb⟩; have XS := Lib.hid (XR.out.keep hb); have CS := Lib.hid (codL_keep CR.out hb); have BS := Lib.hid (BR.out.trans (hb.mono BR.out.size)); clear hb XR CR BR))
      go_cut [17] from 94 to 100 (fun s17 wx => s17 = .int .i64 10 ∧ ∃ m, VarAt xd [xc] vs (dD ps i i) wx ∧ CodL xc m wx ∧ Below w.heap.size w wx)
      case first =>
        refine wp_region_held_drew (S := St [] w) (by kernel_rfl) (st_nil BS.out).drew (fun hHeld => ?_)
        have f18_1 := Lib.hid (XS.out.keep (Below.refl _ _).drew)
        have f18_2 := Lib.hid (codL_keep CS.out (Below.refl _ _).drew)
        refine wpAnyH_take (i := 1) (v := ?_) rfl (by kernel_rfl) (by kernel_rfl) (by kernel_rfl) (fun _ _ _ h => h) (Or.inl ⟨by rfl, ?_⟩) (by assumption) ?_
        rotate_left
        · (intro W _; go_simp; try with_reducible rfl)
        try simp only [Act.put, List.getElem_toArray, List.getElem_cons_zero, List.getElem_cons_succ, List.setIfInBounds_toArray, List.set_cons_zero, List.set_cons_succ]
        refine wpAnyH_ready (rs := [0, 2, 7]) (by kernel_rfl) (by simp) (AllReadyH.cons rfl (fun K hK => ?_) (AllReadyH.cons rfl (fun K hK => ?_) (AllReadyH.cons rfl (fun K hK => ?_) AllReadyH.nil)))
        · simp only [List.getElem_toArray, List.getElem_cons_zero, List.getElem_cons_succ]
          rw [if_pos (by rfl)]
          with_reducible refine op_loadV _ f18_1.out.row f18_1.out.len (by rfl) ?_ ?_
          · rfl
          refine hK.out _ _ (hHeld) (fun hH18_4 => ?_)
          clear hK K
          try simp only [Act.put, List.getElem_toArray, List.getElem_cons_zero, List.getElem_cons_succ, List.setIfInBounds_toArray, List.set_cons_zero, List.set_cons_succ]
          refine wpAnyH_ready (rs := [2, 7]) (by kernel_rfl) (by simp) (AllReadyH.cons rfl (fun K hK => ?_) (AllReadyH.cons rfl (fun K hK => ?_) AllReadyH.nil))
          · go_simp
            go_wp2_with (go_at_call 18; (with_reducible refine (bytes_any xc _ _ f18_2.out).mono ?_); rintro e W18_5 ⟨x18_8, rfl, hx18_9, ⟨_, _, hC18_10⟩, hg18_7⟩)
            have f18_11 := Lib.hid (f18_1.out.grown hg18_7 (fun k e => by injection e with e; subst e; simp))
            have f18_12 := Lib.hid hC18_10
            have f18_13 := Lib.hid hx18_9
            refine hK.out _ _ (hH18_4.grown hg18_7 (fun _ hx => by cases hx) (fun k e => by injection e with e; subst e; exact hwc.out)) (fun hH18_6 => ?_)
            clear hK K
            try simp only [Act.put, List.getElem_toArray, List.getElem_cons_zero, List.getElem_cons_succ, List.setIfInBounds_toArray, List.set_cons_zero, List.set_cons_succ]
            refine wpAnyH_ready (rs := [3, 7]) (by kernel_rfl) (by simp) (AllReadyH.cons rfl (fun K hK => ?_) (AllReadyH.cons rfl (fun K hK => ?_) AllReadyH.nil))
            · go_simp
              go_wp2_with (go_at_call 20; (with_reducible refine (write_dead _ _ 0 x18_8 (dd_dead (ps := ps) HP.out HN.out.2) _ f18_11.out.dev (dd_fits HP.out)).mono ?_); rintro e W18_14 ⟨v18_19, rfl, hV18_17, hb18_16⟩)
              have f18_20 := Lib.hid (And.intro f18_11.out.row.lt (codL_lt f18_12.out))
              have f18_23 := Lib.hid (f18_11.out.keep hb18_16)
              have f18_24 := Lib.hid (codL_keep f18_12.out hb18_16)
              have f18_22 := Lib.hid hV18_17
              refine hK.out _ _ (hH18_6.keep hb18_16) (fun hH18_15 => ?_)
              clear hK K
              try simp only [Act.put, List.getElem_toArray, List.getElem_cons_zero, List.getElem_cons_succ, List.setIfInBounds_toArray, List.set_cons_zero, List.set_cons_succ]
              refine wpAnyH_take (i := 4) (v := ?_) rfl (by kernel_rfl) (by kernel_rfl) (by kernel_rfl) (fun _ _ _ h => h) (Or.inl ⟨by rfl, ?_⟩) (by assumption) ?_
              rotate_left
              · (intro W _; go_simp; try with_reducible rfl)
              try simp only [Act.put, List.getElem_toArray, List.getElem_cons_zero, List.getElem_cons_succ, List.setIfInBounds_toArray, List.set_cons_zero, List.set_cons_succ]
              refine wpAnyH_take (i := 5) (v := ?_) rfl (by kernel_rfl) (by kernel_rfl) (by kernel_rfl) (fun _ _ _ h => h) (Or.inl ⟨by rfl, ?_⟩) (by assumption) ?_
              rotate_left
              · (intro W _; go_simp; try with_reducible rfl)
              try simp only [Act.put, List.getElem_toArray, List.getElem_cons_zero, List.getElem_cons_succ, List.setIfInBounds_toArray, List.set_cons_zero, List.set_cons_succ]
              refine wpAnyH_take (i := 6) (v := ?_) rfl (by kernel_rfl) (by kernel_rfl) (by kernel_rfl) (fun _ _ _ h => h) (Or.inl ⟨by rfl, ?_⟩) (by assumption) ?_
              rotate_left
              · (intro W _; go_simp; try with_reducible rfl)
              try simp only [Act.put, List.getElem_toArray, List.getElem_cons_zero, List.getElem_cons_succ, List.setIfInBounds_toArray, List.set_cons_zero, List.set_cons_succ]
              refine wpAnyH_ready (rs := [7]) (by kernel_rfl) (by simp) (AllReadyH.cons rfl (fun K hK => ?_) AllReadyH.nil)
              · have f18_29 := Lib.hid (codL_lt f18_24.out)
                have f18_30 := Lib.hid hH18_15.2.size
                have f18_33 := Lib.hid (off_new f18_22.out (Nat.le_refl _))
                have f18_32 := Lib.hid (varAt_more f18_23.out (Nat.le_refl _))
                simp only [List.getElem_toArray, List.getElem_cons_zero, List.getElem_cons_succ]
                rw [if_pos (by rfl)]
                with_reducible refine op_newDev (by rfl) (fun W18_25 hP18_27 hb18_28 => ?_)
                have f18_34 := Lib.hid (f18_32.out.keep hb18_28)
                have f18_35 := Lib.hid (codL_keep f18_24.out hb18_28)
                have f18_36 := Lib.hid (f18_22.out.keep hb18_28)
                have f18_31 := Lib.hid hP18_27
                refine hK.out _ _ (hH18_15.keep hb18_28) (fun hH18_26 => ?_)
                clear hK K
                try simp only [Act.put, List.getElem_toArray, List.getElem_cons_zero, List.getElem_cons_succ, List.setIfInBounds_toArray, List.set_cons_zero, List.set_cons_succ]
                refine wpAnyH_ready (rs := [8]) (by kernel_rfl) (by simp) (AllReadyH.cons rfl (fun K hK => ?_) AllReadyH.nil)
                · simp only [List.getElem_toArray, List.getElem_cons_zero, List.getElem_cons_succ]
                  rw [if_pos (by rfl)]
                  have hd0 : dev0.length = 5 := rfl
                  with_reducible refine op_storeV f18_36.out f18_31.out hd0 (by rfl) ?_ ?_ (fun W18_37 hP18_39 hS18_40 => ?_)
                  · rfl
                  · rfl
                  have f18_43 := Lib.hid (f18_34.out.stored hS18_40 (by simp))
                  have f18_42 := Lib.hid (codL_stored f18_35.out hS18_40 f18_29.out)
                  refine hK.out _ _ (hH18_26.stored (fun _ hx => by cases hx) f18_30.out hS18_40) (fun hH18_38 => ?_)
                  clear hK K
                  try simp only [Act.put, List.getElem_toArray, List.getElem_cons_zero, List.getElem_cons_succ, List.setIfInBounds_toArray, List.set_cons_zero, List.set_cons_succ]
                  refine wpAnyH_take (i := 9) (v := ?_) rfl (by kernel_rfl) (by kernel_rfl) (by kernel_rfl) (fun _ _ _ h => h) (Or.inl ⟨by rfl, ?_⟩) (by assumption) ?_
                  rotate_left
                  · (intro W _; go_simp; try with_reducible rfl)
                  try simp only [Act.put, List.getElem_toArray, List.getElem_cons_zero, List.getElem_cons_succ, List.setIfInBounds_toArray, List.set_cons_zero, List.set_cons_succ]
                  refine wpAnyH_done (by kernel_rfl) ?_ _
                  go_wp2_with fail
                  go_meet
                  exact ⟨rfl, _, varAt_sub f18_43.out (by simp), f18_42.out, hH18_38.2⟩
            · have f18_48 := Lib.hid (codL_lt f18_12.out)
              have f18_49 := Lib.hid hH18_6.2.size
              have f18_51 := Lib.hid (varAt_more f18_11.out (Nat.le_refl _))
              simp only [List.getElem_toArray, List.getElem_cons_zero, List.getElem_cons_succ]
              rw [if_pos (by rfl)]
              with_reducible refine op_newDev (by rfl) (fun W18_44 hP18_46 hb18_47 => ?_)
              have f18_52 := Lib.hid (f18_51.out.keep hb18_47)
              have f18_53 := Lib.hid (codL_keep f18_12.out hb18_47)
              have f18_50 := Lib.hid hP18_46
              refine hK.out _ _ (hH18_6.keep hb18_47) (fun hH18_45 => ?_)
              clear hK K
              try simp only [Act.put, List.getElem_toArray, List.getElem_cons_zero, List.getElem_cons_succ, List.setIfInBounds_toArray, List.set_cons_zero, List.set_cons_succ]
              refine wpAnyH_ready (rs := [3]) (by kernel_rfl) (by simp) (AllReadyH.cons rfl (fun K hK => ?_) AllReadyH.nil)
              · go_simp
                go_wp2_with (go_at_call 20; (with_reducible refine (write_dead _ _ 0 x18_8 (dd_dead (ps := ps) HP.out HN.out.2) _ f18_52.out.dev (dd_fits HP.out)).mono ?_); rintro e W18_54 ⟨v18_59, rfl, hV18_57, hb18_56⟩)
                have f18_60 := Lib.hid (And.intro f18_52.out.row.lt (codL_lt f18_53.out))
                have f18_63 := Lib.hid (f18_52.out.keep hb18_56)
                have f18_64 := Lib.hid (codL_keep f18_53.out hb18_56)
                have f18_65 := Lib.hid (RowAt.keep f18_50.out hb18_56)
                have f18_62 := Lib.hid hV18_57
                refine hK.out _ _ (hH18_45.keep hb18_56) (fun hH18_55 => ?_)
                clear hK K
                try simp only [Act.put, List.getElem_toArray, List.getElem_cons_zero, List.getElem_cons_succ, List.setIfInBounds_toArray, List.set_cons_zero, List.set_cons_succ]
                refine wpAnyH_take (i := 4) (v := ?_) rfl (by kernel_rfl) (by kernel_rfl) (by kernel_rfl) (fun _ _ _ h => h) (Or.inl ⟨by rfl, ?_⟩) (by assumption) ?_
                rotate_left
                · (intro W _; go_simp; try with_reducible rfl)
                try simp only [Act.put, List.getElem_toArray, List.getElem_cons_zero, List.getElem_cons_succ, List.setIfInBounds_toArray, List.set_cons_zero, List.set_cons_succ]
                refine wpAnyH_take (i := 5) (v := ?_) rfl (by kernel_rfl) (by kernel_rfl) (by kernel_rfl) (fun _ _ _ h => h) (Or.inl ⟨by rfl, ?_⟩) (by assumption) ?_
                rotate_left
                · (intro W _; go_simp; try with_reducible rfl)
                try simp only [Act.put, List.getElem_toArray, List.getElem_cons_zero, List.getElem_cons_succ, List.setIfInBounds_toArray, List.set_cons_zero, List.set_cons_succ]
                refine wpAnyH_take (i := 6) (v := ?_) rfl (by kernel_rfl) (by kernel_rfl) (by kernel_rfl) (fun _ _ _ h => h) (Or.inl ⟨by rfl, ?_⟩) (by assumption) ?_
                rotate_left
                · (intro W _; go_simp; try with_reducible rfl)
                try simp only [Act.put, List.getElem_toArray, List.getElem_cons_zero, List.getElem_cons_succ, List.setIfInBounds_toArray, List.set_cons_zero, List.set_cons_succ]
                refine wpAnyH_ready (rs := [8]) (by kernel_rfl) (by simp) (AllReadyH.cons rfl (fun K hK => ?_) AllReadyH.nil)
                · simp only [List.getElem_toArray, List.getElem_cons_zero, List.getElem_cons_succ]
                  rw [if_pos (by rfl)]
                  have hd0 : dev0.length = 5 := rfl
                  with_reducible refine op_storeV f18_62.out f18_65.out hd0 (by rfl) ?_ ?_ (fun W18_66 hP18_68 hS18_69 => ?_)
                  · rfl
                  · rfl
                  have f18_72 := Lib.hid (f18_63.out.stored hS18_69 (by simp))
                  have f18_71 := Lib.hid (codL_stored f18_64.out hS18_69 f18_48.out)
                  refine hK.out _ _ (hH18_55.stored (fun _ hx => by cases hx) f18_49.out hS18_69) (fun hH18_67 => ?_)
                  clear hK K
                  try simp only [Act.put, List.getElem_toArray, List.getElem_cons_zero, List.getElem_cons_succ, List.setIfInBounds_toArray, List.set_cons_zero, List.set_cons_succ]
                  refine wpAnyH_take (i := 9) (v := ?_) rfl (by kernel_rfl) (by kernel_rfl) (by kernel_rfl) (fun _ _ _ h => h) (Or.inl ⟨by rfl, ?_⟩) (by assumption) ?_
                  rotate_left
                  · (intro W _; go_simp; try with_reducible rfl)
                  try simp only [Act.put, List.getElem_toArray, List.getElem_cons_zero, List.getElem_cons_succ, List.setIfInBounds_toArray, List.set_cons_zero, List.set_cons_succ]
                  refine wpAnyH_done (by kernel_rfl) ?_ _
                  go_wp2_with fail
                  go_meet
                  exact ⟨rfl, _, varAt_sub f18_72.out (by simp), f18_71.out, hH18_67.2⟩
          · have f18_77 := Lib.hid (codL_lt f18_2.out)
            have f18_78 := Lib.hid hH18_4.2.size
            have f18_80 := Lib.hid (varAt_more f18_1.out (Nat.le_refl _))
            simp only [List.getElem_toArray, List.getElem_cons_zero, List.getElem_cons_succ]
            rw [if_pos (by rfl)]
            with_reducible refine op_newDev (by rfl) (fun W18_73 hP18_75 hb18_76 => ?_)
            have f18_81 := Lib.hid (f18_80.out.keep hb18_76)
            have f18_82 := Lib.hid (codL_keep f18_2.out hb18_76)
            have f18_79 := Lib.hid hP18_75
            refine hK.out _ _ (hH18_4.keep hb18_76) (fun hH18_74 => ?_)
            clear hK K
            try simp only [Act.put, List.getElem_toArray, List.getElem_cons_zero, List.getElem_cons_succ, List.setIfInBounds_toArray, List.set_cons_zero, List.set_cons_succ]
            refine wpAnyH_ready (rs := [2]) (by kernel_rfl) (by simp) (AllReadyH.cons rfl (fun K hK => ?_) AllReadyH.nil)
            · go_simp
              go_wp2_with (go_at_call 18; (with_reducible refine (bytes_any xc _ _ f18_82.out).mono ?_); rintro e W18_83 ⟨x18_86, rfl, hx18_87, ⟨_, _, hC18_88⟩, hg18_85⟩)
              have f18_89 := Lib.hid (f18_81.out.grown hg18_85 (fun k e => by injection e with e; subst e; simp))
              have f18_90 := Lib.hid (RowAt.grown f18_79.out hg18_85 (fun e => by injection e with e; exact Nat.ne_of_lt f18_77.out e))
              have f18_91 := Lib.hid hC18_88
              have f18_92 := Lib.hid hx18_87
              refine hK.out _ _ (hH18_74.grown hg18_85 (fun _ hx => by cases hx) (fun k e => by injection e with e; subst e; exact hwc.out)) (fun hH18_84 => ?_)
              clear hK K
              try simp only [Act.put, List.getElem_toArray, List.getElem_cons_zero, List.getElem_cons_succ, List.setIfInBounds_toArray, List.set_cons_zero, List.set_cons_succ]
              refine wpAnyH_ready (rs := [3]) (by kernel_rfl) (by simp) (AllReadyH.cons rfl (fun K hK => ?_) AllReadyH.nil)
              · go_simp
                go_wp2_with (go_at_call 20; (with_reducible refine (write_dead _ _ 0 x18_86 (dd_dead (ps := ps) HP.out HN.out.2) _ f18_89.out.dev (dd_fits HP.out)).mono ?_); rintro e W18_93 ⟨v18_98, rfl, hV18_96, hb18_95⟩)
                have f18_99 := Lib.hid (And.intro f18_89.out.row.lt (codL_lt f18_91.out))
                have f18_102 := Lib.hid (f18_89.out.keep hb18_95)
                have f18_103 := Lib.hid (codL_keep f18_91.out hb18_95)
                have f18_104 := Lib.hid (RowAt.keep f18_90.out hb18_95)
                have f18_101 := Lib.hid hV18_96
                refine hK.out _ _ (hH18_84.keep hb18_95) (fun hH18_94 => ?_)
                clear hK K
                try simp only [Act.put, List.getElem_toArray, List.getElem_cons_zero, List.getElem_cons_succ, List.setIfInBounds_toArray, List.set_cons_zero, List.set_cons_succ]
                refine wpAnyH_take (i := 4) (v := ?_) rfl (by kernel_rfl) (by kernel_rfl) (by kernel_rfl) (fun _ _ _ h => h) (Or.inl ⟨by rfl, ?_⟩) (by assumption) ?_
                rotate_left
                · (intro W _; go_simp; try with_reducible rfl)
                try simp only [Act.put, List.getElem_toArray, List.getElem_cons_zero, List.getElem_cons_succ, List.setIfInBounds_toArray, List.set_cons_zero, List.set_cons_succ]
                refine wpAnyH_take (i := 5) (v := ?_) rfl (by kernel_rfl) (by kernel_rfl) (by kernel_rfl) (fun _ _ _ h => h) (Or.inl ⟨by rfl, ?_⟩) (by assumption) ?_
                rotate_left
                · (intro W _; go_simp; try with_reducible rfl)
                try simp only [Act.put, List.getElem_toArray, List.getElem_cons_zero, List.getElem_cons_succ, List.setIfInBounds_toArray, List.set_cons_zero, List.set_cons_succ]
                refine wpAnyH_take (i := 6) (v := ?_) rfl (by kernel_rfl) (by kernel_rfl) (by kernel_rfl) (fun _ _ _ h => h) (Or.inl ⟨by rfl, ?_⟩) (by assumption) ?_
                rotate_left
                · (intro W _; go_simp; try with_reducible rfl)
                try simp only [Act.put, List.getElem_toArray, List.getElem_cons_zero, List.getElem_cons_succ, List.setIfInBounds_toArray, List.set_cons_zero, List.set_cons_succ]
                refine wpAnyH_ready (rs := [8]) (by kernel_rfl) (by simp) (AllReadyH.cons rfl (fun K hK => ?_) AllReadyH.nil)
                · simp only [List.getElem_toArray, List.getElem_cons_zero, List.getElem_cons_succ]
                  rw [if_pos (by rfl)]
                  have hd0 : dev0.length = 5 := rfl
                  with_reducible refine op_storeV f18_101.out f18_104.out hd0 (by rfl) ?_ ?_ (fun W18_105 hP18_107 hS18_108 => ?_)
                  · rfl
                  · rfl
                  have f18_111 := Lib.hid (f18_102.out.stored hS18_108 (by simp))
                  have f18_110 := Lib.hid (codL_stored f18_103.out hS18_108 f18_77.out)
                  refine hK.out _ _ (hH18_94.stored (fun _ hx => by cases hx) f18_78.out hS18_108) (fun hH18_106 => ?_)
                  clear hK K
                  try simp only [Act.put, List.getElem_toArray, List.getElem_cons_zero, List.getElem_cons_succ, List.setIfInBounds_toArray, List.set_cons_zero, List.set_cons_succ]
                  refine wpAnyH_take (i := 9) (v := ?_) rfl (by kernel_rfl) (by kernel_rfl) (by kernel_rfl) (fun _ _ _ h => h) (Or.inl ⟨by rfl, ?_⟩) (by assumption) ?_
                  rotate_left
                  · (intro W _; go_simp; try with_reducible rfl)
                  try simp only [Act.put, List.getElem_toArray, List.getElem_cons_zero, List.getElem_cons_succ, List.setIfInBounds_toArray, List.set_cons_zero, List.set_cons_succ]
                  refine wpAnyH_done (by kernel_rfl) ?_ _
                  go_wp2_with fail
                  go_meet
                  exact ⟨rfl, _, varAt_sub f18_111.out (by simp), f18_110.out, hH18_106.2⟩
        · go_simp
          go_wp2_with (go_at_call 18; (with_reducible refine (bytes_any xc _ _ f18_2.out).mono ?_); rintro e W18_112 ⟨x18_115, rfl, hx18_116, ⟨_, _, hC18_117⟩, hg18_114⟩)
          have f18_118 := Lib.hid (f18_1.out.grown hg18_114 (fun k e => by injection e with e; subst e; simp))
          have f18_119 := Lib.hid hC18_117
          have f18_120 := Lib.hid hx18_116
          refine hK.out _ _ (hHeld.grown hg18_114 (fun _ hx => by cases hx) (fun k e => by injection e with e; subst e; exact hwc.out)) (fun hH18_113 => ?_)
          clear hK K
          try simp only [Act.put, List.getElem_toArray, List.getElem_cons_zero, List.getElem_cons_succ, List.setIfInBounds_toArray, List.set_cons_zero, List.set_cons_succ]
          refine wpAnyH_ready (rs := [0, 7]) (by kernel_rfl) (by simp) (AllReadyH.cons rfl (fun K hK => ?_) (AllReadyH.cons rfl (fun K hK => ?_) AllReadyH.nil))
          · simp only [List.getElem_toArray, List.getElem_cons_zero, List.getElem_cons_succ]
            rw [if_pos (by rfl)]
            with_reducible refine op_loadV _ f18_118.out.row f18_118.out.len (by rfl) ?_ ?_
            · rfl
            refine hK.out _ _ (hH18_113) (fun hH18_122 => ?_)
            clear hK K
            try simp only [Act.put, List.getElem_toArray, List.getElem_cons_zero, List.getElem_cons_succ, List.setIfInBounds_toArray, List.set_cons_zero, List.set_cons_succ]
            refine wpAnyH_ready (rs := [3, 7]) (by kernel_rfl) (by simp) (AllReadyH.cons rfl (fun K hK => ?_) (AllReadyH.cons rfl (fun K hK => ?_) AllReadyH.nil))
            · go_simp
              go_wp2_with (go_at_call 20; (with_reducible refine (write_dead _ _ 0 x18_115 (dd_dead (ps := ps) HP.out HN.out.2) _ f18_118.out.dev (dd_fits HP.out)).mono ?_); rintro e W18_123 ⟨v18_128, rfl, hV18_126, hb18_125⟩)
              have f18_129 := Lib.hid (And.intro f18_118.out.row.lt (codL_lt f18_119.out))
              have f18_132 := Lib.hid (f18_118.out.keep hb18_125)
              have f18_133 := Lib.hid (codL_keep f18_119.out hb18_125)
              have f18_131 := Lib.hid hV18_126
              refine hK.out _ _ (hH18_122.keep hb18_125) (fun hH18_124 => ?_)
              clear hK K
              try simp only [Act.put, List.getElem_toArray, List.getElem_cons_zero, List.getElem_cons_succ, List.setIfInBounds_toArray, List.set_cons_zero, List.set_cons_succ]
              refine wpAnyH_take (i := 4) (v := ?_) rfl (by kernel_rfl) (by kernel_rfl) (by kernel_rfl) (fun _ _ _ h => h) (Or.inl ⟨by rfl, ?_⟩) (by assumption) ?_
              rotate_left
              · (intro W _; go_simp; try with_reducible rfl)
              try simp only [Act.put, List.getElem_toArray, List.getElem_cons_zero, List.getElem_cons_succ, List.setIfInBounds_toArray, List.set_cons_zero, List.set_cons_succ]
              refine wpAnyH_take (i := 5) (v := ?_) rfl (by kernel_rfl) (by kernel_rfl) (by kernel_rfl) (fun _ _ _ h => h) (Or.inl ⟨by rfl, ?_⟩) (by assumption) ?_
              rotate_left
              · (intro W _; go_simp; try with_reducible rfl)
              try simp only [Act.put, List.getElem_toArray, List.getElem_cons_zero, List.getElem_cons_succ, List.setIfInBounds_toArray, List.set_cons_zero, List.set_cons_succ]
              refine wpAnyH_take (i := 6) (v := ?_) rfl (by kernel_rfl) (by kernel_rfl) (by kernel_rfl) (fun _ _ _ h => h) (Or.inl ⟨by rfl, ?_⟩) (by assumption) ?_
              rotate_left
              · (intro W _; go_simp; try with_reducible rfl)
              try simp only [Act.put, List.getElem_toArray, List.getElem_cons_zero, List.getElem_cons_succ, List.setIfInBounds_toArray, List.set_cons_zero, List.set_cons_succ]
              refine wpAnyH_ready (rs := [7]) (by kernel_rfl) (by simp) (AllReadyH.cons rfl (fun K hK => ?_) AllReadyH.nil)
              · have f18_138 := Lib.hid (codL_lt f18_133.out)
                have f18_139 := Lib.hid hH18_124.2.size
                have f18_142 := Lib.hid (off_new f18_131.out (Nat.le_refl _))
                have f18_141 := Lib.hid (varAt_more f18_132.out (Nat.le_refl _))
                simp only [List.getElem_toArray, List.getElem_cons_zero, List.getElem_cons_succ]
                rw [if_pos (by rfl)]
                with_reducible refine op_newDev (by rfl) (fun W18_134 hP18_136 hb18_137 => ?_)
                have f18_143 := Lib.hid (f18_141.out.keep hb18_137)
                have f18_144 := Lib.hid (codL_keep f18_133.out hb18_137)
                have f18_145 := Lib.hid (f18_131.out.keep hb18_137)
                have f18_140 := Lib.hid hP18_136
                refine hK.out _ _ (hH18_124.keep hb18_137) (fun hH18_135 => ?_)
                clear hK K
                try simp only [Act.put, List.getElem_toArray, List.getElem_cons_zero, List.getElem_cons_succ, List.setIfInBounds_toArray, List.set_cons_zero, List.set_cons_succ]
                refine wpAnyH_ready (rs := [8]) (by kernel_rfl) (by simp) (AllReadyH.cons rfl (fun K hK => ?_) AllReadyH.nil)
                · simp only [List.getElem_toArray, List.getElem_cons_zero, List.getElem_cons_succ]
                  rw [if_pos (by rfl)]
                  have hd0 : dev0.length = 5 := rfl
                  with_reducible refine op_storeV f18_145.out f18_140.out hd0 (by rfl) ?_ ?_ (fun W18_146 hP18_148 hS18_149 => ?_)
                  · rfl
                  · rfl
                  have f18_152 := Lib.hid (f18_143.out.stored hS18_149 (by simp))
                  have f18_151 := Lib.hid (codL_stored f18_144.out hS18_149 f18_138.out)
                  refine hK.out _ _ (hH18_135.stored (fun _ hx => by cases hx) f18_139.out hS18_149) (fun hH18_147 => ?_)
                  clear hK K
                  try simp only [Act.put, List.getElem_toArray, List.getElem_cons_zero, List.getElem_cons_succ, List.setIfInBounds_toArray, List.set_cons_zero, List.set_cons_succ]
                  refine wpAnyH_take (i := 9) (v := ?_) rfl (by kernel_rfl) (by kernel_rfl) (by kernel_rfl) (fun _ _ _ h => h) (Or.inl ⟨by rfl, ?_⟩) (by assumption) ?_
                  rotate_left
                  · (intro W _; go_simp; try with_reducible rfl)
                  try simp only [Act.put, List.getElem_toArray, List.getElem_cons_zero, List.getElem_cons_succ, List.setIfInBounds_toArray, List.set_cons_zero, List.set_cons_succ]
                  refine wpAnyH_done (by kernel_rfl) ?_ _
                  go_wp2_with fail
                  go_meet
                  exact ⟨rfl, _, varAt_sub f18_152.out (by simp), f18_151.out, hH18_147.2⟩
            · have f18_157 := Lib.hid (codL_lt f18_119.out)
              have f18_158 := Lib.hid hH18_122.2.size
              have f18_160 := Lib.hid (varAt_more f18_118.out (Nat.le_refl _))
              simp only [List.getElem_toArray, List.getElem_cons_zero, List.getElem_cons_succ]
              rw [if_pos (by rfl)]
              with_reducible refine op_newDev (by rfl) (fun W18_153 hP18_155 hb18_156 => ?_)
              have f18_161 := Lib.hid (f18_160.out.keep hb18_156)
              have f18_162 := Lib.hid (codL_keep f18_119.out hb18_156)
              have f18_159 := Lib.hid hP18_155
              refine hK.out _ _ (hH18_122.keep hb18_156) (fun hH18_154 => ?_)
              clear hK K
              try simp only [Act.put, List.getElem_toArray, List.getElem_cons_zero, List.getElem_cons_succ, List.setIfInBounds_toArray, List.set_cons_zero, List.set_cons_succ]
              refine wpAnyH_ready (rs := [3]) (by kernel_rfl) (by simp) (AllReadyH.cons rfl (fun K hK => ?_) AllReadyH.nil)
              · go_simp
                go_wp2_with (go_at_call 20; (with_reducible refine (write_dead _ _ 0 x18_115 (dd_dead (ps := ps) HP.out HN.out.2) _ f18_161.out.dev (dd_fits HP.out)).mono ?_); rintro e W18_163 ⟨v18_168, rfl, hV18_166, hb18_165⟩)
                have f18_169 := Lib.hid (And.intro f18_161.out.row.lt (codL_lt f18_162.out))
                have f18_172 := Lib.hid (f18_161.out.keep hb18_165)
                have f18_173 := Lib.hid (codL_keep f18_162.out hb18_165)
                have f18_174 := Lib.hid (RowAt.keep f18_159.out hb18_165)
                have f18_171 := Lib.hid hV18_166
                refine hK.out _ _ (hH18_154.keep hb18_165) (fun hH18_164 => ?_)
                clear hK K
                try simp only [Act.put, List.getElem_toArray, List.getElem_cons_zero, List.getElem_cons_succ, List.setIfInBounds_toArray, List.set_cons_zero, List.set_cons_succ]
                refine wpAnyH_take (i := 4) (v := ?_) rfl (by kernel_rfl) (by kernel_rfl) (by kernel_rfl) (fun _ _ _ h => h) (Or.inl ⟨by rfl, ?_⟩) (by assumption) ?_
                rotate_left
                · (intro W _; go_simp; try with_reducible rfl)
                try simp only [Act.put, List.getElem_toArray, List.getElem_cons_zero, List.getElem_cons_succ, List.setIfInBounds_toArray, List.set_cons_zero, List.set_cons_succ]
                refine wpAnyH_take (i := 5) (v := ?_) rfl (by kernel_rfl) (by kernel_rfl) (by kernel_rfl) (fun _ _ _ h => h) (Or.inl ⟨by rfl, ?_⟩) (by assumption) ?_
                rotate_left
                · (intro W _; go_simp; try with_reducible rfl)
                try simp only [Act.put, List.getElem_toArray, List.getElem_cons_zero, List.getElem_cons_succ, List.setIfInBounds_toArray, List.set_cons_zero, List.set_cons_succ]
                refine wpAnyH_take (i := 6) (v := ?_) rfl (by kernel_rfl) (by kernel_rfl) (by kernel_rfl) (fun _ _ _ h => h) (Or.inl ⟨by rfl, ?_⟩) (by assumption) ?_
                rotate_left
                · (intro W _; go_simp; try with_reducible rfl)
                try simp only [Act.put, List.getElem_toArray, List.getElem_cons_zero, List.getElem_cons_succ, List.setIfInBounds_toArray, List.set_cons_zero, List.set_cons_succ]
                refine wpAnyH_ready (rs := [8]) (by kernel_rfl) (by simp) (AllReadyH.cons rfl (fun K hK => ?_) AllReadyH.nil)
                · simp only [List.getElem_toArray, List.getElem_cons_zero, List.getElem_cons_succ]
                  rw [if_pos (by rfl)]
                  have hd0 : dev0.length = 5 := rfl
                  with_reducible refine op_storeV f18_171.out f18_174.out hd0 (by rfl) ?_ ?_ (fun W18_175 hP18_177 hS18_178 => ?_)
                  · rfl
                  · rfl
                  have f18_181 := Lib.hid (f18_172.out.stored hS18_178 (by simp))
                  have f18_180 := Lib.hid (codL_stored f18_173.out hS18_178 f18_157.out)
                  refine hK.out _ _ (hH18_164.stored (fun _ hx => by cases hx) f18_158.out hS18_178) (fun hH18_176 => ?_)
                  clear hK K
                  try simp only [Act.put, List.getElem_toArray, List.getElem_cons_zero, List.getElem_cons_succ, List.setIfInBounds_toArray, List.set_cons_zero, List.set_cons_succ]
                  refine wpAnyH_take (i := 9) (v := ?_) rfl (by kernel_rfl) (by kernel_rfl) (by kernel_rfl) (fun _ _ _ h => h) (Or.inl ⟨by rfl, ?_⟩) (by assumption) ?_
                  rotate_left
                  · (intro W _; go_simp; try with_reducible rfl)
                  try simp only [Act.put, List.getElem_toArray, List.getElem_cons_zero, List.getElem_cons_succ, List.setIfInBounds_toArray, List.set_cons_zero, List.set_cons_succ]
                  refine wpAnyH_done (by kernel_rfl) ?_ _
                  go_wp2_with fail
                  go_meet
                  exact ⟨rfl, _, varAt_sub f18_181.out (by simp), f18_180.out, hH18_176.2⟩
          · have f18_186 := Lib.hid (codL_lt f18_119.out)
            have f18_187 := Lib.hid hH18_113.2.size
            have f18_189 := Lib.hid (varAt_more f18_118.out (Nat.le_refl _))
            simp only [List.getElem_toArray, List.getElem_cons_zero, List.getElem_cons_succ]
            rw [if_pos (by rfl)]
            with_reducible refine op_newDev (by rfl) (fun W18_182 hP18_184 hb18_185 => ?_)
            have f18_190 := Lib.hid (f18_189.out.keep hb18_185)
            have f18_191 := Lib.hid (codL_keep f18_119.out hb18_185)
            have f18_188 := Lib.hid hP18_184
            refine hK.out _ _ (hH18_113.keep hb18_185) (fun hH18_183 => ?_)
            clear hK K
            try simp only [Act.put, List.getElem_toArray, List.getElem_cons_zero, List.getElem_cons_succ, List.setIfInBounds_toArray, List.set_cons_zero, List.set_cons_succ]
            refine wpAnyH_ready (rs := [0]) (by kernel_rfl) (by simp) (AllReadyH.cons rfl (fun K hK => ?_) AllReadyH.nil)
            · simp only [List.getElem_toArray, List.getElem_cons_zero, List.getElem_cons_succ]
              rw [if_pos (by rfl)]
              with_reducible refine op_loadV _ f18_190.out.row f18_190.out.len (by rfl) ?_ ?_
              · rfl
              refine hK.out _ _ (hH18_183) (fun hH18_193 => ?_)
              clear hK K
              try simp only [Act.put, List.getElem_toArray, List.getElem_cons_zero, List.getElem_cons_succ, List.setIfInBounds_toArray, List.set_cons_zero, List.set_cons_succ]
              refine wpAnyH_ready (rs := [3]) (by kernel_rfl) (by simp) (AllReadyH.cons rfl (fun K hK => ?_) AllReadyH.nil)
              · go_simp
                go_wp2_with (go_at_call 20; (with_reducible refine (write_dead _ _ 0 x18_115 (dd_dead (ps := ps) HP.out HN.out.2) _ f18_190.out.dev (dd_fits HP.out)).mono ?_); rintro e W18_194 ⟨v18_199, rfl, hV18_197, hb18_196⟩)
                have f18_200 := Lib.hid (And.intro f18_190.out.row.lt (codL_lt f18_191.out))
                have f18_203 := Lib.hid (f18_190.out.keep hb18_196)
                have f18_204 := Lib.hid (codL_keep f18_191.out hb18_196)
                have f18_205 := Lib.hid (RowAt.keep f18_188.out hb18_196)
                have f18_202 := Lib.hid hV18_197
                refine hK.out _ _ (hH18_193.keep hb18_196) (fun hH18_195 => ?_)
                clear hK K
                try simp only [Act.put, List.getElem_toArray, List.getElem_cons_zero, List.getElem_cons_succ, List.setIfInBounds_toArray, List.set_cons_zero, List.set_cons_succ]
                refine wpAnyH_take (i := 4) (v := ?_) rfl (by kernel_rfl) (by kernel_rfl) (by kernel_rfl) (fun _ _ _ h => h) (Or.inl ⟨by rfl, ?_⟩) (by assumption) ?_
                rotate_left
                · (intro W _; go_simp; try with_reducible rfl)
                try simp only [Act.put, List.getElem_toArray, List.getElem_cons_zero, List.getElem_cons_succ, List.setIfInBounds_toArray, List.set_cons_zero, List.set_cons_succ]
                refine wpAnyH_take (i := 5) (v := ?_) rfl (by kernel_rfl) (by kernel_rfl) (by kernel_rfl) (fun _ _ _ h => h) (Or.inl ⟨by rfl, ?_⟩) (by assumption) ?_
                rotate_left
                · (intro W _; go_simp; try with_reducible rfl)
                try simp only [Act.put, List.getElem_toArray, List.getElem_cons_zero, List.getElem_cons_succ, List.setIfInBounds_toArray, List.set_cons_zero, List.set_cons_succ]
                refine wpAnyH_take (i := 6) (v := ?_) rfl (by kernel_rfl) (by kernel_rfl) (by kernel_rfl) (fun _ _ _ h => h) (Or.inl ⟨by rfl, ?_⟩) (by assumption) ?_
                rotate_left
                · (intro W _; go_simp; try with_reducible rfl)
                try simp only [Act.put, List.getElem_toArray, List.getElem_cons_zero, List.getElem_cons_succ, List.setIfInBounds_toArray, List.set_cons_zero, List.set_cons_succ]
                refine wpAnyH_ready (rs := [8]) (by kernel_rfl) (by simp) (AllReadyH.cons rfl (fun K hK => ?_) AllReadyH.nil)
                · simp only [List.getElem_toArray, List.getElem_cons_zero, List.getElem_cons_succ]
                  rw [if_pos (by rfl)]
                  have hd0 : dev0.length = 5 := rfl
                  with_reducible refine op_storeV f18_202.out f18_205.out hd0 (by rfl) ?_ ?_ (fun W18_206 hP18_208 hS18_209 => ?_)
                  · rfl
                  · rfl
                  have f18_212 := Lib.hid (f18_203.out.stored hS18_209 (by simp))
                  have f18_211 := Lib.hid (codL_stored f18_204.out hS18_209 f18_186.out)
                  refine hK.out _ _ (hH18_195.stored (fun _ hx => by cases hx) f18_187.out hS18_209) (fun hH18_207 => ?_)
                  clear hK K
                  try simp only [Act.put, List.getElem_toArray, List.getElem_cons_zero, List.getElem_cons_succ, List.setIfInBounds_toArray, List.set_cons_zero, List.set_cons_succ]
                  refine wpAnyH_take (i := 9) (v := ?_) rfl (by kernel_rfl) (by kernel_rfl) (by kernel_rfl) (fun _ _ _ h => h) (Or.inl ⟨by rfl, ?_⟩) (by assumption) ?_
                  rotate_left
                  · (intro W _; go_simp; try with_reducible rfl)
                  try simp only [Act.put, List.getElem_toArray, List.getElem_cons_zero, List.getElem_cons_succ, List.setIfInBounds_toArray, List.set_cons_zero, List.set_cons_succ]
                  refine wpAnyH_done (by kernel_rfl) ?_ _
                  go_wp2_with fail
                  go_meet
                  exact ⟨rfl, _, varAt_sub f18_212.out (by simp), f18_211.out, hH18_207.2⟩
        · have f18_217 := Lib.hid (codL_lt f18_2.out)
          have f18_218 := Lib.hid hHeld.2.size
          have f18_220 := Lib.hid (varAt_more f18_1.out (Nat.le_refl _))
          simp only [List.getElem_toArray, List.getElem_cons_zero, List.getElem_cons_succ]
          rw [if_pos (by rfl)]
          with_reducible refine op_newDev (by rfl) (fun W18_213 hP18_215 hb18_216 => ?_)
          have f18_221 := Lib.hid (f18_220.out.keep hb18_216)
          have f18_222 := Lib.hid (codL_keep f18_2.out hb18_216)
          have f18_219 := Lib.hid hP18_215
          refine hK.out _ _ (hHeld.keep hb18_216) (fun hH18_214 => ?_)
          clear hK K
          try simp only [Act.put, List.getElem_toArray, List.getElem_cons_zero, List.getElem_cons_succ, List.setIfInBounds_toArray, List.set_cons_zero, List.set_cons_succ]
          refine wpAnyH_ready (rs := [0, 2]) (by kernel_rfl) (by simp) (AllReadyH.cons rfl (fun K hK => ?_) (AllReadyH.cons rfl (fun K hK => ?_) AllReadyH.nil))
          · simp only [List.getElem_toArray, List.getElem_cons_zero, List.getElem_cons_succ]
            rw [if_pos (by rfl)]
            with_reducible refine op_loadV _ f18_221.out.row f18_221.out.len (by rfl) ?_ ?_
            · rfl
            refine hK.out _ _ (hH18_214) (fun hH18_224 => ?_)
            clear hK K
            try simp only [Act.put, List.getElem_toArray, List.getElem_cons_zero, List.getElem_cons_succ, List.setIfInBounds_toArray, List.set_cons_zero, List.set_cons_succ]
            refine wpAnyH_ready (rs := [2]) (by kernel_rfl) (by simp) (AllReadyH.cons rfl (fun K hK => ?_) AllReadyH.nil)
            · go_simp
              go_wp2_with (go_at_call 18; (with_reducible refine (bytes_any xc _ _ f18_222.out).mono ?_); rintro e W18_225 ⟨x18_228, rfl, hx18_229, ⟨_, _, hC18_230⟩, hg18_227⟩)
              have f18_231 := Lib.hid (f18_221.out.grown hg18_227 (fun k e => by injection e with e; subst e; simp))
              have f18_232 := Lib.hid (RowAt.grown f18_219.out hg18_227 (fun e => by injection e with e; exact Nat.ne_of_lt f18_217.out e))
              have f18_233 := Lib.hid hC18_230
              have f18_234 := Lib.hid hx18_229
              refine hK.out _ _ (hH18_224.grown hg18_227 (fun _ hx => by cases hx) (fun k e => by injection e with e; subst e; exact hwc.out)) (fun hH18_226 => ?_)
              clear hK K
              try simp only [Act.put, List.getElem_toArray, List.getElem_cons_zero, List.getElem_cons_succ, List.setIfInBounds_toArray, List.set_cons_zero, List.set_cons_succ]
              refine wpAnyH_ready (rs := [3]) (by kernel_rfl) (by simp) (AllReadyH.cons rfl (fun K hK => ?_) AllReadyH.nil)
              · go_simp
                go_wp2_with (go_at_call 20; (with_reducible refine (write_dead _ _ 0 x18_228 (dd_dead (ps := ps) HP.out HN.out.2) _ f18_231.out.dev (dd_fits HP.out)).mono ?_); rintro e W18_235 ⟨v18_240, rfl, hV18_238, hb18_237⟩)
                have f18_241 := Lib.hid (And.intro f18_231.out.row.lt (codL_lt f18_233.out))
                have f18_244 := Lib.hid (f18_231.out.keep hb18_237)
                have f18_245 := Lib.hid (codL_keep f18_233.out hb18_237)
                have f18_246 := Lib.hid (RowAt.keep f18_232.out hb18_237)
                have f18_243 := Lib.hid hV18_238
                refine hK.out _ _ (hH18_226.keep hb18_237) (fun hH18_236 => ?_)
                clear hK K
                try simp only [Act.put, List.getElem_toArray, List.getElem_cons_zero, List.getElem_cons_succ, List.setIfInBounds_toArray, List.set_cons_zero, List.set_cons_succ]
                refine wpAnyH_take (i := 4) (v := ?_) rfl (by kernel_rfl) (by kernel_rfl) (by kernel_rfl) (fun _ _ _ h => h) (Or.inl ⟨by rfl, ?_⟩) (by assumption) ?_
                rotate_left
                · (intro W _; go_simp; try with_reducible rfl)
                try simp only [Act.put, List.getElem_toArray, List.getElem_cons_zero, List.getElem_cons_succ, List.setIfInBounds_toArray, List.set_cons_zero, List.set_cons_succ]
                refine wpAnyH_take (i := 5) (v := ?_) rfl (by kernel_rfl) (by kernel_rfl) (by kernel_rfl) (fun _ _ _ h => h) (Or.inl ⟨by rfl, ?_⟩) (by assumption) ?_
                rotate_left
                · (intro W _; go_simp; try with_reducible rfl)
                try simp only [Act.put, List.getElem_toArray, List.getElem_cons_zero, List.getElem_cons_succ, List.setIfInBounds_toArray, List.set_cons_zero, List.set_cons_succ]
                refine wpAnyH_take (i := 6) (v := ?_) rfl (by kernel_rfl) (by kernel_rfl) (by kernel_rfl) (fun _ _ _ h => h) (Or.inl ⟨by rfl, ?_⟩) (by assumption) ?_
                rotate_left
                · (intro W _; go_simp; try with_reducible rfl)
                try simp only [Act.put, List.getElem_toArray, List.getElem_cons_zero, List.getElem_cons_succ, List.setIfInBounds_toArray, List.set_cons_zero, List.set_cons_succ]
                refine wpAnyH_ready (rs := [8]) (by kernel_rfl) (by simp) (AllReadyH.cons rfl (fun K hK => ?_) AllReadyH.nil)
                · simp only [List.getElem_toArray, List.getElem_cons_zero, List.getElem_cons_succ]
                  rw [if_pos (by rfl)]
                  have hd0 : dev0.length = 5 := rfl
                  with_reducible refine op_storeV f18_243.out f18_246.out hd0 (by rfl) ?_ ?_ (fun W18_247 hP18_249 hS18_250 => ?_)
                  · rfl
                  · rfl
                  have f18_253 := Lib.hid (f18_244.out.stored hS18_250 (by simp))
                  have f18_252 := Lib.hid (codL_stored f18_245.out hS18_250 f18_217.out)
                  refine hK.out _ _ (hH18_236.stored (fun _ hx => by cases hx) f18_218.out hS18_250) (fun hH18_248 => ?_)
                  clear hK K
                  try simp only [Act.put, List.getElem_toArray, List.getElem_cons_zero, List.getElem_cons_succ, List.setIfInBounds_toArray, List.set_cons_zero, List.set_cons_succ]
                  refine wpAnyH_take (i := 9) (v := ?_) rfl (by kernel_rfl) (by kernel_rfl) (by kernel_rfl) (fun _ _ _ h => h) (Or.inl ⟨by rfl, ?_⟩) (by assumption) ?_
                  rotate_left
                  · (intro W _; go_simp; try with_reducible rfl)
                  try simp only [Act.put, List.getElem_toArray, List.getElem_cons_zero, List.getElem_cons_succ, List.setIfInBounds_toArray, List.set_cons_zero, List.set_cons_succ]
                  refine wpAnyH_done (by kernel_rfl) ?_ _
                  go_wp2_with fail
                  go_meet
                  exact ⟨rfl, _, varAt_sub f18_253.out (by simp), f18_252.out, hH18_248.2⟩
          · go_simp
            go_wp2_with (go_at_call 18; (with_reducible refine (bytes_any xc _ _ f18_222.out).mono ?_); rintro e W18_254 ⟨x18_257, rfl, hx18_258, ⟨_, _, hC18_259⟩, hg18_256⟩)
            have f18_260 := Lib.hid (f18_221.out.grown hg18_256 (fun k e => by injection e with e; subst e; simp))
            have f18_261 := Lib.hid (RowAt.grown f18_219.out hg18_256 (fun e => by injection e with e; exact Nat.ne_of_lt f18_217.out e))
            have f18_262 := Lib.hid hC18_259
            have f18_263 := Lib.hid hx18_258
            refine hK.out _ _ (hH18_214.grown hg18_256 (fun _ hx => by cases hx) (fun k e => by injection e with e; subst e; exact hwc.out)) (fun hH18_255 => ?_)
            clear hK K
            try simp only [Act.put, List.getElem_toArray, List.getElem_cons_zero, List.getElem_cons_succ, List.setIfInBounds_toArray, List.set_cons_zero, List.set_cons_succ]
            refine wpAnyH_ready (rs := [0]) (by kernel_rfl) (by simp) (AllReadyH.cons rfl (fun K hK => ?_) AllReadyH.nil)
            · simp only [List.getElem_toArray, List.getElem_cons_zero, List.getElem_cons_succ]
              rw [if_pos (by rfl)]
              with_reducible refine op_loadV _ f18_260.out.row f18_260.out.len (by rfl) ?_ ?_
              · rfl
              refine hK.out _ _ (hH18_255) (fun hH18_265 => ?_)
              clear hK K
              try simp only [Act.put, List.getElem_toArray, List.getElem_cons_zero, List.getElem_cons_succ, List.setIfInBounds_toArray, List.set_cons_zero, List.set_cons_succ]
              refine wpAnyH_ready (rs := [3]) (by kernel_rfl) (by simp) (AllReadyH.cons rfl (fun K hK => ?_) AllReadyH.nil)
              · go_simp
                go_wp2_with (go_at_call 20; (with_reducible refine (write_dead _ _ 0 x18_257 (dd_dead (ps := ps) HP.out HN.out.2) _ f18_260.out.dev (dd_fits HP.out)).mono ?_); rintro e W18_266 ⟨v18_271, rfl, hV18_269, hb18_268⟩)
                have f18_272 := Lib.hid (And.intro f18_260.out.row.lt (codL_lt f18_262.out))
                have f18_275 := Lib.hid (f18_260.out.keep hb18_268)
                have f18_276 := Lib.hid (codL_keep f18_262.out hb18_268)
                have f18_277 := Lib.hid (RowAt.keep f18_261.out hb18_268)
                have f18_274 := Lib.hid hV18_269
                refine hK.out _ _ (hH18_265.keep hb18_268) (fun hH18_267 => ?_)
                clear hK K
                try simp only [Act.put, List.getElem_toArray, List.getElem_cons_zero, List.getElem_cons_succ, List.setIfInBounds_toArray, List.set_cons_zero, List.set_cons_succ]
                refine wpAnyH_take (i := 4) (v := ?_) rfl (by kernel_rfl) (by kernel_rfl) (by kernel_rfl) (fun _ _ _ h => h) (Or.inl ⟨by rfl, ?_⟩) (by assumption) ?_
                rotate_left
                · (intro W _; go_simp; try with_reducible rfl)
                try simp only [Act.put, List.getElem_toArray, List.getElem_cons_zero, List.getElem_cons_succ, List.setIfInBounds_toArray, List.set_cons_zero, List.set_cons_succ]
                refine wpAnyH_take (i := 5) (v := ?_) rfl (by kernel_rfl) (by kernel_rfl) (by kernel_rfl) (fun _ _ _ h => h) (Or.inl ⟨by rfl, ?_⟩) (by assumption) ?_
                rotate_left
                · (intro W _; go_simp; try with_reducible rfl)
                try simp only [Act.put, List.getElem_toArray, List.getElem_cons_zero, List.getElem_cons_succ, List.setIfInBounds_toArray, List.set_cons_zero, List.set_cons_succ]
                refine wpAnyH_take (i := 6) (v := ?_) rfl (by kernel_rfl) (by kernel_rfl) (by kernel_rfl) (fun _ _ _ h => h) (Or.inl ⟨by rfl, ?_⟩) (by assumption) ?_
                rotate_left
                · (intro W _; go_simp; try with_reducible rfl)
                try simp only [Act.put, List.getElem_toArray, List.getElem_cons_zero, List.getElem_cons_succ, List.setIfInBounds_toArray, List.set_cons_zero, List.set_cons_succ]
                refine wpAnyH_ready (rs := [8]) (by kernel_rfl) (by simp) (AllReadyH.cons rfl (fun K hK => ?_) AllReadyH.nil)
                · simp only [List.getElem_toArray, List.getElem_cons_zero, List.getElem_cons_succ]
                  rw [if_pos (by rfl)]
                  have hd0 : dev0.length = 5 := rfl
                  with_reducible refine op_storeV f18_274.out f18_277.out hd0 (by rfl) ?_ ?_ (fun W18_278 hP18_280 hS18_281 => ?_)
                  · rfl
                  · rfl
                  have f18_284 := Lib.hid (f18_275.out.stored hS18_281 (by simp))
                  have f18_283 := Lib.hid (codL_stored f18_276.out hS18_281 f18_217.out)
                  refine hK.out _ _ (hH18_267.stored (fun _ hx => by cases hx) f18_218.out hS18_281) (fun hH18_279 => ?_)
                  clear hK K
                  try simp only [Act.put, List.getElem_toArray, List.getElem_cons_zero, List.getElem_cons_succ, List.setIfInBounds_toArray, List.set_cons_zero, List.set_cons_succ]
                  refine wpAnyH_take (i := 9) (v := ?_) rfl (by kernel_rfl) (by kernel_rfl) (by kernel_rfl) (fun _ _ _ h => h) (Or.inl ⟨by rfl, ?_⟩) (by assumption) ?_
                  rotate_left
                  · (intro W _; go_simp; try with_reducible rfl)
                  try simp only [Act.put, List.getElem_toArray, List.getElem_cons_zero, List.getElem_cons_succ, List.setIfInBounds_toArray, List.set_cons_zero, List.set_cons_succ]
                  refine wpAnyH_done (by kernel_rfl) ?_ _
                  go_wp2_with fail
                  go_meet
                  exact ⟨rfl, _, varAt_sub f18_284.out (by simp), f18_283.out, hH18_279.2⟩
      case rest =>
      obtain ⟨rfl, m3, hX, hC, hB⟩ := hcut
      have XT := Lib.hid hX
      have CT := Lib.hid hC
      have BT := Lib.hid hB
      clear hX hC hB XS CS BS
      go_upto_region 19 with fail
      go_cut [19] from 101 to 107 (fun s19 wx => s19 = .int .i64 10 ∧ ∃ m, VarAt xd [xc] vs (dD ps i i) wx ∧ CodL xc m wx ∧ Below w.heap.size w wx)
      case first =>
        refine wp_region_held_drew (S := St [] w) (by kernel_rfl) (st_nil BT.out).drew (fun hHeld => ?_)
        have f19_1 := Lib.hid (XT.out.keep (Below.refl _ _).drew)
        have f19_2 := Lib.hid (codL_keep CT.out (Below.refl _ _).drew)
        refine wpAnyH_take (i := 1) (v := ?_) rfl (by kernel_rfl) (by kernel_rfl) (by kernel_rfl) (fun _ _ _ h => h) (Or.inl ⟨by rfl, ?_⟩) (by assumption) ?_
        rotate_left
        · (intro W _; go_simp; try with_reducible rfl)
        try simp only [Act.put, List.getElem_toArray, List.getElem_cons_zero, List.getElem_cons_succ, List.setIfInBounds_toArray, List.set_cons_zero, List.set_cons_succ]
        refine wpAnyH_ready (rs := [0, 2, 7]) (by kernel_rfl) (by simp) (AllReadyH.cons rfl (fun K hK => ?_) (AllReadyH.cons rfl (fun K hK => ?_) (AllReadyH.cons rfl (fun K hK => ?_) AllReadyH.nil)))
        · simp only [List.getElem_toArray, List.getElem_cons_zero, List.getElem_cons_succ]
          rw [if_pos (by rfl)]
          with_reducible refine op_loadV _ f19_1.out.row f19_1.out.len (by rfl) ?_ ?_
          · rfl
          refine hK.out _ _ (hHeld) (fun hH19_4 => ?_)
          clear hK K
          try simp only [Act.put, List.getElem_toArray, List.getElem_cons_zero, List.getElem_cons_succ, List.setIfInBounds_toArray, List.set_cons_zero, List.set_cons_succ]
          refine wpAnyH_ready (rs := [2, 7]) (by kernel_rfl) (by simp) (AllReadyH.cons rfl (fun K hK => ?_) (AllReadyH.cons rfl (fun K hK => ?_) AllReadyH.nil))
          · go_simp
            go_wp2_with (go_at_call 18; (with_reducible refine (bytes_any xc _ _ f19_2.out).mono ?_); rintro e W19_5 ⟨x19_8, rfl, hx19_9, ⟨_, _, hC19_10⟩, hg19_7⟩)
            have f19_11 := Lib.hid (f19_1.out.grown hg19_7 (fun k e => by injection e with e; subst e; simp))
            have f19_12 := Lib.hid hC19_10
            have f19_13 := Lib.hid hx19_9
            refine hK.out _ _ (hH19_4.grown hg19_7 (fun _ hx => by cases hx) (fun k e => by injection e with e; subst e; exact hwc.out)) (fun hH19_6 => ?_)
            clear hK K
            try simp only [Act.put, List.getElem_toArray, List.getElem_cons_zero, List.getElem_cons_succ, List.setIfInBounds_toArray, List.set_cons_zero, List.set_cons_succ]
            refine wpAnyH_ready (rs := [3, 7]) (by kernel_rfl) (by simp) (AllReadyH.cons rfl (fun K hK => ?_) (AllReadyH.cons rfl (fun K hK => ?_) AllReadyH.nil))
            · go_simp
              go_wp2_with (go_at_call 27; (with_reducible refine (tear_dead _ _ 0 x19_8 5 (dd_dead (ps := ps) HP.out HN.out.2) _ f19_11.out.dev (dd_fits HP.out)).mono ?_); rintro e W19_14 ⟨v19_19, rfl, hV19_17, hb19_16⟩)
              have f19_20 := Lib.hid (And.intro f19_11.out.row.lt (codL_lt f19_12.out))
              have f19_23 := Lib.hid (f19_11.out.keep hb19_16)
              have f19_24 := Lib.hid (codL_keep f19_12.out hb19_16)
              have f19_22 := Lib.hid hV19_17
              refine hK.out _ _ (hH19_6.keep hb19_16) (fun hH19_15 => ?_)
              clear hK K
              try simp only [Act.put, List.getElem_toArray, List.getElem_cons_zero, List.getElem_cons_succ, List.setIfInBounds_toArray, List.set_cons_zero, List.set_cons_succ]
              refine wpAnyH_take (i := 4) (v := ?_) rfl (by kernel_rfl) (by kernel_rfl) (by kernel_rfl) (fun _ _ _ h => h) (Or.inl ⟨by rfl, ?_⟩) (by assumption) ?_
              rotate_left
              · (intro W _; go_simp; try with_reducible rfl)
              try simp only [Act.put, List.getElem_toArray, List.getElem_cons_zero, List.getElem_cons_succ, List.setIfInBounds_toArray, List.set_cons_zero, List.set_cons_succ]
              refine wpAnyH_take (i := 5) (v := ?_) rfl (by kernel_rfl) (by kernel_rfl) (by kernel_rfl) (fun _ _ _ h => h) (Or.inl ⟨by rfl, ?_⟩) (by assumption) ?_
              rotate_left
              · (intro W _; go_simp; try with_reducible rfl)
              try simp only [Act.put, List.getElem_toArray, List.getElem_cons_zero, List.getElem_cons_succ, List.setIfInBounds_toArray, List.set_cons_zero, List.set_cons_succ]
              refine wpAnyH_take (i := 6) (v := ?_) rfl (by kernel_rfl) (by kernel_rfl) (by kernel_rfl) (fun _ _ _ h => h) (Or.inl ⟨by rfl, ?_⟩) (by assumption) ?_
              rotate_left
              · (intro W _; go_simp; try with_reducible rfl)
              try simp only [Act.put, List.getElem_toArray, List.getElem_cons_zero, List.getElem_cons_succ, List.setIfInBounds_toArray, List.set_cons_zero, List.set_cons_succ]
              refine wpAnyH_ready (rs := [7]) (by kernel_rfl) (by simp) (AllReadyH.cons rfl (fun K hK => ?_) AllReadyH.nil)
              · have f19_29 := Lib.hid (codL_lt f19_24.out)
                have f19_30 := Lib.hid hH19_15.2.size
                have f19_33 := Lib.hid (off_new f19_22.out (Nat.le_refl _))
                have f19_32 := Lib.hid (varAt_more f19_23.out (Nat.le_refl _))
                simp only [List.getElem_toArray, List.getElem_cons_zero, List.getElem_cons_succ]
                rw [if_pos (by rfl)]
                with_reducible refine op_newDev (by rfl) (fun W19_25 hP19_27 hb19_28 => ?_)
                have f19_34 := Lib.hid (f19_32.out.keep hb19_28)
                have f19_35 := Lib.hid (codL_keep f19_24.out hb19_28)
                have f19_36 := Lib.hid (f19_22.out.keep hb19_28)
                have f19_31 := Lib.hid hP19_27
                refine hK.out _ _ (hH19_15.keep hb19_28) (fun hH19_26 => ?_)
                clear hK K
                try simp only [Act.put, List.getElem_toArray, List.getElem_cons_zero, List.getElem_cons_succ, List.setIfInBounds_toArray, List.set_cons_zero, List.set_cons_succ]
                refine wpAnyH_ready (rs := [8]) (by kernel_rfl) (by simp) (AllReadyH.cons rfl (fun K hK => ?_) AllReadyH.nil)
                · simp only [List.getElem_toArray, List.getElem_cons_zero, List.getElem_cons_succ]
                  rw [if_pos (by rfl)]
                  have hd0 : dev0.length = 5 := rfl
                  with_reducible refine op_storeV f19_36.out f19_31.out hd0 (by rfl) ?_ ?_ (fun W19_37 hP19_39 hS19_40 => ?_)
                  · rfl
                  · rfl
                  have f19_43 := Lib.hid (f19_34.out.stored hS19_40 (by simp))
                  have f19_42 := Lib.hid (codL_stored f19_35.out hS19_40 f19_29.out)
                  refine hK.out _ _ (hH19_26.stored (fun _ hx => by cases hx) f19_30.out hS19_40) (fun hH19_38 => ?_)
                  clear hK K
                  try simp only [Act.put, List.getElem_toArray, List.getElem_cons_zero, List.getElem_cons_succ, List.setIfInBounds_toArray, List.set_cons_zero, List.set_cons_succ]
                  refine wpAnyH_take (i := 9) (v := ?_) rfl (by kernel_rfl) (by kernel_rfl) (by kernel_rfl) (fun _ _ _ h => h) (Or.inl ⟨by rfl, ?_⟩) (by assumption) ?_
                  rotate_left
                  · (intro W _; go_simp; try with_reducible rfl)
                  try simp only [Act.put, List.getElem_toArray, List.getElem_cons_zero, List.getElem_cons_succ, List.setIfInBounds_toArray, List.set_cons_zero, List.set_cons_succ]
                  refine wpAnyH_done (by kernel_rfl) ?_ _
                  go_wp2_with fail
                  go_meet
                  exact ⟨rfl, _, varAt_sub f19_43.out (by simp), f19_42.out, hH19_38.2⟩
            · have f19_48 := Lib.hid (codL_lt f19_12.out)
              have f19_49 := Lib.hid hH19_6.2.size
              have f19_51 := Lib.hid (varAt_more f19_11.out (Nat.le_refl _))
              simp only [List.getElem_toArray, List.getElem_cons_zero, List.getElem_cons_succ]
              rw [if_pos (by rfl)]
              with_reducible refine op_newDev (by rfl) (fun W19_44 hP19_46 hb19_47 => ?_)
              have f19_52 := Lib.hid (f19_51.out.keep hb19_47)
              have f19_53 := Lib.hid (codL_keep f19_12.out hb19_47)
              have f19_50 := Lib.hid hP19_46
              refine hK.out _ _ (hH19_6.keep hb19_47) (fun hH19_45 => ?_)
              clear hK K
              try simp only [Act.put, List.getElem_toArray, List.getElem_cons_zero, List.getElem_cons_succ, List.setIfInBounds_toArray, List.set_cons_zero, List.set_cons_succ]
              refine wpAnyH_ready (rs := [3]) (by kernel_rfl) (by simp) (AllReadyH.cons rfl (fun K hK => ?_) AllReadyH.nil)
              · go_simp
                go_wp2_with (go_at_call 27; (with_reducible refine (tear_dead _ _ 0 x19_8 5 (dd_dead (ps := ps) HP.out HN.out.2) _ f19_52.out.dev (dd_fits HP.out)).mono ?_); rintro e W19_54 ⟨v19_59, rfl, hV19_57, hb19_56⟩)
                have f19_60 := Lib.hid (And.intro f19_52.out.row.lt (codL_lt f19_53.out))
                have f19_63 := Lib.hid (f19_52.out.keep hb19_56)
                have f19_64 := Lib.hid (codL_keep f19_53.out hb19_56)
                have f19_65 := Lib.hid (RowAt.keep f19_50.out hb19_56)
                have f19_62 := Lib.hid hV19_57
                refine hK.out _ _ (hH19_45.keep hb19_56) (fun hH19_55 => ?_)
                clear hK K
                try simp only [Act.put, List.getElem_toArray, List.getElem_cons_zero, List.getElem_cons_succ, List.setIfInBounds_toArray, List.set_cons_zero, List.set_cons_succ]
                refine wpAnyH_take (i := 4) (v := ?_) rfl (by kernel_rfl) (by kernel_rfl) (by kernel_rfl) (fun _ _ _ h => h) (Or.inl ⟨by rfl, ?_⟩) (by assumption) ?_
                rotate_left
                · (intro W _; go_simp; try with_reducible rfl)
                try simp only [Act.put, List.getElem_toArray, List.getElem_cons_zero, List.getElem_cons_succ, List.setIfInBounds_toArray, List.set_cons_zero, List.set_cons_succ]
                refine wpAnyH_take (i := 5) (v := ?_) rfl (by kernel_rfl) (by kernel_rfl) (by kernel_rfl) (fun _ _ _ h => h) (Or.inl ⟨by rfl, ?_⟩) (by assumption) ?_
                rotate_left
                · (intro W _; go_simp; try with_reducible rfl)
                try simp only [Act.put, List.getElem_toArray, List.getElem_cons_zero, List.getElem_cons_succ, List.setIfInBounds_toArray, List.set_cons_zero, List.set_cons_succ]
                refine wpAnyH_take (i := 6) (v := ?_) rfl (by kernel_rfl) (by kernel_rfl) (by kernel_rfl) (fun _ _ _ h => h) (Or.inl ⟨by rfl, ?_⟩) (by assumption) ?_
                rotate_left
                · (intro W _; go_simp; try with_reducible rfl)
                try simp only [Act.put, List.getElem_toArray, List.getElem_cons_zero, List.getElem_cons_succ, List.setIfInBounds_toArray, List.set_cons_zero, List.set_cons_succ]
                refine wpAnyH_ready (rs := [8]) (by kernel_rfl) (by simp) (AllReadyH.cons rfl (fun K hK => ?_) AllReadyH.nil)
                · simp only [List.getElem_toArray, List.getElem_cons_zero, List.getElem_cons_succ]
                  rw [if_pos (by rfl)]
                  have hd0 : dev0.length = 5 := rfl
                  with_reducible refine op_storeV f19_62.out f19_65.out hd0 (by rfl) ?_ ?_ (fun W19_66 hP19_68 hS19_69 => ?_)
                  · rfl
                  · rfl
                  have f19_72 := Lib.hid (f19_63.out.stored hS19_69 (by simp))
                  have f19_71 := Lib.hid (codL_stored f19_64.out hS19_69 f19_48.out)
                  refine hK.out _ _ (hH19_55.stored (fun _ hx => by cases hx) f19_49.out hS19_69) (fun hH19_67 => ?_)
                  clear hK K
                  try simp only [Act.put, List.getElem_toArray, List.getElem_cons_zero, List.getElem_cons_succ, List.setIfInBounds_toArray, List.set_cons_zero, List.set_cons_succ]
                  refine wpAnyH_take (i := 9) (v := ?_) rfl (by kernel_rfl) (by kernel_rfl) (by kernel_rfl) (fun _ _ _ h => h) (Or.inl ⟨by rfl, ?_⟩) (by assumption) ?_
                  rotate_left
                  · (intro W _; go_simp; try with_reducible rfl)
                  try simp only [Act.put, List.getElem_toArray, List.getElem_cons_zero, List.getElem_cons_succ, List.setIfInBounds_toArray, List.set_cons_zero, List.set_cons_succ]
                  refine wpAnyH_done (by kernel_rfl) ?_ _
                  go_wp2_with fail
                  go_meet
                  exact ⟨rfl, _, varAt_sub f19_72.out (by simp), f19_71.out, hH19_67.2⟩
          · have f19_77 := Lib.hid (codL_lt f19_2.out)
            have f19_78 := Lib.hid hH19_4.2.size
            have f19_80 := Lib.hid (varAt_more f19_1.out (Nat.le_refl _))
            simp only [List.getElem_toArray, List.getElem_cons_zero, List.getElem_cons_succ]
            rw [if_pos (by rfl)]
            with_reducible refine op_newDev (by rfl) (fun W19_73 hP19_75 hb19_76 => ?_)
            have f19_81 := Lib.hid (f19_80.out.keep hb19_76)
            have f19_82 := Lib.hid (codL_keep f19_2.out hb19_76)
            have f19_79 := Lib.hid hP19_75
            refine hK.out _ _ (hH19_4.keep hb19_76) (fun hH19_74 => ?_)
            clear hK K
            try simp only [Act.put, List.getElem_toArray, List.getElem_cons_zero, List.getElem_cons_succ, List.setIfInBounds_toArray, List.set_cons_zero, List.set_cons_succ]
            refine wpAnyH_ready (rs := [2]) (by kernel_rfl) (by simp) (AllReadyH.cons rfl (fun K hK => ?_) AllReadyH.nil)
            · go_simp
              go_wp2_with (go_at_call 18; (with_reducible refine (bytes_any xc _ _ f19_82.out).mono ?_); rintro e W19_83 ⟨x19_86, rfl, hx19_87, ⟨_, _, hC19_88⟩, hg19_85⟩)
              have f19_89 := Lib.hid (f19_81.out.grown hg19_85 (fun k e => by injection e with e; subst e; simp))
              have f19_90 := Lib.hid (RowAt.grown f19_79.out hg19_85 (fun e => by injection e with e; exact Nat.ne_of_lt f19_77.out e))
              have f19_91 := Lib.hid hC19_88
              have f19_92 := Lib.hid hx19_87
              refine hK.out _ _ (hH19_74.grown hg19_85 (fun _ hx => by cases hx) (fun k e => by injection e with e; subst e; exact hwc.out)) (fun hH19_84 => ?_)
              clear hK K
              try simp only [Act.put, List.getElem_toArray, List.getElem_cons_zero, List.getElem_cons_succ, List.setIfInBounds_toArray, List.set_cons_zero, List.set_cons_succ]
              refine wpAnyH_ready (rs := [3]) (by kernel_rfl) (by simp) (AllReadyH.cons rfl (fun K hK => ?_) AllReadyH.nil)
              · go_simp
                go_wp2_with (go_at_call 27; (with_reducible refine (tear_dead _ _ 0 x19_86 5 (dd_dead (ps := ps) HP.out HN.out.2) _ f19_89.out.dev (dd_fits HP.out)).mono ?_); rintro e W19_93 ⟨v19_98, rfl, hV19_96, hb19_95⟩)
                have f19_99 := Lib.hid (And.intro f19_89.out.row.lt (codL_lt f19_91.out))
                have f19_102 := Lib.hid (f19_89.out.keep hb19_95)
                have f19_103 := Lib.hid (codL_keep f19_91.out hb19_95)
                have f19_104 := Lib.hid (RowAt.keep f19_90.out hb19_95)
                have f19_101 := Lib.hid hV19_96
                refine hK.out _ _ (hH19_84.keep hb19_95) (fun hH19_94 => ?_)
                clear hK K
                try simp only [Act.put, List.getElem_toArray, List.getElem_cons_zero, List.getElem_cons_succ, List.setIfInBounds_toArray, List.set_cons_zero, List.set_cons_succ]
                refine wpAnyH_take (i := 4) (v := ?_) rfl (by kernel_rfl) (by kernel_rfl) (by kernel_rfl) (fun _ _ _ h => h) (Or.inl ⟨by rfl, ?_⟩) (by assumption) ?_
                rotate_left
                · (intro W _; go_simp; try with_reducible rfl)
                try simp only [Act.put, List.getElem_toArray, List.getElem_cons_zero, List.getElem_cons_succ, List.setIfInBounds_toArray, List.set_cons_zero, List.set_cons_succ]
                refine wpAnyH_take (i := 5) (v := ?_) rfl (by kernel_rfl) (by kernel_rfl) (by kernel_rfl) (fun _ _ _ h => h) (Or.inl ⟨by rfl, ?_⟩) (by assumption) ?_
                rotate_left
                · (intro W _; go_simp; try with_reducible rfl)
                try simp only [Act.put, List.getElem_toArray, List.getElem_cons_zero, List.getElem_cons_succ, List.setIfInBounds_toArray, List.set_cons_zero, List.set_cons_succ]
                refine wpAnyH_take (i := 6) (v := ?_) rfl (by kernel_rfl) (by kernel_rfl) (by kernel_rfl) (fun _ _ _ h => h) (Or.inl ⟨by rfl, ?_⟩) (by assumption) ?_
                rotate_left
                · (intro W _; go_simp; try with_reducible rfl)
                try simp only [Act.put, List.getElem_toArray, List.getElem_cons_zero, List.getElem_cons_succ, List.setIfInBounds_toArray, List.set_cons_zero, List.set_cons_succ]
                refine wpAnyH_ready (rs := [8]) (by kernel_rfl) (by simp) (AllReadyH.cons rfl (fun K hK => ?_) AllReadyH.nil)
                · simp only [List.getElem_toArray, List.getElem_cons_zero, List.getElem_cons_succ]
                  rw [if_pos (by rfl)]
                  have hd0 : dev0.length = 5 := rfl
                  with_reducible refine op_storeV f19_101.out f19_104.out hd0 (by rfl) ?_ ?_ (fun W19_105 hP19_107 hS19_108 => ?_)
                  · rfl
                  · rfl
                  have f19_111 := Lib.hid (f19_102.out.stored hS19_108 (by simp))
                  have f19_110 := Lib.hid (codL_stored f19_103.out hS19_108 f19_77.out)
                  refine hK.out _ _ (hH19_94.stored (fun _ hx => by cases hx) f19_78.out hS19_108) (fun hH19_106 => ?_)
                  clear hK K
                  try simp only [Act.put, List.getElem_toArray, List.getElem_cons_zero, List.getElem_cons_succ, List.setIfInBounds_toArray, List.set_cons_zero, List.set_cons_succ]
                  refine wpAnyH_take (i := 9) (v := ?_) rfl (by kernel_rfl) (by kernel_rfl) (by kernel_rfl) (fun _ _ _ h => h) (Or.inl ⟨by rfl, ?_⟩) (by assumption) ?_
                  rotate_left
                  · (intro W _; go_simp; try with_reducible rfl)
                  try simp only [Act.put, List.getElem_toArray, List.getElem_cons_zero, List.getElem_cons_succ, List.setIfInBounds_toArray, List.set_cons_zero, List.set_cons_succ]
                  refine wpAnyH_done (by kernel_rfl) ?_ _
                  go_wp2_with fail
                  go_meet
                  exact ⟨rfl, _, varAt_sub f19_111.out (by simp), f19_110.out, hH19_106.2⟩
        · go_simp
          go_wp2_with (go_at_call 18; (with_reducible refine (bytes_any xc _ _ f19_2.out).mono ?_); rintro e W19_112 ⟨x19_115, rfl, hx19_116, ⟨_, _, hC19_117⟩, hg19_114⟩)
          have f19_118 := Lib.hid (f19_1.out.grown hg19_114 (fun k e => by injection e with e; subst e; simp))
          have f19_119 := Lib.hid hC19_117
          have f19_120 := Lib.hid hx19_116
          refine hK.out _ _ (hHeld.grown hg19_114 (fun _ hx => by cases hx) (fun k e => by injection e with e; subst e; exact hwc.out)) (fun hH19_113 => ?_)
          clear hK K
          try simp only [Act.put, List.getElem_toArray, List.getElem_cons_zero, List.getElem_cons_succ, List.setIfInBounds_toArray, List.set_cons_zero, List.set_cons_succ]
          refine wpAnyH_ready (rs := [0, 7]) (by kernel_rfl) (by simp) (AllReadyH.cons rfl (fun K hK => ?_) (AllReadyH.cons rfl (fun K hK => ?_) AllReadyH.nil))
          · simp only [List.getElem_toArray, List.getElem_cons_zero, List.getElem_cons_succ]
            rw [if_pos (by rfl)]
            with_reducible refine op_loadV _ f19_118.out.row f19_118.out.len (by rfl) ?_ ?_
            · rfl
            refine hK.out _ _ (hH19_113) (fun hH19_122 => ?_)
            clear hK K
            try simp only [Act.put, List.getElem_toArray, List.getElem_cons_zero, List.getElem_cons_succ, List.setIfInBounds_toArray, List.set_cons_zero, List.set_cons_succ]
            refine wpAnyH_ready (rs := [3, 7]) (by kernel_rfl) (by simp) (AllReadyH.cons rfl (fun K hK => ?_) (AllReadyH.cons rfl (fun K hK => ?_) AllReadyH.nil))
            · go_simp
              go_wp2_with (go_at_call 27; (with_reducible refine (tear_dead _ _ 0 x19_115 5 (dd_dead (ps := ps) HP.out HN.out.2) _ f19_118.out.dev (dd_fits HP.out)).mono ?_); rintro e W19_123 ⟨v19_128, rfl, hV19_126, hb19_125⟩)
              have f19_129 := Lib.hid (And.intro f19_118.out.row.lt (codL_lt f19_119.out))
              have f19_132 := Lib.hid (f19_118.out.keep hb19_125)
              have f19_133 := Lib.hid (codL_keep f19_119.out hb19_125)
              have f19_131 := Lib.hid hV19_126
              refine hK.out _ _ (hH19_122.keep hb19_125) (fun hH19_124 => ?_)
              clear hK K
              try simp only [Act.put, List.getElem_toArray, List.getElem_cons_zero, List.getElem_cons_succ, List.setIfInBounds_toArray, List.set_cons_zero, List.set_cons_succ]
              refine wpAnyH_take (i := 4) (v := ?_) rfl (by kernel_rfl) (by kernel_rfl) (by kernel_rfl) (fun _ _ _ h => h) (Or.inl ⟨by rfl, ?_⟩) (by assumption) ?_
              rotate_left
              · (intro W _; go_simp; try with_reducible rfl)
              try simp only [Act.put, List.getElem_toArray, List.getElem_cons_zero, List.getElem_cons_succ, List.setIfInBounds_toArray, List.set_cons_zero, List.set_cons_succ]
              refine wpAnyH_take (i := 5) (v := ?_) rfl (by kernel_rfl) (by kernel_rfl) (by kernel_rfl) (fun _ _ _ h => h) (Or.inl ⟨by rfl, ?_⟩) (by assumption) ?_
              rotate_left
              · (intro W _; go_simp; try with_reducible rfl)
              try simp only [Act.put, List.getElem_toArray, List.getElem_cons_zero, List.getElem_cons_succ, List.setIfInBounds_toArray, List.set_cons_zero, List.set_cons_succ]
              refine wpAnyH_take (i := 6) (v := ?_) rfl (by kernel_rfl) (by kernel_rfl) (by kernel_rfl) (fun _ _ _ h => h) (Or.inl ⟨by rfl, ?_⟩) (by assumption) ?_
              rotate_left
              · (intro W _; go_simp; try with_reducible rfl)
              try simp only [Act.put, List.getElem_toArray, List.getElem_cons_zero, List.getElem_cons_succ, List.setIfInBounds_toArray, List.set_cons_zero, List.set_cons_succ]
              refine wpAnyH_ready (rs := [7]) (by kernel_rfl) (by simp) (AllReadyH.cons rfl (fun K hK => ?_) AllReadyH.nil)
              · have f19_138 := Lib.hid (codL_lt f19_133.out)
                have f19_139 := Lib.hid hH19_124.2.size
                have f19_142 := Lib.hid (off_new f19_131.out (Nat.le_refl _))
                have f19_141 := Lib.hid (varAt_more f19_132.out (Nat.le_refl _))
                simp only [List.getElem_toArray, List.getElem_cons_zero, List.getElem_cons_succ]
                rw [if_pos (by rfl)]
                with_reducible refine op_newDev (by rfl) (fun W19_134 hP19_136 hb19_137 => ?_)
                have f19_143 := Lib.hid (f19_141.out.keep hb19_137)
                have f19_144 := Lib.hid (codL_keep f19_133.out hb19_137)
                have f19_145 := Lib.hid (f19_131.out.keep hb19_137)
                have f19_140 := Lib.hid hP19_136
                refine hK.out _ _ (hH19_124.keep hb19_137) (fun hH19_135 => ?_)
                clear hK K
                try simp only [Act.put, List.getElem_toArray, List.getElem_cons_zero, List.getElem_cons_succ, List.setIfInBounds_toArray, List.set_cons_zero, List.set_cons_succ]
                refine wpAnyH_ready (rs := [8]) (by kernel_rfl) (by simp) (AllReadyH.cons rfl (fun K hK => ?_) AllReadyH.nil)
                · simp only [List.getElem_toArray, List.getElem_cons_zero, List.getElem_cons_succ]
                  rw [if_pos (by rfl)]
                  have hd0 : dev0.length = 5 := rfl
                  with_reducible refine op_storeV f19_145.out f19_140.out hd0 (by rfl) ?_ ?_ (fun W19_146 hP19_148 hS19_149 => ?_)
                  · rfl
                  · rfl
                  have f19_152 := Lib.hid (f19_143.out.stored hS19_149 (by simp))
                  have f19_151 := Lib.hid (codL_stored f19_144.out hS19_149 f19_138.out)
                  refine hK.out _ _ (hH19_135.stored (fun _ hx => by cases hx) f19_139.out hS19_149) (fun hH19_147 => ?_)
                  clear hK K
                  try simp only [Act.put, List.getElem_toArray, List.getElem_cons_zero, List.getElem_cons_succ, List.setIfInBounds_toArray, List.set_cons_zero, List.set_cons_succ]
                  refine wpAnyH_take (i := 9) (v := ?_) rfl (by kernel_rfl) (by kernel_rfl) (by kernel_rfl) (fun _ _ _ h => h) (Or.inl ⟨by rfl, ?_⟩) (by assumption) ?_
                  rotate_left
                  · (intro W _; go_simp; try with_reducible rfl)
                  try simp only [Act.put, List.getElem_toArray, List.getElem_cons_zero, List.getElem_cons_succ, List.setIfInBounds_toArray, List.set_cons_zero, List.set_cons_succ]
                  refine wpAnyH_done (by kernel_rfl) ?_ _
                  go_wp2_with fail
                  go_meet
                  exact ⟨rfl, _, varAt_sub f19_152.out (by simp), f19_151.out, hH19_147.2⟩
            · have f19_157 := Lib.hid (codL_lt f19_119.out)
              have f19_158 := Lib.hid hH19_122.2.size
              have f19_160 := Lib.hid (varAt_more f19_118.out (Nat.le_refl _))
              simp only [List.getElem_toArray, List.getElem_cons_zero, List.getElem_cons_succ]
              rw [if_pos (by rfl)]
              with_reducible refine op_newDev (by rfl) (fun W19_153 hP19_155 hb19_156 => ?_)
              have f19_161 := Lib.hid (f19_160.out.keep hb19_156)
              have f19_162 := Lib.hid (codL_keep f19_119.out hb19_156)
              have f19_159 := Lib.hid hP19_155
              refine hK.out _ _ (hH19_122.keep hb19_156) (fun hH19_154 => ?_)
              clear hK K
              try simp only [Act.put, List.getElem_toArray, List.getElem_cons_zero, List.getElem_cons_succ, List.setIfInBounds_toArray, List.set_cons_zero, List.set_cons_succ]
              refine wpAnyH_ready (rs := [3]) (by kernel_rfl) (by simp) (AllReadyH.cons rfl (fun K hK => ?_) AllReadyH.nil)
              · go_simp
                go_wp2_with (go_at_call 27; (with_reducible refine (tear_dead _ _ 0 x19_115 5 (dd_dead (ps := ps) HP.out HN.out.2) _ f19_161.out.dev (dd_fits HP.out)).mono ?_); rintro e W19_163 ⟨v19_168, rfl, hV19_166, hb19_165⟩)
                have f19_169 := Lib.hid (And.intro f19_161.out.row.lt (codL_lt f19_162.out))
                have f19_172 := Lib.hid (f19_161.out.keep hb19_165)
                have f19_173 := Lib.hid (codL_keep f19_162.out hb19_165)
                have f19_174 := Lib.hid (RowAt.keep f19_159.out hb19_165)
                have f19_171 := Lib.hid hV19_166
                refine hK.out _ _ (hH19_154.keep hb19_165) (fun hH19_164 => ?_)
                clear hK K
                try simp only [Act.put, List.getElem_toArray, List.getElem_cons_zero, List.getElem_cons_succ, List.setIfInBounds_toArray, List.set_cons_zero, List.set_cons_succ]
                refine wpAnyH_take (i := 4) (v := ?_) rfl (by kernel_rfl) (by kernel_rfl) (by kernel_rfl) (fun _ _ _ h => h) (Or.inl ⟨by rfl, ?_⟩) (by assumption) ?_
                rotate_left
                · (intro W _; go_simp; try with_reducible rfl)
                try simp only [Act.put, List.getElem_toArray, List.getElem_cons_zero, List.getElem_cons_succ, List.setIfInBounds_toArray, List.set_cons_zero, List.set_cons_succ]
                refine wpAnyH_take (i := 5) (v := ?_) rfl (by kernel_rfl) (by kernel_rfl) (by kernel_rfl) (fun _ _ _ h => h) (Or.inl ⟨by rfl, ?_⟩) (by assumption) ?_
                rotate_left
                · (intro W _; go_simp; try with_reducible rfl)
                try simp only [Act.put, List.getElem_toArray, List.getElem_cons_zero, List.getElem_cons_succ, List.setIfInBounds_toArray, List.set_cons_zero, List.set_cons_succ]
                refine wpAnyH_take (i := 6) (v := ?_) rfl (by kernel_rfl) (by kernel_rfl) (by kernel_rfl) (fun _ _ _ h => h) (Or.inl ⟨by rfl, ?_⟩) (by assumption) ?_
                rotate_left
                · (intro W _; go_simp; try with_reducible rfl)
                try simp only [Act.put, List.getElem_toArray, List.getElem_cons_zero, List.getElem_cons_succ, List.setIfInBounds_toArray, List.set_cons_zero, List.set_cons_succ]
                refine wpAnyH_ready (rs := [8]) (by kernel_rfl) (by simp) (AllReadyH.cons rfl (fun K hK => ?_) AllReadyH.nil)
                · simp only [List.getElem_toArray, List.getElem_cons_zero, List.getElem_cons_succ]
                  rw [if_pos (by rfl)]
                  have hd0 : dev0.length = 5 := rfl
                  with_reducible refine op_storeV f19_171.out f19_174.out hd0 (by rfl) ?_ ?_ (fun W19_175 hP19_177 hS19_178 => ?_)
                  · rfl
                  · rfl
                  have f19_181 := Lib.hid (f19_172.out.stored hS19_178 (by simp))
                  have f19_180 := Lib.hid (codL_stored f19_173.out hS19_178 f19_157.out)
                  refine hK.out _ _ (hH19_164.stored (fun _ hx => by cases hx) f19_158.out hS19_178) (fun hH19_176 => ?_)
                  clear hK K
                  try simp only [Act.put, List.getElem_toArray, List.getElem_cons_zero, List.getElem_cons_succ, List.setIfInBounds_toArray, List.set_cons_zero, List.set_cons_succ]
                  refine wpAnyH_take (i := 9) (v := ?_) rfl (by kernel_rfl) (by kernel_rfl) (by kernel_rfl) (fun _ _ _ h => h) (Or.inl ⟨by rfl, ?_⟩) (by assumption) ?_
                  rotate_left
                  · (intro W _; go_simp; try with_reducible rfl)
                  try simp only [Act.put, List.getElem_toArray, List.getElem_cons_zero, List.getElem_cons_succ, List.setIfInBounds_toArray, List.set_cons_zero, List.set_cons_succ]
                  refine wpAnyH_done (by kernel_rfl) ?_ _
                  go_wp2_with fail
                  go_meet
                  exact ⟨rfl, _, varAt_sub f19_181.out (by simp), f19_180.out, hH19_176.2⟩
          · have f19_186 := Lib.hid (codL_lt f19_119.out)
            have f19_187 := Lib.hid hH19_113.2.size
            have f19_189 := Lib.hid (varAt_more f19_118.out (Nat.le_refl _))
            simp only [List.getElem_toArray, List.getElem_cons_zero, List.getElem_cons_succ]
            rw [if_pos (by rfl)]
            with_reducible refine op_newDev (by rfl) (fun W19_182 hP19_184 hb19_185 => ?_)
            have f19_190 := Lib.hid (f19_189.out.keep hb19_185)
            have f19_191 := Lib.hid (codL_keep f19_119.out hb19_185)
            have f19_188 := Lib.hid hP19_184
            refine hK.out _ _ (hH19_113.keep hb19_185) (fun hH19_183 => ?_)
            clear hK K
            try simp only [Act.put, List.getElem_toArray, List.getElem_cons_zero, List.getElem_cons_succ, List.setIfInBounds_toArray, List.set_cons_zero, List.set_cons_succ]
            refine wpAnyH_ready (rs := [0]) (by kernel_rfl) (by simp) (AllReadyH.cons rfl (fun K hK => ?_) AllReadyH.nil)
            · simp only [List.getElem_toArray, List.getElem_cons_zero, List.getElem_cons_succ]
              rw [if_pos (by rfl)]
              with_reducible refine op_loadV _ f19_190.out.row f19_190.out.len (by rfl) ?_ ?_
              · rfl
              refine hK.out _ _ (hH19_183) (fun hH19_193 => ?_)
              clear hK K
              try simp only [Act.put, List.getElem_toArray, List.getElem_cons_zero, List.getElem_cons_succ, List.setIfInBounds_toArray, List.set_cons_zero, List.set_cons_succ]
              refine wpAnyH_ready (rs := [3]) (by kernel_rfl) (by simp) (AllReadyH.cons rfl (fun K hK => ?_) AllReadyH.nil)
              · go_simp
                go_wp2_with (go_at_call 27; (with_reducible refine (tear_dead _ _ 0 x19_115 5 (dd_dead (ps := ps) HP.out HN.out.2) _ f19_190.out.dev (dd_fits HP.out)).mono ?_); rintro e W19_194 ⟨v19_199, rfl, hV19_197, hb19_196⟩)
                have f19_200 := Lib.hid (And.intro f19_190.out.row.lt (codL_lt f19_191.out))
                have f19_203 := Lib.hid (f19_190.out.keep hb19_196)
                have f19_204 := Lib.hid (codL_keep f19_191.out hb19_196)
                have f19_205 := Lib.hid (RowAt.keep f19_188.out hb19_196)
                have f19_202 := Lib.hid hV19_197
                refine hK.out _ _ (hH19_193.keep hb19_196) (fun hH19_195 => ?_)
                clear hK K
                try simp only [Act.put, List.getElem_toArray, List.getElem_cons_zero, List.getElem_cons_succ, List.setIfInBounds_toArray, List.set_cons_zero, List.set_cons_succ]
                refine wpAnyH_take (i := 4) (v := ?_) rfl (by kernel_rfl) (by kernel_rfl) (by kernel_rfl) (fun _ _ _ h => h) (Or.inl ⟨by rfl, ?_⟩) (by assumption) ?_
                rotate_left
                · (intro W _; go_simp; try with_reducible rfl)
                try simp only [Act.put, List.getElem_toArray, List.getElem_cons_zero, List.getElem_cons_succ, List.setIfInBounds_toArray, List.set_cons_zero, List.set_cons_succ]
                refine wpAnyH_take (i := 5) (v := ?_) rfl (by kernel_rfl) (by kernel_rfl) (by kernel_rfl) (fun _ _ _ h => h) (Or.inl ⟨by rfl, ?_⟩) (by assumption) ?_
                rotate_left
                · (intro W _; go_simp; try with_reducible rfl)
                try simp only [Act.put, List.getElem_toArray, List.getElem_cons_zero, List.getElem_cons_succ, List.setIfInBounds_toArray, List.set_cons_zero, List.set_cons_succ]
                refine wpAnyH_take (i := 6) (v := ?_) rfl (by kernel_rfl) (by kernel_rfl) (by kernel_rfl) (fun _ _ _ h => h) (Or.inl ⟨by rfl, ?_⟩) (by assumption) ?_
                rotate_left
                · (intro W _; go_simp; try with_reducible rfl)
                try simp only [Act.put, List.getElem_toArray, List.getElem_cons_zero, List.getElem_cons_succ, List.setIfInBounds_toArray, List.set_cons_zero, List.set_cons_succ]
                refine wpAnyH_ready (rs := [8]) (by kernel_rfl) (by simp) (AllReadyH.cons rfl (fun K hK => ?_) AllReadyH.nil)
                · simp only [List.getElem_toArray, List.getElem_cons_zero, List.getElem_cons_succ]
                  rw [if_pos (by rfl)]
                  have hd0 : dev0.length = 5 := rfl
                  with_reducible refine op_storeV f19_202.out f19_205.out hd0 (by rfl) ?_ ?_ (fun W19_206 hP19_208 hS19_209 => ?_)
                  · rfl
                  · rfl
                  have f19_212 := Lib.hid (f19_203.out.stored hS19_209 (by simp))
                  have f19_211 := Lib.hid (codL_stored f19_204.out hS19_209 f19_186.out)
                  refine hK.out _ _ (hH19_195.stored (fun _ hx => by cases hx) f19_187.out hS19_209) (fun hH19_207 => ?_)
                  clear hK K
                  try simp only [Act.put, List.getElem_toArray, List.getElem_cons_zero, List.getElem_cons_succ, List.setIfInBounds_toArray, List.set_cons_zero, List.set_cons_succ]
                  refine wpAnyH_take (i := 9) (v := ?_) rfl (by kernel_rfl) (by kernel_rfl) (by kernel_rfl) (fun _ _ _ h => h) (Or.inl ⟨by rfl, ?_⟩) (by assumption) ?_
                  rotate_left
                  · (intro W _; go_simp; try with_reducible rfl)
                  try simp only [Act.put, List.getElem_toArray, List.getElem_cons_zero, List.getElem_cons_succ, List.setIfInBounds_toArray, List.set_cons_zero, List.set_cons_succ]
                  refine wpAnyH_done (by kernel_rfl) ?_ _
                  go_wp2_with fail
                  go_meet
                  exact ⟨rfl, _, varAt_sub f19_212.out (by simp), f19_211.out, hH19_207.2⟩
        · have f19_217 := Lib.hid (codL_lt f19_2.out)
          have f19_218 := Lib.hid hHeld.2.size
          have f19_220 := Lib.hid (varAt_more f19_1.out (Nat.le_refl _))
          simp only [List.getElem_toArray, List.getElem_cons_zero, List.getElem_cons_succ]
          rw [if_pos (by rfl)]
          with_reducible refine op_newDev (by rfl) (fun W19_213 hP19_215 hb19_216 => ?_)
          have f19_221 := Lib.hid (f19_220.out.keep hb19_216)
          have f19_222 := Lib.hid (codL_keep f19_2.out hb19_216)
          have f19_219 := Lib.hid hP19_215
          refine hK.out _ _ (hHeld.keep hb19_216) (fun hH19_214 => ?_)
          clear hK K
          try simp only [Act.put, List.getElem_toArray, List.getElem_cons_zero, List.getElem_cons_succ, List.setIfInBounds_toArray, List.set_cons_zero, List.set_cons_succ]
          refine wpAnyH_ready (rs := [0, 2]) (by kernel_rfl) (by simp) (AllReadyH.cons rfl (fun K hK => ?_) (AllReadyH.cons rfl (fun K hK => ?_) AllReadyH.nil))
          · simp only [List.getElem_toArray, List.getElem_cons_zero, List.getElem_cons_succ]
            rw [if_pos (by rfl)]
            with_reducible refine op_loadV _ f19_221.out.row f19_221.out.len (by rfl) ?_ ?_
            · rfl
            refine hK.out _ _ (hH19_214) (fun hH19_224 => ?_)
            clear hK K
            try simp only [Act.put, List.getElem_toArray, List.getElem_cons_zero, List.getElem_cons_succ, List.setIfInBounds_toArray, List.set_cons_zero, List.set_cons_succ]
            refine wpAnyH_ready (rs := [2]) (by kernel_rfl) (by simp) (AllReadyH.cons rfl (fun K hK => ?_) AllReadyH.nil)
            · go_simp
              go_wp2_with (go_at_call 18; (with_reducible refine (bytes_any xc _ _ f19_222.out).mono ?_); rintro e W19_225 ⟨x19_228, rfl, hx19_229, ⟨_, _, hC19_230⟩, hg19_227⟩)
              have f19_231 := Lib.hid (f19_221.out.grown hg19_227 (fun k e => by injection e with e; subst e; simp))
              have f19_232 := Lib.hid (RowAt.grown f19_219.out hg19_227 (fun e => by injection e with e; exact Nat.ne_of_lt f19_217.out e))
              have f19_233 := Lib.hid hC19_230
              have f19_234 := Lib.hid hx19_229
              refine hK.out _ _ (hH19_224.grown hg19_227 (fun _ hx => by cases hx) (fun k e => by injection e with e; subst e; exact hwc.out)) (fun hH19_226 => ?_)
              clear hK K
              try simp only [Act.put, List.getElem_toArray, List.getElem_cons_zero, List.getElem_cons_succ, List.setIfInBounds_toArray, List.set_cons_zero, List.set_cons_succ]
              refine wpAnyH_ready (rs := [3]) (by kernel_rfl) (by simp) (AllReadyH.cons rfl (fun K hK => ?_) AllReadyH.nil)
              · go_simp
                go_wp2_with (go_at_call 27; (with_reducible refine (tear_dead _ _ 0 x19_228 5 (dd_dead (ps := ps) HP.out HN.out.2) _ f19_231.out.dev (dd_fits HP.out)).mono ?_); rintro e W19_235 ⟨v19_240, rfl, hV19_238, hb19_237⟩)
                have f19_241 := Lib.hid (And.intro f19_231.out.row.lt (codL_lt f19_233.out))
                have f19_244 := Lib.hid (f19_231.out.keep hb19_237)
                have f19_245 := Lib.hid (codL_keep f19_233.out hb19_237)
                have f19_246 := Lib.hid (RowAt.keep f19_232.out hb19_237)
                have f19_243 := Lib.hid hV19_238
                refine hK.out _ _ (hH19_226.keep hb19_237) (fun hH19_236 => ?_)
                clear hK K
                try simp only [Act.put, List.getElem_toArray, List.getElem_cons_zero, List.getElem_cons_succ, List.setIfInBounds_toArray, List.set_cons_zero, List.set_cons_succ]
                refine wpAnyH_take (i := 4) (v := ?_) rfl (by kernel_rfl) (by kernel_rfl) (by kernel_rfl) (fun _ _ _ h => h) (Or.inl ⟨by rfl, ?_⟩) (by assumption) ?_
                rotate_left
                · (intro W _; go_simp; try with_reducible rfl)
                try simp only [Act.put, List.getElem_toArray, List.getElem_cons_zero, List.getElem_cons_succ, List.setIfInBounds_toArray, List.set_cons_zero, List.set_cons_succ]
                refine wpAnyH_take (i := 5) (v := ?_) rfl (by kernel_rfl) (by kernel_rfl) (by kernel_rfl) (fun _ _ _ h => h) (Or.inl ⟨by rfl, ?_⟩) (by assumption) ?_
                rotate_left
                · (intro W _; go_simp; try with_reducible rfl)
                try simp only [Act.put, List.getElem_toArray, List.getElem_cons_zero, List.getElem_cons_succ, List.setIfInBounds_toArray, List.set_cons_zero, List.set_cons_succ]
                refine wpAnyH_take (i := 6) (v := ?_) rfl (by kernel_rfl) (by kernel_rfl) (by kernel_rfl) (fun _ _ _ h => h) (Or.inl ⟨by rfl, ?_⟩) (by assumption) ?_
                rotate_left
                · (intro W _; go_simp; try with_reducible rfl)
                try simp only [Act.put, List.getElem_toArray, List.getElem_cons_zero, List.getElem_cons_succ, List.setIfInBounds_toArray, List.set_cons_zero, List.set_cons_succ]
                refine wpAnyH_ready (rs := [8]) (by kernel_rfl) (by simp) (AllReadyH.cons rfl (fun K hK => ?_) AllReadyH.nil)
                · simp only [List.getElem_toArray, List.getElem_cons_zero, List.getElem_cons_succ]
                  rw [if_pos (by rfl)]
                  have hd0 : dev0.length = 5 := rfl
                  with_reducible refine op_storeV f19_243.out f19_246.out hd0 (by rfl) ?_ ?_ (fun W19_247 hP19_249 hS19_250 => ?_)
                  · rfl
                  · rfl
                  have f19_253 := Lib.hid (f19_244.out.stored hS19_250 (by simp))
                  have f19_252 := Lib.hid (codL_stored f19_245.out hS19_250 f19_217.out)
                  refine hK.out _ _ (hH19_236.stored (fun _ hx => by cases hx) f19_218.out hS19_250) (fun hH19_248 => ?_)
                  clear hK K
                  try simp only [Act.put, List.getElem_toArray, List.getElem_cons_zero, List.getElem_cons_succ, List.setIfInBounds_toArray, List.set_cons_zero, List.set_cons_succ]
                  refine wpAnyH_take (i := 9) (v := ?_) rfl (by kernel_rfl) (by kernel_rfl) (by kernel_rfl) (fun _ _ _ h => h) (Or.inl ⟨by rfl, ?_⟩) (by assumption) ?_
                  rotate_left
                  · (intro W _; go_simp; try with_reducible rfl)
                  try simp only [Act.put, List.getElem_toArray, List.getElem_cons_zero, List.getElem_cons_succ, List.setIfInBounds_toArray, List.set_cons_zero, List.set_cons_succ]
                  refine wpAnyH_done (by kernel_rfl) ?_ _
                  go_wp2_with fail
                  go_meet
                  exact ⟨rfl, _, varAt_sub f19_253.out (by simp), f19_252.out, hH19_248.2⟩
          · go_simp
            go_wp2_with (go_at_call 18; (with_reducible refine (bytes_any xc _ _ f19_222.out).mono ?_); rintro e W19_254 ⟨x19_257, rfl, hx19_258, ⟨_, _, hC19_259⟩, hg19_256⟩)
            have f19_260 := Lib.hid (f19_221.out.grown hg19_256 (fun k e => by injection e with e; subst e; simp))
            have f19_261 := Lib.hid (RowAt.grown f19_219.out hg19_256 (fun e => by injection e with e; exact Nat.ne_of_lt f19_217.out e))
            have f19_262 := Lib.hid hC19_259
            have f19_263 := Lib.hid hx19_258
            refine hK.out _ _ (hH19_214.grown hg19_256 (fun _ hx => by cases hx) (fun k e => by injection e with e; subst e; exact hwc.out)) (fun hH19_255 => ?_)
            clear hK K
            try simp only [Act.put, List.getElem_toArray, List.getElem_cons_zero, List.getElem_cons_succ, List.setIfInBounds_toArray, List.set_cons_zero, List.set_cons_succ]
            refine wpAnyH_ready (rs := [0]) (by kernel_rfl) (by simp) (AllReadyH.cons rfl (fun K hK => ?_) AllReadyH.nil)
            · simp only [List.getElem_toArray, List.getElem_cons_zero, List.getElem_cons_succ]
              rw [if_pos (by rfl)]
              with_reducible refine op_loadV _ f19_260.out.row f19_260.out.len (by rfl) ?_ ?_
              · rfl
              refine hK.out _ _ (hH19_255) (fun hH19_265 => ?_)
              clear hK K
              try simp only [Act.put, List.getElem_toArray, List.getElem_cons_zero, List.getElem_cons_succ, List.setIfInBounds_toArray, List.set_cons_zero, List.set_cons_succ]
              refine wpAnyH_ready (rs := [3]) (by kernel_rfl) (by simp) (AllReadyH.cons rfl (fun K hK => ?_) AllReadyH.nil)
              · go_simp
                go_wp2_with (go_at_call 27; (with_reducible refine (tear_dead _ _ 0 x19_257 5 (dd_dead (ps := ps) HP.out HN.out.2) _ f19_260.out.dev (dd_fits HP.out)).mono ?_); rintro e W19_266 ⟨v19_271, rfl, hV19_269, hb19_268⟩)
                have f19_272 := Lib.hid (And.intro f19_260.out.row.lt (codL_lt f19_262.out))
                have f19_275 := Lib.hid (f19_260.out.keep hb19_268)
                have f19_276 := Lib.hid (codL_keep f19_262.out hb19_268)
                have f19_277 := Lib.hid (RowAt.keep f19_261.out hb19_268)
                have f19_274 := Lib.hid hV19_269
                refine hK.out _ _ (hH19_265.keep hb19_268) (fun hH19_267 => ?_)
                clear hK K
                try simp only [Act.put, List.getElem_toArray, List.getElem_cons_zero, List.getElem_cons_succ, List.setIfInBounds_toArray, List.set_cons_zero, List.set_cons_succ]
                refine wpAnyH_take (i := 4) (v := ?_) rfl (by kernel_rfl) (by kernel_rfl) (by kernel_rfl) (fun _ _ _ h => h) (Or.inl ⟨by rfl, ?_⟩) (by assumption) ?_
                rotate_left
                · (intro W _; go_simp; try with_reducible rfl)
                try simp only [Act.put, List.getElem_toArray, List.getElem_cons_zero, List.getElem_cons_succ, List.setIfInBounds_toArray, List.set_cons_zero, List.set_cons_succ]
                refine wpAnyH_take (i := 5) (v := ?_) rfl (by kernel_rfl) (by kernel_rfl) (by kernel_rfl) (fun _ _ _ h => h) (Or.inl ⟨by rfl, ?_⟩) (by assumption) ?_
                rotate_left
                · (intro W _; go_simp; try with_reducible rfl)
                try simp only [Act.put, List.getElem_toArray, List.getElem_cons_zero, List.getElem_cons_succ, List.setIfInBounds_toArray, List.set_cons_zero, List.set_cons_succ]
                refine wpAnyH_take (i := 6) (v := ?_) rfl (by kernel_rfl) (by kernel_rfl) (by kernel_rfl) (fun _ _ _ h => h) (Or.inl ⟨by rfl, ?_⟩) (by assumption) ?_
                rotate_left
                · (intro W _; go_simp; try with_reducible rfl)
                try simp only [Act.put, List.getElem_toArray, List.getElem_cons_zero, List.getElem_cons_succ, List.setIfInBounds_toArray, List.set_cons_zero, List.set_cons_succ]
                refine wpAnyH_ready (rs := [8]) (by kernel_rfl) (by simp) (AllReadyH.cons rfl (fun K hK => ?_) AllReadyH.nil)
                · simp only [List.getElem_toArray, List.getElem_cons_zero, List.getElem_cons_succ]
                  rw [if_pos (by rfl)]
                  have hd0 : dev0.length = 5 := rfl
                  with_reducible refine op_storeV f19_274.out f19_277.out hd0 (by rfl) ?_ ?_ (fun W19_278 hP19_280 hS19_281 => ?_)
                  · rfl
                  · rfl
                  have f19_284 := Lib.hid (f19_275.out.stored hS19_281 (by simp))
                  have f19_283 := Lib.hid (codL_stored f19_276.out hS19_281 f19_217.out)
                  refine hK.out _ _ (hH19_267.stored (fun _ hx => by cases hx) f19_218.out hS19_281) (fun hH19_279 => ?_)
                  clear hK K
                  try simp only [Act.put, List.getElem_toArray, List.getElem_cons_zero, List.getElem_cons_succ, List.setIfInBounds_toArray, List.set_cons_zero, List.set_cons_succ]
                  refine wpAnyH_take (i := 9) (v := ?_) rfl (by kernel_rfl) (by kernel_rfl) (by kernel_rfl) (fun _ _ _ h => h) (Or.inl ⟨by rfl, ?_⟩) (by assumption) ?_
                  rotate_left
                  · (intro W _; go_simp; try with_reducible rfl)
                  try simp only [Act.put, List.getElem_toArray, List.getElem_cons_zero, List.getElem_cons_succ, List.setIfInBounds_toArray, List.set_cons_zero, List.set_cons_succ]
                  refine wpAnyH_done (by kernel_rfl) ?_ _
                  go_wp2_with fail
                  go_meet
                  exact ⟨rfl, _, varAt_sub f19_284.out (by simp), f19_283.out, hH19_279.2⟩
      case rest =>
      obtain ⟨rfl, m4, hX, hC, hB⟩ := hcut
      have X8 := Lib.hid hX
      have C8 := Lib.hid hC
      have B8 := Lib.hid hB
      clear hX hC hB XT CT BT
      have RD := Lib.hid (dd_repl (ps := ps) HP.out HN.out.2)
      go_upto_region 21 with (first
        | (refine wp_loadV _ X8.out.row X8.out.len rfl rfl rfl ?_)
        | (go_at_call 29; refine (replace_b _ _ ⟨blanks 2, (i : Int), [], false, [fL i]⟩ RD.out.1 RD.out.2 _ X8.out.dev (dd_fits HP.out)).mono ?_; rintro e w9 ⟨v9, rfl, hV, hl2, hb⟩; have V9 := Lib.hid hV; have L9 := Lib.hid (hl2 _ (Nat.le_refl _)); have C9 := Lib.hid (codL_keep C8.out hb); have B9 := Lib.hid (B8.out.trans (hb.mono B8.out.size)); have K9 := Lib.hid (And.intro (codL_lt C8.out) (Nat.lt_of_lt_of_le (codL_lt C8.out) hb.size)); clear hV hl2 hb X8 C8 B8)
        | (refine wp_newW dev0 _ zero_dev rfl rfl ?_; intro wa hP hb _; have NA := Lib.hid hP; have MA := Lib.hid hb; have CA := Lib.hid (codL_keep C9.out hb); have BA := Lib.hid (B9.out.trans (hb.mono B9.out.size)); clear hP hb C9)
        | (refine wp_storeV V9.out NA.out rfl rfl rfl rfl rfl ?_; intro wb hP hS; have XU : Hid (VarAt w9.heap.size [xc] v9 ⟨blanks 2, (i : Int), [], false, [fL i]⟩ wb) := Lib.hid (var_new V9.out MA.out hP hS (fun y h => by (obtain rfl : y = xc := by simpa using h); exact ⟨K9.out.2, off_lo L9.out K9.out.1⟩)); have CU := Lib.hid (codL_stored CA.out hS K9.out.2); have BU := Lib.hid (hS.below BA.out B9.out.size); clear hP hS NA MA V9 CA L9))
      generalize w9.heap.size = xr at *
      go_cut [22, 23] from 113 to 119 (fun s22 s23 wx => s23 = .int .i64 0 ∧ ∃ (yy : Nat) (v : List Value), s22 = .pointer (some ⟨yy, 0, none⟩) ∧ VarAt xr [xc] v9 ⟨blanks 2, (i : Int), [], false, [fL i]⟩ wx ∧ VarAt yy [] v (qDev (blanks 2) ((i : Int) + 1)) wx ∧ Below w.heap.size w wx)
      case first =>
        refine wp_region_held_drew (S := St [] w) (by kernel_rfl) (st_nil BU.out).drew (fun hHeld => ?_)
        have f21_1 := Lib.hid (XU.out.keep (Below.refl _ _).drew)
        have f21_2 := Lib.hid (codL_keep CU.out (Below.refl _ _).drew)
        refine wpAnyH_take (i := 1) (v := ?_) rfl (by kernel_rfl) (by kernel_rfl) (by kernel_rfl) (fun _ _ _ h => h) (Or.inl ⟨by rfl, ?_⟩) (by assumption) ?_
        rotate_left
        · (intro W _; go_simp; try with_reducible rfl)
        try simp only [Act.put, List.getElem_toArray, List.getElem_cons_zero, List.getElem_cons_succ, List.setIfInBounds_toArray, List.set_cons_zero, List.set_cons_succ]
        refine wpAnyH_ready (rs := [0, 2, 7]) (by kernel_rfl) (by simp) (AllReadyH.cons rfl (fun K hK => ?_) (AllReadyH.cons rfl (fun K hK => ?_) (AllReadyH.cons rfl (fun K hK => ?_) AllReadyH.nil)))
        · simp only [List.getElem_toArray, List.getElem_cons_zero, List.getElem_cons_succ]
          rw [if_pos (by rfl)]
          with_reducible refine op_loadV _ f21_1.out.row f21_1.out.len (by rfl) ?_ ?_
          · rfl
          refine hK.out _ _ (hHeld) (fun hH21_4 => ?_)
          clear hK K
          try simp only [Act.put, List.getElem_toArray, List.getElem_cons_zero, List.getElem_cons_succ, List.setIfInBounds_toArray, List.set_cons_zero, List.set_cons_succ]
          refine wpAnyH_ready (rs := [2, 7]) (by kernel_rfl) (by simp) (AllReadyH.cons rfl (fun K hK => ?_) (AllReadyH.cons rfl (fun K hK => ?_) AllReadyH.nil))
          · go_simp
            go_wp2_with (go_at_call 18; (with_reducible refine (bytes_any xc _ _ f21_2.out).mono ?_); rintro e W21_5 ⟨x21_8, rfl, hx21_9, ⟨_, _, hC21_10⟩, hg21_7⟩)
            have f21_11 := Lib.hid (f21_1.out.grown hg21_7 (fun k e => by injection e with e; subst e; simp))
            have f21_12 := Lib.hid hC21_10
            have f21_13 := Lib.hid hx21_9
            refine hK.out _ _ (hH21_4.grown hg21_7 (fun _ hx => by cases hx) (fun k e => by injection e with e; subst e; exact hwc.out)) (fun hH21_6 => ?_)
            clear hK K
            try simp only [Act.put, List.getElem_toArray, List.getElem_cons_zero, List.getElem_cons_succ, List.setIfInBounds_toArray, List.set_cons_zero, List.set_cons_succ]
            refine wpAnyH_ready (rs := [3, 7]) (by kernel_rfl) (by simp) (AllReadyH.cons rfl (fun K hK => ?_) (AllReadyH.cons rfl (fun K hK => ?_) AllReadyH.nil))
            · go_simp
              go_wp2_with (go_at_call 20; (with_reducible refine (write_b _ _ (qDev (blanks 2) ((i : Int) + 1)) 1 x21_8 (lost_write f21_13.out HN.out).1 (lost_write f21_13.out HN.out).2 _ f21_11.out.dev (fits_pages (m := 2) (pages_blanks 2))).mono ?_); rintro e W21_14 ⟨v21_19, rfl, hV21_17, hL21_18, hb21_16⟩)
              have f21_20 := Lib.hid (And.intro f21_11.out.row.lt (codL_lt f21_12.out))
              have f21_21 := Lib.hid (hL21_18 _ (Nat.le_refl _))
              have f21_23 := Lib.hid (f21_11.out.keep hb21_16)
              have f21_24 := Lib.hid (codL_keep f21_12.out hb21_16)
              have f21_22 := Lib.hid hV21_17
              refine hK.out _ _ (hH21_6.keep hb21_16) (fun hH21_15 => ?_)
              clear hK K
              try simp only [Act.put, List.getElem_toArray, List.getElem_cons_zero, List.getElem_cons_succ, List.setIfInBounds_toArray, List.set_cons_zero, List.set_cons_succ]
              refine wpAnyH_take (i := 4) (v := ?_) rfl (by kernel_rfl) (by kernel_rfl) (by kernel_rfl) (fun _ _ _ h => h) (Or.inl ⟨by rfl, ?_⟩) (by assumption) ?_
              rotate_left
              · (intro W _; go_simp; try with_reducible rfl)
              try simp only [Act.put, List.getElem_toArray, List.getElem_cons_zero, List.getElem_cons_succ, List.setIfInBounds_toArray, List.set_cons_zero, List.set_cons_succ]
              refine wpAnyH_take (i := 5) (v := ?_) rfl (by kernel_rfl) (by kernel_rfl) (by kernel_rfl) (fun _ _ _ h => h) (Or.inl ⟨by rfl, ?_⟩) (by assumption) ?_
              rotate_left
              · (intro W _; go_simp; try with_reducible rfl)
              try simp only [Act.put, List.getElem_toArray, List.getElem_cons_zero, List.getElem_cons_succ, List.setIfInBounds_toArray, List.set_cons_zero, List.set_cons_succ]
              refine wpAnyH_take (i := 6) (v := ?_) rfl (by kernel_rfl) (by kernel_rfl) (by kernel_rfl) (fun _ _ _ h => h) (Or.inl ⟨by rfl, ?_⟩) (by assumption) ?_
              rotate_left
              · (intro W _; go_simp; try with_reducible rfl)
              try simp only [Act.put, List.getElem_toArray, List.getElem_cons_zero, List.getElem_cons_succ, List.setIfInBounds_toArray, List.set_cons_zero, List.set_cons_succ]
              refine wpAnyH_ready (rs := [7]) (by kernel_rfl) (by simp) (AllReadyH.cons rfl (fun K hK => ?_) AllReadyH.nil)
              · have f21_29 := Lib.hid (codL_lt f21_24.out)
                have f21_30 := Lib.hid hH21_15.2.size
                have f21_33 := Lib.hid (off_new f21_22.out (Nat.le_refl _))
                have f21_32 := Lib.hid (varAt_more f21_23.out (Nat.le_refl _))
                simp only [List.getElem_toArray, List.getElem_cons_zero, List.getElem_cons_succ]
                rw [if_pos (by rfl)]
                with_reducible refine op_newDev (by rfl) (fun W21_25 hP21_27 hb21_28 => ?_)
                have f21_34 := Lib.hid (f21_32.out.keep hb21_28)
                have f21_35 := Lib.hid (codL_keep f21_24.out hb21_28)
                have f21_36 := Lib.hid (f21_22.out.keep hb21_28)
                have f21_31 := Lib.hid hP21_27
                refine hK.out _ _ (hH21_15.keep hb21_28) (fun hH21_26 => ?_)
                clear hK K
                try simp only [Act.put, List.getElem_toArray, List.getElem_cons_zero, List.getElem_cons_succ, List.setIfInBounds_toArray, List.set_cons_zero, List.set_cons_succ]
                refine wpAnyH_ready (rs := [8]) (by kernel_rfl) (by simp) (AllReadyH.cons rfl (fun K hK => ?_) AllReadyH.nil)
                · simp only [List.getElem_toArray, List.getElem_cons_zero, List.getElem_cons_succ]
                  rw [if_pos (by rfl)]
                  have hd0 : dev0.length = 5 := rfl
                  with_reducible refine op_storeV f21_36.out f21_31.out hd0 (by rfl) ?_ ?_ (fun W21_37 hP21_39 hS21_40 => ?_)
                  · rfl
                  · rfl
                  have f21_41 := Lib.hid (var_put hP21_39 hS21_40 f21_36.out f21_33.out)
                  have f21_43 := Lib.hid (f21_34.out.stored hS21_40 (by simp))
                  have f21_42 := Lib.hid (codL_stored f21_35.out hS21_40 f21_29.out)
                  refine hK.out _ _ (hH21_26.stored (fun _ hx => by cases hx) f21_30.out hS21_40) (fun hH21_38 => ?_)
                  clear hK K
                  try simp only [Act.put, List.getElem_toArray, List.getElem_cons_zero, List.getElem_cons_succ, List.setIfInBounds_toArray, List.set_cons_zero, List.set_cons_succ]
                  refine wpAnyH_take (i := 9) (v := ?_) rfl (by kernel_rfl) (by kernel_rfl) (by kernel_rfl) (fun _ _ _ h => h) (Or.inl ⟨by rfl, ?_⟩) (by assumption) ?_
                  rotate_left
                  · (intro W _; go_simp; try with_reducible rfl)
                  try simp only [Act.put, List.getElem_toArray, List.getElem_cons_zero, List.getElem_cons_succ, List.setIfInBounds_toArray, List.set_cons_zero, List.set_cons_succ]
                  refine wpAnyH_done (by kernel_rfl) ?_ _
                  go_wp2_with fail
                  go_meet
                  exact ⟨rfl, _, _, rfl, varAt_sub f21_43.out (by simp), f21_41.out, hH21_38.2⟩
            · have f21_48 := Lib.hid (codL_lt f21_12.out)
              have f21_49 := Lib.hid hH21_6.2.size
              have f21_51 := Lib.hid (varAt_more f21_11.out (Nat.le_refl _))
              simp only [List.getElem_toArray, List.getElem_cons_zero, List.getElem_cons_succ]
              rw [if_pos (by rfl)]
              with_reducible refine op_newDev (by rfl) (fun W21_44 hP21_46 hb21_47 => ?_)
              have f21_52 := Lib.hid (f21_51.out.keep hb21_47)
              have f21_53 := Lib.hid (codL_keep f21_12.out hb21_47)
              have f21_50 := Lib.hid hP21_46
              refine hK.out _ _ (hH21_6.keep hb21_47) (fun hH21_45 => ?_)
              clear hK K
              try simp only [Act.put, List.getElem_toArray, List.getElem_cons_zero, List.getElem_cons_succ, List.setIfInBounds_toArray, List.set_cons_zero, List.set_cons_succ]
              refine wpAnyH_ready (rs := [3]) (by kernel_rfl) (by simp) (AllReadyH.cons rfl (fun K hK => ?_) AllReadyH.nil)
              · go_simp
                go_wp2_with (go_at_call 20; (with_reducible refine (write_b _ _ (qDev (blanks 2) ((i : Int) + 1)) 1 x21_8 (lost_write f21_13.out HN.out).1 (lost_write f21_13.out HN.out).2 _ f21_52.out.dev (fits_pages (m := 2) (pages_blanks 2))).mono ?_); rintro e W21_54 ⟨v21_59, rfl, hV21_57, hL21_58, hb21_56⟩)
                have f21_60 := Lib.hid (And.intro f21_52.out.row.lt (codL_lt f21_53.out))
                have f21_61 := Lib.hid (hL21_58 _ (Nat.le_refl _))
                have f21_63 := Lib.hid (off_lo f21_61.out f21_50.out.lt)
                have f21_64 := Lib.hid (f21_52.out.keep hb21_56)
                have f21_65 := Lib.hid (codL_keep f21_53.out hb21_56)
                have f21_66 := Lib.hid (RowAt.keep f21_50.out hb21_56)
                have f21_62 := Lib.hid hV21_57
                refine hK.out _ _ (hH21_45.keep hb21_56) (fun hH21_55 => ?_)
                clear hK K
                try simp only [Act.put, List.getElem_toArray, List.getElem_cons_zero, List.getElem_cons_succ, List.setIfInBounds_toArray, List.set_cons_zero, List.set_cons_succ]
                refine wpAnyH_take (i := 4) (v := ?_) rfl (by kernel_rfl) (by kernel_rfl) (by kernel_rfl) (fun _ _ _ h => h) (Or.inl ⟨by rfl, ?_⟩) (by assumption) ?_
                rotate_left
                · (intro W _; go_simp; try with_reducible rfl)
                try simp only [Act.put, List.getElem_toArray, List.getElem_cons_zero, List.getElem_cons_succ, List.setIfInBounds_toArray, List.set_cons_zero, List.set_cons_succ]
                refine wpAnyH_take (i := 5) (v := ?_) rfl (by kernel_rfl) (by kernel_rfl) (by kernel_rfl) (fun _ _ _ h => h) (Or.inl ⟨by rfl, ?_⟩) (by assumption) ?_
                rotate_left
                · (intro W _; go_simp; try with_reducible rfl)
                try simp only [Act.put, List.getElem_toArray, List.getElem_cons_zero, List.getElem_cons_succ, List.setIfInBounds_toArray, List.set_cons_zero, List.set_cons_succ]
                refine wpAnyH_take (i := 6) (v := ?_) rfl (by kernel_rfl) (by kernel_rfl) (by kernel_rfl) (fun _ _ _ h => h) (Or.inl ⟨by rfl, ?_⟩) (by assumption) ?_
                rotate_left
                · (intro W _; go_simp; try with_reducible rfl)
                try simp only [Act.put, List.getElem_toArray, List.getElem_cons_zero, List.getElem_cons_succ, List.setIfInBounds_toArray, List.set_cons_zero, List.set_cons_succ]
                refine wpAnyH_ready (rs := [8]) (by kernel_rfl) (by simp) (AllReadyH.cons rfl (fun K hK => ?_) AllReadyH.nil)
                · simp only [List.getElem_toArray, List.getElem_cons_zero, List.getElem_cons_succ]
                  rw [if_pos (by rfl)]
                  have hd0 : dev0.length = 5 := rfl
                  with_reducible refine op_storeV f21_62.out f21_66.out hd0 (by rfl) ?_ ?_ (fun W21_67 hP21_69 hS21_70 => ?_)
                  · rfl
                  · rfl
                  have f21_71 := Lib.hid (var_put hP21_69 hS21_70 f21_62.out f21_63.out)
                  have f21_73 := Lib.hid (f21_64.out.stored hS21_70 (by simp))
                  have f21_72 := Lib.hid (codL_stored f21_65.out hS21_70 f21_48.out)
                  refine hK.out _ _ (hH21_55.stored (fun _ hx => by cases hx) f21_49.out hS21_70) (fun hH21_68 => ?_)
                  clear hK K
                  try simp only [Act.put, List.getElem_toArray, List.getElem_cons_zero, List.getElem_cons_succ, List.setIfInBounds_toArray, List.set_cons_zero, List.set_cons_succ]
                  refine wpAnyH_take (i := 9) (v := ?_) rfl (by kernel_rfl) (by kernel_rfl) (by kernel_rfl) (fun _ _ _ h => h) (Or.inl ⟨by rfl, ?_⟩) (by assumption) ?_
                  rotate_left
                  · (intro W _; go_simp; try with_reducible rfl)
                  try simp only [Act.put, List.getElem_toArray, List.getElem_cons_zero, List.getElem_cons_succ, List.setIfInBounds_toArray, List.set_cons_zero, List.set_cons_succ]
                  refine wpAnyH_done (by kernel_rfl) ?_ _
                  go_wp2_with fail
                  go_meet
                  exact ⟨rfl, _, _, rfl, varAt_sub f21_73.out (by simp), f21_71.out, hH21_68.2⟩
          · have f21_78 := Lib.hid (codL_lt f21_2.out)
            have f21_79 := Lib.hid hH21_4.2.size
            have f21_81 := Lib.hid (varAt_more f21_1.out (Nat.le_refl _))
            simp only [List.getElem_toArray, List.getElem_cons_zero, List.getElem_cons_succ]
            rw [if_pos (by rfl)]
            with_reducible refine op_newDev (by rfl) (fun W21_74 hP21_76 hb21_77 => ?_)
            have f21_82 := Lib.hid (f21_81.out.keep hb21_77)
            have f21_83 := Lib.hid (codL_keep f21_2.out hb21_77)
            have f21_80 := Lib.hid hP21_76
            refine hK.out _ _ (hH21_4.keep hb21_77) (fun hH21_75 => ?_)
            clear hK K
            try simp only [Act.put, List.getElem_toArray, List.getElem_cons_zero, List.getElem_cons_succ, List.setIfInBounds_toArray, List.set_cons_zero, List.set_cons_succ]
            refine wpAnyH_ready (rs := [2]) (by kernel_rfl) (by simp) (AllReadyH.cons rfl (fun K hK => ?_) AllReadyH.nil)
            · go_simp
              go_wp2_with (go_at_call 18; (with_reducible refine (bytes_any xc _ _ f21_83.out).mono ?_); rintro e W21_84 ⟨x21_87, rfl, hx21_88, ⟨_, _, hC21_89⟩, hg21_86⟩)
              have f21_90 := Lib.hid (f21_82.out.grown hg21_86 (fun k e => by injection e with e; subst e; simp))
              have f21_91 := Lib.hid (RowAt.grown f21_80.out hg21_86 (fun e => by injection e with e; exact Nat.ne_of_lt f21_78.out e))
              have f21_92 := Lib.hid hC21_89
              have f21_93 := Lib.hid hx21_88
              refine hK.out _ _ (hH21_75.grown hg21_86 (fun _ hx => by cases hx) (fun k e => by injection e with e; subst e; exact hwc.out)) (fun hH21_85 => ?_)
              clear hK K
              try simp only [Act.put, List.getElem_toArray, List.getElem_cons_zero, List.getElem_cons_succ, List.setIfInBounds_toArray, List.set_cons_zero, List.set_cons_succ]
              refine wpAnyH_ready (rs := [3]) (by kernel_rfl) (by simp) (AllReadyH.cons rfl (fun K hK => ?_) AllReadyH.nil)
              · go_simp
                go_wp2_with (go_at_call 20; (with_reducible refine (write_b _ _ (qDev (blanks 2) ((i : Int) + 1)) 1 x21_87 (lost_write f21_93.out HN.out).1 (lost_write f21_93.out HN.out).2 _ f21_90.out.dev (fits_pages (m := 2) (pages_blanks 2))).mono ?_); rintro e W21_94 ⟨v21_99, rfl, hV21_97, hL21_98, hb21_96⟩)
                have f21_100 := Lib.hid (And.intro f21_90.out.row.lt (codL_lt f21_92.out))
                have f21_101 := Lib.hid (hL21_98 _ (Nat.le_refl _))
                have f21_103 := Lib.hid (off_lo f21_101.out f21_91.out.lt)
                have f21_104 := Lib.hid (f21_90.out.keep hb21_96)
                have f21_105 := Lib.hid (codL_keep f21_92.out hb21_96)
                have f21_106 := Lib.hid (RowAt.keep f21_91.out hb21_96)
                have f21_102 := Lib.hid hV21_97
                refine hK.out _ _ (hH21_85.keep hb21_96) (fun hH21_95 => ?_)
                clear hK K
                try simp only [Act.put, List.getElem_toArray, List.getElem_cons_zero, List.getElem_cons_succ, List.setIfInBounds_toArray, List.set_cons_zero, List.set_cons_succ]
                refine wpAnyH_take (i := 4) (v := ?_) rfl (by kernel_rfl) (by kernel_rfl) (by kernel_rfl) (fun _ _ _ h => h) (Or.inl ⟨by rfl, ?_⟩) (by assumption) ?_
                rotate_left
                · (intro W _; go_simp; try with_reducible rfl)
                try simp only [Act.put, List.getElem_toArray, List.getElem_cons_zero, List.getElem_cons_succ, List.setIfInBounds_toArray, List.set_cons_zero, List.set_cons_succ]
                refine wpAnyH_take (i := 5) (v := ?_) rfl (by kernel_rfl) (by kernel_rfl) (by kernel_rfl) (fun _ _ _ h => h) (Or.inl ⟨by rfl, ?_⟩) (by assumption) ?_
                rotate_left
                · (intro W _; go_simp; try with_reducible rfl)
                try simp only [Act.put, List.getElem_toArray, List.getElem_cons_zero, List.getElem_cons_succ, List.setIfInBounds_toArray, List.set_cons_zero, List.set_cons_succ]
                refine wpAnyH_take (i := 6) (v := ?_) rfl (by kernel_rfl) (by kernel_rfl) (by kernel_rfl) (fun _ _ _ h => h) (Or.inl ⟨by rfl, ?_⟩) (by assumption) ?_
                rotate_left
                · (intro W _; go_simp; try with_reducible rfl)
                try simp only [Act.put, List.getElem_toArray, List.getElem_cons_zero, List.getElem_cons_succ, List.setIfInBounds_toArray, List.set_cons_zero, List.set_cons_succ]
                refine wpAnyH_ready (rs := [8]) (by kernel_rfl) (by simp) (AllReadyH.cons rfl (fun K hK => ?_) AllReadyH.nil)
                · simp only [List.getElem_toArray, List.getElem_cons_zero, List.getElem_cons_succ]
                  rw [if_pos (by rfl)]
                  have hd0 : dev0.length = 5 := rfl
                  with_reducible refine op_storeV f21_102.out f21_106.out hd0 (by rfl) ?_ ?_ (fun W21_107 hP21_109 hS21_110 => ?_)
                  · rfl
                  · rfl
                  have f21_111 := Lib.hid (var_put hP21_109 hS21_110 f21_102.out f21_103.out)
                  have f21_113 := Lib.hid (f21_104.out.stored hS21_110 (by simp))
                  have f21_112 := Lib.hid (codL_stored f21_105.out hS21_110 f21_78.out)
                  refine hK.out _ _ (hH21_95.stored (fun _ hx => by cases hx) f21_79.out hS21_110) (fun hH21_108 => ?_)
                  clear hK K
                  try simp only [Act.put, List.getElem_toArray, List.getElem_cons_zero, List.getElem_cons_succ, List.setIfInBounds_toArray, List.set_cons_zero, List.set_cons_succ]
                  refine wpAnyH_take (i := 9) (v := ?_) rfl (by kernel_rfl) (by kernel_rfl) (by kernel_rfl) (fun _ _ _ h => h) (Or.inl ⟨by rfl, ?_⟩) (by assumption) ?_
                  rotate_left
                  · (intro W _; go_simp; try with_reducible rfl)
                  try simp only [Act.put, List.getElem_toArray, List.getElem_cons_zero, List.getElem_cons_succ, List.setIfInBounds_toArray, List.set_cons_zero, List.set_cons_succ]
                  refine wpAnyH_done (by kernel_rfl) ?_ _
                  go_wp2_with fail
                  go_meet
                  exact ⟨rfl, _, _, rfl, varAt_sub f21_113.out (by simp), f21_111.out, hH21_108.2⟩
        · go_simp
          go_wp2_with (go_at_call 18; (with_reducible refine (bytes_any xc _ _ f21_2.out).mono ?_); rintro e W21_114 ⟨x21_117, rfl, hx21_118, ⟨_, _, hC21_119⟩, hg21_116⟩)
          have f21_120 := Lib.hid (f21_1.out.grown hg21_116 (fun k e => by injection e with e; subst e; simp))
          have f21_121 := Lib.hid hC21_119
          have f21_122 := Lib.hid hx21_118
          refine hK.out _ _ (hHeld.grown hg21_116 (fun _ hx => by cases hx) (fun k e => by injection e with e; subst e; exact hwc.out)) (fun hH21_115 => ?_)
          clear hK K
          try simp only [Act.put, List.getElem_toArray, List.getElem_cons_zero, List.getElem_cons_succ, List.setIfInBounds_toArray, List.set_cons_zero, List.set_cons_succ]
          refine wpAnyH_ready (rs := [0, 7]) (by kernel_rfl) (by simp) (AllReadyH.cons rfl (fun K hK => ?_) (AllReadyH.cons rfl (fun K hK => ?_) AllReadyH.nil))
          · simp only [List.getElem_toArray, List.getElem_cons_zero, List.getElem_cons_succ]
            rw [if_pos (by rfl)]
            with_reducible refine op_loadV _ f21_120.out.row f21_120.out.len (by rfl) ?_ ?_
            · rfl
            refine hK.out _ _ (hH21_115) (fun hH21_124 => ?_)
            clear hK K
            try simp only [Act.put, List.getElem_toArray, List.getElem_cons_zero, List.getElem_cons_succ, List.setIfInBounds_toArray, List.set_cons_zero, List.set_cons_succ]
            refine wpAnyH_ready (rs := [3, 7]) (by kernel_rfl) (by simp) (AllReadyH.cons rfl (fun K hK => ?_) (AllReadyH.cons rfl (fun K hK => ?_) AllReadyH.nil))
            · go_simp
              go_wp2_with (go_at_call 20; (with_reducible refine (write_b _ _ (qDev (blanks 2) ((i : Int) + 1)) 1 x21_117 (lost_write f21_122.out HN.out).1 (lost_write f21_122.out HN.out).2 _ f21_120.out.dev (fits_pages (m := 2) (pages_blanks 2))).mono ?_); rintro e W21_125 ⟨v21_130, rfl, hV21_128, hL21_129, hb21_127⟩)
              have f21_131 := Lib.hid (And.intro f21_120.out.row.lt (codL_lt f21_121.out))
              have f21_132 := Lib.hid (hL21_129 _ (Nat.le_refl _))
              have f21_134 := Lib.hid (f21_120.out.keep hb21_127)
              have f21_135 := Lib.hid (codL_keep f21_121.out hb21_127)
              have f21_133 := Lib.hid hV21_128
              refine hK.out _ _ (hH21_124.keep hb21_127) (fun hH21_126 => ?_)
              clear hK K
              try simp only [Act.put, List.getElem_toArray, List.getElem_cons_zero, List.getElem_cons_succ, List.setIfInBounds_toArray, List.set_cons_zero, List.set_cons_succ]
              refine wpAnyH_take (i := 4) (v := ?_) rfl (by kernel_rfl) (by kernel_rfl) (by kernel_rfl) (fun _ _ _ h => h) (Or.inl ⟨by rfl, ?_⟩) (by assumption) ?_
              rotate_left
              · (intro W _; go_simp; try with_reducible rfl)
              try simp only [Act.put, List.getElem_toArray, List.getElem_cons_zero, List.getElem_cons_succ, List.setIfInBounds_toArray, List.set_cons_zero, List.set_cons_succ]
              refine wpAnyH_take (i := 5) (v := ?_) rfl (by kernel_rfl) (by kernel_rfl) (by kernel_rfl) (fun _ _ _ h => h) (Or.inl ⟨by rfl, ?_⟩) (by assumption) ?_
              rotate_left
              · (intro W _; go_simp; try with_reducible rfl)
              try simp only [Act.put, List.getElem_toArray, List.getElem_cons_zero, List.getElem_cons_succ, List.setIfInBounds_toArray, List.set_cons_zero, List.set_cons_succ]
              refine wpAnyH_take (i := 6) (v := ?_) rfl (by kernel_rfl) (by kernel_rfl) (by kernel_rfl) (fun _ _ _ h => h) (Or.inl ⟨by rfl, ?_⟩) (by assumption) ?_
              rotate_left
              · (intro W _; go_simp; try with_reducible rfl)
              try simp only [Act.put, List.getElem_toArray, List.getElem_cons_zero, List.getElem_cons_succ, List.setIfInBounds_toArray, List.set_cons_zero, List.set_cons_succ]
              refine wpAnyH_ready (rs := [7]) (by kernel_rfl) (by simp) (AllReadyH.cons rfl (fun K hK => ?_) AllReadyH.nil)
              · have f21_140 := Lib.hid (codL_lt f21_135.out)
                have f21_141 := Lib.hid hH21_126.2.size
                have f21_144 := Lib.hid (off_new f21_133.out (Nat.le_refl _))
                have f21_143 := Lib.hid (varAt_more f21_134.out (Nat.le_refl _))
                simp only [List.getElem_toArray, List.getElem_cons_zero, List.getElem_cons_succ]
                rw [if_pos (by rfl)]
                with_reducible refine op_newDev (by rfl) (fun W21_136 hP21_138 hb21_139 => ?_)
                have f21_145 := Lib.hid (f21_143.out.keep hb21_139)
                have f21_146 := Lib.hid (codL_keep f21_135.out hb21_139)
                have f21_147 := Lib.hid (f21_133.out.keep hb21_139)
                have f21_142 := Lib.hid hP21_138
                refine hK.out _ _ (hH21_126.keep hb21_139) (fun hH21_137 => ?_)
                clear hK K
                try simp only [Act.put, List.getElem_toArray, List.getElem_cons_zero, List.getElem_cons_succ, List.setIfInBounds_toArray, List.set_cons_zero, List.set_cons_succ]
                refine wpAnyH_ready (rs := [8]) (by kernel_rfl) (by simp) (AllReadyH.cons rfl (fun K hK => ?_) AllReadyH.nil)
                · simp only [List.getElem_toArray, List.getElem_cons_zero, List.getElem_cons_succ]
                  rw [if_pos (by rfl)]
                  have hd0 : dev0.length = 5 := rfl
                  with_reducible refine op_storeV f21_147.out f21_142.out hd0 (by rfl) ?_ ?_ (fun W21_148 hP21_150 hS21_151 => ?_)
                  · rfl
                  · rfl
                  have f21_152 := Lib.hid (var_put hP21_150 hS21_151 f21_147.out f21_144.out)
                  have f21_154 := Lib.hid (f21_145.out.stored hS21_151 (by simp))
                  have f21_153 := Lib.hid (codL_stored f21_146.out hS21_151 f21_140.out)
                  refine hK.out _ _ (hH21_137.stored (fun _ hx => by cases hx) f21_141.out hS21_151) (fun hH21_149 => ?_)
                  clear hK K
                  try simp only [Act.put, List.getElem_toArray, List.getElem_cons_zero, List.getElem_cons_succ, List.setIfInBounds_toArray, List.set_cons_zero, List.set_cons_succ]
                  refine wpAnyH_take (i := 9) (v := ?_) rfl (by kernel_rfl) (by kernel_rfl) (by kernel_rfl) (fun _ _ _ h => h) (Or.inl ⟨by rfl, ?_⟩) (by assumption) ?_
                  rotate_left
                  · (intro W _; go_simp; try with_reducible rfl)
                  try simp only [Act.put, List.getElem_toArray, List.getElem_cons_zero, List.getElem_cons_succ, List.setIfInBounds_toArray, List.set_cons_zero, List.set_cons_succ]
                  refine wpAnyH_done (by kernel_rfl) ?_ _
                  go_wp2_with fail
                  go_meet
                  exact ⟨rfl, _, _, rfl, varAt_sub f21_154.out (by simp), f21_152.out, hH21_149.2⟩
            · have f21_159 := Lib.hid (codL_lt f21_121.out)
              have f21_160 := Lib.hid hH21_124.2.size
              have f21_162 := Lib.hid (varAt_more f21_120.out (Nat.le_refl _))
              simp only [List.getElem_toArray, List.getElem_cons_zero, List.getElem_cons_succ]
              rw [if_pos (by rfl)]
              with_reducible refine op_newDev (by rfl) (fun W21_155 hP21_157 hb21_158 => ?_)
              have f21_163 := Lib.hid (f21_162.out.keep hb21_158)
              have f21_164 := Lib.hid (codL_keep f21_121.out hb21_158)
              have f21_161 := Lib.hid hP21_157
              refine hK.out _ _ (hH21_124.keep hb21_158) (fun hH21_156 => ?_)
              clear hK K
              try simp only [Act.put, List.getElem_toArray, List.getElem_cons_zero, List.getElem_cons_succ, List.setIfInBounds_toArray, List.set_cons_zero, List.set_cons_succ]
              refine wpAnyH_ready (rs := [3]) (by kernel_rfl) (by simp) (AllReadyH.cons rfl (fun K hK => ?_) AllReadyH.nil)
              · go_simp
                go_wp2_with (go_at_call 20; (with_reducible refine (write_b _ _ (qDev (blanks 2) ((i : Int) + 1)) 1 x21_117 (lost_write f21_122.out HN.out).1 (lost_write f21_122.out HN.out).2 _ f21_163.out.dev (fits_pages (m := 2) (pages_blanks 2))).mono ?_); rintro e W21_165 ⟨v21_170, rfl, hV21_168, hL21_169, hb21_167⟩)
                have f21_171 := Lib.hid (And.intro f21_163.out.row.lt (codL_lt f21_164.out))
                have f21_172 := Lib.hid (hL21_169 _ (Nat.le_refl _))
                have f21_174 := Lib.hid (off_lo f21_172.out f21_161.out.lt)
                have f21_175 := Lib.hid (f21_163.out.keep hb21_167)
                have f21_176 := Lib.hid (codL_keep f21_164.out hb21_167)
                have f21_177 := Lib.hid (RowAt.keep f21_161.out hb21_167)
                have f21_173 := Lib.hid hV21_168
                refine hK.out _ _ (hH21_156.keep hb21_167) (fun hH21_166 => ?_)
                clear hK K
                try simp only [Act.put, List.getElem_toArray, List.getElem_cons_zero, List.getElem_cons_succ, List.setIfInBounds_toArray, List.set_cons_zero, List.set_cons_succ]
                refine wpAnyH_take (i := 4) (v := ?_) rfl (by kernel_rfl) (by kernel_rfl) (by kernel_rfl) (fun _ _ _ h => h) (Or.inl ⟨by rfl, ?_⟩) (by assumption) ?_
                rotate_left
                · (intro W _; go_simp; try with_reducible rfl)
                try simp only [Act.put, List.getElem_toArray, List.getElem_cons_zero, List.getElem_cons_succ, List.setIfInBounds_toArray, List.set_cons_zero, List.set_cons_succ]
                refine wpAnyH_take (i := 5) (v := ?_) rfl (by kernel_rfl) (by kernel_rfl) (by kernel_rfl) (fun _ _ _ h => h) (Or.inl ⟨by rfl, ?_⟩) (by assumption) ?_
                rotate_left
                · (intro W _; go_simp; try with_reducible rfl)
                try simp only [Act.put, List.getElem_toArray, List.getElem_cons_zero, List.getElem_cons_succ, List.setIfInBounds_toArray, List.set_cons_zero, List.set_cons_succ]
                refine wpAnyH_take (i := 6) (v := ?_) rfl (by kernel_rfl) (by kernel_rfl) (by kernel_rfl) (fun _ _ _ h => h) (Or.inl ⟨by rfl, ?_⟩) (by assumption) ?_
                rotate_left
                · (intro W _; go_simp; try with_reducible rfl)
                try simp only [Act.put, List.getElem_toArray, List.getElem_cons_zero, List.getElem_cons_succ, List.setIfInBounds_toArray, List.set_cons_zero, List.set_cons_succ]
                refine wpAnyH_ready (rs := [8]) (by kernel_rfl) (by simp) (AllReadyH.cons rfl (fun K hK => ?_) AllReadyH.nil)
                · simp only [List.getElem_toArray, List.getElem_cons_zero, List.getElem_cons_succ]
                  rw [if_pos (by rfl)]
                  have hd0 : dev0.length = 5 := rfl
                  with_reducible refine op_storeV f21_173.out f21_177.out hd0 (by rfl) ?_ ?_ (fun W21_178 hP21_180 hS21_181 => ?_)
                  · rfl
                  · rfl
                  have f21_182 := Lib.hid (var_put hP21_180 hS21_181 f21_173.out f21_174.out)
                  have f21_184 := Lib.hid (f21_175.out.stored hS21_181 (by simp))
                  have f21_183 := Lib.hid (codL_stored f21_176.out hS21_181 f21_159.out)
                  refine hK.out _ _ (hH21_166.stored (fun _ hx => by cases hx) f21_160.out hS21_181) (fun hH21_179 => ?_)
                  clear hK K
                  try simp only [Act.put, List.getElem_toArray, List.getElem_cons_zero, List.getElem_cons_succ, List.setIfInBounds_toArray, List.set_cons_zero, List.set_cons_succ]
                  refine wpAnyH_take (i := 9) (v := ?_) rfl (by kernel_rfl) (by kernel_rfl) (by kernel_rfl) (fun _ _ _ h => h) (Or.inl ⟨by rfl, ?_⟩) (by assumption) ?_
                  rotate_left
                  · (intro W _; go_simp; try with_reducible rfl)
                  try simp only [Act.put, List.getElem_toArray, List.getElem_cons_zero, List.getElem_cons_succ, List.setIfInBounds_toArray, List.set_cons_zero, List.set_cons_succ]
                  refine wpAnyH_done (by kernel_rfl) ?_ _
                  go_wp2_with fail
                  go_meet
                  exact ⟨rfl, _, _, rfl, varAt_sub f21_184.out (by simp), f21_182.out, hH21_179.2⟩
          · have f21_189 := Lib.hid (codL_lt f21_121.out)
            have f21_190 := Lib.hid hH21_115.2.size
            have f21_192 := Lib.hid (varAt_more f21_120.out (Nat.le_refl _))
            simp only [List.getElem_toArray, List.getElem_cons_zero, List.getElem_cons_succ]
            rw [if_pos (by rfl)]
            with_reducible refine op_newDev (by rfl) (fun W21_185 hP21_187 hb21_188 => ?_)
            have f21_193 := Lib.hid (f21_192.out.keep hb21_188)
            have f21_194 := Lib.hid (codL_keep f21_121.out hb21_188)
            have f21_191 := Lib.hid hP21_187
            refine hK.out _ _ (hH21_115.keep hb21_188) (fun hH21_186 => ?_)
            clear hK K
            try simp only [Act.put, List.getElem_toArray, List.getElem_cons_zero, List.getElem_cons_succ, List.setIfInBounds_toArray, List.set_cons_zero, List.set_cons_succ]
            refine wpAnyH_ready (rs := [0]) (by kernel_rfl) (by simp) (AllReadyH.cons rfl (fun K hK => ?_) AllReadyH.nil)
            · simp only [List.getElem_toArray, List.getElem_cons_zero, List.getElem_cons_succ]
              rw [if_pos (by rfl)]
              with_reducible refine op_loadV _ f21_193.out.row f21_193.out.len (by rfl) ?_ ?_
              · rfl
              refine hK.out _ _ (hH21_186) (fun hH21_196 => ?_)
              clear hK K
              try simp only [Act.put, List.getElem_toArray, List.getElem_cons_zero, List.getElem_cons_succ, List.setIfInBounds_toArray, List.set_cons_zero, List.set_cons_succ]
              refine wpAnyH_ready (rs := [3]) (by kernel_rfl) (by simp) (AllReadyH.cons rfl (fun K hK => ?_) AllReadyH.nil)
              · go_simp
                go_wp2_with (go_at_call 20; (with_reducible refine (write_b _ _ (qDev (blanks 2) ((i : Int) + 1)) 1 x21_117 (lost_write f21_122.out HN.out).1 (lost_write f21_122.out HN.out).2 _ f21_193.out.dev (fits_pages (m := 2) (pages_blanks 2))).mono ?_); rintro e W21_197 ⟨v21_202, rfl, hV21_200, hL21_201, hb21_199⟩)
                have f21_203 := Lib.hid (And.intro f21_193.out.row.lt (codL_lt f21_194.out))
                have f21_204 := Lib.hid (hL21_201 _ (Nat.le_refl _))
                have f21_206 := Lib.hid (off_lo f21_204.out f21_191.out.lt)
                have f21_207 := Lib.hid (f21_193.out.keep hb21_199)
                have f21_208 := Lib.hid (codL_keep f21_194.out hb21_199)
                have f21_209 := Lib.hid (RowAt.keep f21_191.out hb21_199)
                have f21_205 := Lib.hid hV21_200
                refine hK.out _ _ (hH21_196.keep hb21_199) (fun hH21_198 => ?_)
                clear hK K
                try simp only [Act.put, List.getElem_toArray, List.getElem_cons_zero, List.getElem_cons_succ, List.setIfInBounds_toArray, List.set_cons_zero, List.set_cons_succ]
                refine wpAnyH_take (i := 4) (v := ?_) rfl (by kernel_rfl) (by kernel_rfl) (by kernel_rfl) (fun _ _ _ h => h) (Or.inl ⟨by rfl, ?_⟩) (by assumption) ?_
                rotate_left
                · (intro W _; go_simp; try with_reducible rfl)
                try simp only [Act.put, List.getElem_toArray, List.getElem_cons_zero, List.getElem_cons_succ, List.setIfInBounds_toArray, List.set_cons_zero, List.set_cons_succ]
                refine wpAnyH_take (i := 5) (v := ?_) rfl (by kernel_rfl) (by kernel_rfl) (by kernel_rfl) (fun _ _ _ h => h) (Or.inl ⟨by rfl, ?_⟩) (by assumption) ?_
                rotate_left
                · (intro W _; go_simp; try with_reducible rfl)
                try simp only [Act.put, List.getElem_toArray, List.getElem_cons_zero, List.getElem_cons_succ, List.setIfInBounds_toArray, List.set_cons_zero, List.set_cons_succ]
                refine wpAnyH_take (i := 6) (v := ?_) rfl (by kernel_rfl) (by kernel_rfl) (by kernel_rfl) (fun _ _ _ h => h) (Or.inl ⟨by rfl, ?_⟩) (by assumption) ?_
                rotate_left
                · (intro W _; go_simp; try with_reducible rfl)
                try simp only [Act.put, List.getElem_toArray, List.getElem_cons_zero, List.getElem_cons_succ, List.setIfInBounds_toArray, List.set_cons_zero, List.set_cons_succ]
                refine wpAnyH_ready (rs := [8]) (by kernel_rfl) (by simp) (AllReadyH.cons rfl (fun K hK => ?_) AllReadyH.nil)
                · simp only [List.getElem_toArray, List.getElem_cons_zero, List.getElem_cons_succ]
                  rw [if_pos (by rfl)]
                  have hd0 : dev0.length = 5 := rfl
                  with_reducible refine op_storeV f21_205.out f21_209.out hd0 (by rfl) ?_ ?_ (fun W21_210 hP21_212 hS21_213 => ?_)
                  · rfl
                  · rfl
                  have f21_214 := Lib.hid (var_put hP21_212 hS21_213 f21_205.out f21_206.out)
                  have f21_216 := Lib.hid (f21_207.out.stored hS21_213 (by simp))
                  have f21_215 := Lib.hid (codL_stored f21_208.out hS21_213 f21_189.out)
                  refine hK.out _ _ (hH21_198.stored (fun _ hx => by cases hx) f21_190.out hS21_213) (fun hH21_211 => ?_)
                  clear hK K
                  try simp only [Act.put, List.getElem_toArray, List.getElem_cons_zero, List.getElem_cons_succ, List.setIfInBounds_toArray, List.set_cons_zero, List.set_cons_succ]
                  refine wpAnyH_take (i := 9) (v := ?_) rfl (by kernel_rfl) (by kernel_rfl) (by kernel_rfl) (fun _ _ _ h => h) (Or.inl ⟨by rfl, ?_⟩) (by assumption) ?_
                  rotate_left
                  · (intro W _; go_simp; try with_reducible rfl)
                  try simp only [Act.put, List.getElem_toArray, List.getElem_cons_zero, List.getElem_cons_succ, List.setIfInBounds_toArray, List.set_cons_zero, List.set_cons_succ]
                  refine wpAnyH_done (by kernel_rfl) ?_ _
                  go_wp2_with fail
                  go_meet
                  exact ⟨rfl, _, _, rfl, varAt_sub f21_216.out (by simp), f21_214.out, hH21_211.2⟩
        · have f21_221 := Lib.hid (codL_lt f21_2.out)
          have f21_222 := Lib.hid hHeld.2.size
          have f21_224 := Lib.hid (varAt_more f21_1.out (Nat.le_refl _))
          simp only [List.getElem_toArray, List.getElem_cons_zero, List.getElem_cons_succ]
          rw [if_pos (by rfl)]
          with_reducible refine op_newDev (by rfl) (fun W21_217 hP21_219 hb21_220 => ?_)
          have f21_225 := Lib.hid (f21_224.out.keep hb21_220)
          have f21_226 := Lib.hid (codL_keep f21_2.out hb21_220)
          have f21_223 := Lib.hid hP21_219
          refine hK.out _ _ (hHeld.keep hb21_220) (fun hH21_218 => ?_)
          clear hK K
          try simp only [Act.put, List.getElem_toArray, List.getElem_cons_zero, List.getElem_cons_succ, List.setIfInBounds_toArray, List.set_cons_zero, List.set_cons_succ]
          refine wpAnyH_ready (rs := [0, 2]) (by kernel_rfl) (by simp) (AllReadyH.cons rfl (fun K hK => ?_) (AllReadyH.cons rfl (fun K hK => ?_) AllReadyH.nil))
          · simp only [List.getElem_toArray, List.getElem_cons_zero, List.getElem_cons_succ]
            rw [if_pos (by rfl)]
            with_reducible refine op_loadV _ f21_225.out.row f21_225.out.len (by rfl) ?_ ?_
            · rfl
            refine hK.out _ _ (hH21_218) (fun hH21_228 => ?_)
            clear hK K
            try simp only [Act.put, List.getElem_toArray, List.getElem_cons_zero, List.getElem_cons_succ, List.setIfInBounds_toArray, List.set_cons_zero, List.set_cons_succ]
            refine wpAnyH_ready (rs := [2]) (by kernel_rfl) (by simp) (AllReadyH.cons rfl (fun K hK => ?_) AllReadyH.nil)
            · go_simp
              go_wp2_with (go_at_call 18; (with_reducible refine (bytes_any xc _ _ f21_226.out).mono ?_); rintro e W21_229 ⟨x21_232, rfl, hx21_233, ⟨_, _, hC21_234⟩, hg21_231⟩)
              have f21_235 := Lib.hid (f21_225.out.grown hg21_231 (fun k e => by injection e with e; subst e; simp))
              have f21_236 := Lib.hid (RowAt.grown f21_223.out hg21_231 (fun e => by injection e with e; exact Nat.ne_of_lt f21_221.out e))
              have f21_237 := Lib.hid hC21_234
              have f21_238 := Lib.hid hx21_233
              refine hK.out _ _ (hH21_228.grown hg21_231 (fun _ hx => by cases hx) (fun k e => by injection e with e; subst e; exact hwc.out)) (fun hH21_230 => ?_)
              clear hK K
              try simp only [Act.put, List.getElem_toArray, List.getElem_cons_zero, List.getElem_cons_succ, List.setIfInBounds_toArray, List.set_cons_zero, List.set_cons_succ]
              refine wpAnyH_ready (rs := [3]) (by kernel_rfl) (by simp) (AllReadyH.cons rfl (fun K hK => ?_) AllReadyH.nil)
              · go_simp
                go_wp2_with (go_at_call 20; (with_reducible refine (write_b _ _ (qDev (blanks 2) ((i : Int) + 1)) 1 x21_232 (lost_write f21_238.out HN.out).1 (lost_write f21_238.out HN.out).2 _ f21_235.out.dev (fits_pages (m := 2) (pages_blanks 2))).mono ?_); rintro e W21_239 ⟨v21_244, rfl, hV21_242, hL21_243, hb21_241⟩)
                have f21_245 := Lib.hid (And.intro f21_235.out.row.lt (codL_lt f21_237.out))
                have f21_246 := Lib.hid (hL21_243 _ (Nat.le_refl _))
                have f21_248 := Lib.hid (off_lo f21_246.out f21_236.out.lt)
                have f21_249 := Lib.hid (f21_235.out.keep hb21_241)
                have f21_250 := Lib.hid (codL_keep f21_237.out hb21_241)
                have f21_251 := Lib.hid (RowAt.keep f21_236.out hb21_241)
                have f21_247 := Lib.hid hV21_242
                refine hK.out _ _ (hH21_230.keep hb21_241) (fun hH21_240 => ?_)
                clear hK K
                try simp only [Act.put, List.getElem_toArray, List.getElem_cons_zero, List.getElem_cons_succ, List.setIfInBounds_toArray, List.set_cons_zero, List.set_cons_succ]
                refine wpAnyH_take (i := 4) (v := ?_) rfl (by kernel_rfl) (by kernel_rfl) (by kernel_rfl) (fun _ _ _ h => h) (Or.inl ⟨by rfl, ?_⟩) (by assumption) ?_
                rotate_left
                · (intro W _; go_simp; try with_reducible rfl)
                try simp only [Act.put, List.getElem_toArray, List.getElem_cons_zero, List.getElem_cons_succ, List.setIfInBounds_toArray, List.set_cons_zero, List.set_cons_succ]
                refine wpAnyH_take (i := 5) (v := ?_) rfl (by kernel_rfl) (by kernel_rfl) (by kernel_rfl) (fun _ _ _ h => h) (Or.inl ⟨by rfl, ?_⟩) (by assumption) ?_
                rotate_left
                · (intro W _; go_simp; try with_reducible rfl)
                try simp only [Act.put, List.getElem_toArray, List.getElem_cons_zero, List.getElem_cons_succ, List.setIfInBounds_toArray, List.set_cons_zero, List.set_cons_succ]
                refine wpAnyH_take (i := 6) (v := ?_) rfl (by kernel_rfl) (by kernel_rfl) (by kernel_rfl) (fun _ _ _ h => h) (Or.inl ⟨by rfl, ?_⟩) (by assumption) ?_
                rotate_left
                · (intro W _; go_simp; try with_reducible rfl)
                try simp only [Act.put, List.getElem_toArray, List.getElem_cons_zero, List.getElem_cons_succ, List.setIfInBounds_toArray, List.set_cons_zero, List.set_cons_succ]
                refine wpAnyH_ready (rs := [8]) (by kernel_rfl) (by simp) (AllReadyH.cons rfl (fun K hK => ?_) AllReadyH.nil)
                · simp only [List.getElem_toArray, List.getElem_cons_zero, List.getElem_cons_succ]
                  rw [if_pos (by rfl)]
                  have hd0 : dev0.length = 5 := rfl
                  with_reducible refine op_storeV f21_247.out f21_251.out hd0 (by rfl) ?_ ?_ (fun W21_252 hP21_254 hS21_255 => ?_)
                  · rfl
                  · rfl
                  have f21_256 := Lib.hid (var_put hP21_254 hS21_255 f21_247.out f21_248.out)
                  have f21_258 := Lib.hid (f21_249.out.stored hS21_255 (by simp))
                  have f21_257 := Lib.hid (codL_stored f21_250.out hS21_255 f21_221.out)
                  refine hK.out _ _ (hH21_240.stored (fun _ hx => by cases hx) f21_222.out hS21_255) (fun hH21_253 => ?_)
                  clear hK K
                  try simp only [Act.put, List.getElem_toArray, List.getElem_cons_zero, List.getElem_cons_succ, List.setIfInBounds_toArray, List.set_cons_zero, List.set_cons_succ]
                  refine wpAnyH_take (i := 9) (v := ?_) rfl (by kernel_rfl) (by kernel_rfl) (by kernel_rfl) (fun _ _ _ h => h) (Or.inl ⟨by rfl, ?_⟩) (by assumption) ?_
                  rotate_left
                  · (intro W _; go_simp; try with_reducible rfl)
                  try simp only [Act.put, List.getElem_toArray, List.getElem_cons_zero, List.getElem_cons_succ, List.setIfInBounds_toArray, List.set_cons_zero, List.set_cons_succ]
                  refine wpAnyH_done (by kernel_rfl) ?_ _
                  go_wp2_with fail
                  go_meet
                  exact ⟨rfl, _, _, rfl, varAt_sub f21_258.out (by simp), f21_256.out, hH21_253.2⟩
          · go_simp
            go_wp2_with (go_at_call 18; (with_reducible refine (bytes_any xc _ _ f21_226.out).mono ?_); rintro e W21_259 ⟨x21_262, rfl, hx21_263, ⟨_, _, hC21_264⟩, hg21_261⟩)
            have f21_265 := Lib.hid (f21_225.out.grown hg21_261 (fun k e => by injection e with e; subst e; simp))
            have f21_266 := Lib.hid (RowAt.grown f21_223.out hg21_261 (fun e => by injection e with e; exact Nat.ne_of_lt f21_221.out e))
            have f21_267 := Lib.hid hC21_264
            have f21_268 := Lib.hid hx21_263
            refine hK.out _ _ (hH21_218.grown hg21_261 (fun _ hx => by cases hx) (fun k e => by injection e with e; subst e; exact hwc.out)) (fun hH21_260 => ?_)
            clear hK K
            try simp only [Act.put, List.getElem_toArray, List.getElem_cons_zero, List.getElem_cons_succ, List.setIfInBounds_toArray, List.set_cons_zero, List.set_cons_succ]
            refine wpAnyH_ready (rs := [0]) (by kernel_rfl) (by simp) (AllReadyH.cons rfl (fun K hK => ?_) AllReadyH.nil)
            · simp only [List.getElem_toArray, List.getElem_cons_zero, List.getElem_cons_succ]
              rw [if_pos (by rfl)]
              with_reducible refine op_loadV _ f21_265.out.row f21_265.out.len (by rfl) ?_ ?_
              · rfl
              refine hK.out _ _ (hH21_260) (fun hH21_270 => ?_)
              clear hK K
              try simp only [Act.put, List.getElem_toArray, List.getElem_cons_zero, List.getElem_cons_succ, List.setIfInBounds_toArray, List.set_cons_zero, List.set_cons_succ]
              refine wpAnyH_ready (rs := [3]) (by kernel_rfl) (by simp) (AllReadyH.cons rfl (fun K hK => ?_) AllReadyH.nil)
              · go_simp
                go_wp2_with (go_at_call 20; (with_reducible refine (write_b _ _ (qDev (blanks 2) ((i : Int) + 1)) 1 x21_262 (lost_write f21_268.out HN.out).1 (lost_write f21_268.out HN.out).2 _ f21_265.out.dev (fits_pages (m := 2) (pages_blanks 2))).mono ?_); rintro e W21_271 ⟨v21_276, rfl, hV21_274, hL21_275, hb21_273⟩)
                have f21_277 := Lib.hid (And.intro f21_265.out.row.lt (codL_lt f21_267.out))
                have f21_278 := Lib.hid (hL21_275 _ (Nat.le_refl _))
                have f21_280 := Lib.hid (off_lo f21_278.out f21_266.out.lt)
                have f21_281 := Lib.hid (f21_265.out.keep hb21_273)
                have f21_282 := Lib.hid (codL_keep f21_267.out hb21_273)
                have f21_283 := Lib.hid (RowAt.keep f21_266.out hb21_273)
                have f21_279 := Lib.hid hV21_274
                refine hK.out _ _ (hH21_270.keep hb21_273) (fun hH21_272 => ?_)
                clear hK K
                try simp only [Act.put, List.getElem_toArray, List.getElem_cons_zero, List.getElem_cons_succ, List.setIfInBounds_toArray, List.set_cons_zero, List.set_cons_succ]
                refine wpAnyH_take (i := 4) (v := ?_) rfl (by kernel_rfl) (by kernel_rfl) (by kernel_rfl) (fun _ _ _ h => h) (Or.inl ⟨by rfl, ?_⟩) (by assumption) ?_
                rotate_left
                · (intro W _; go_simp; try with_reducible rfl)
                try simp only [Act.put, List.getElem_toArray, List.getElem_cons_zero, List.getElem_cons_succ, List.setIfInBounds_toArray, List.set_cons_zero, List.set_cons_succ]
                refine wpAnyH_take (i := 5) (v := ?_) rfl (by kernel_rfl) (by kernel_rfl) (by kernel_rfl) (fun _ _ _ h => h) (Or.inl ⟨by rfl, ?_⟩) (by assumption) ?_
                rotate_left
                · (intro W _; go_simp; try with_reducible rfl)
                try simp only [Act.put, List.getElem_toArray, List.getElem_cons_zero, List.getElem_cons_succ, List.setIfInBounds_toArray, List.set_cons_zero, List.set_cons_succ]
                refine wpAnyH_take (i := 6) (v := ?_) rfl (by kernel_rfl) (by kernel_rfl) (by kernel_rfl) (fun _ _ _ h => h) (Or.inl ⟨by rfl, ?_⟩) (by assumption) ?_
                rotate_left
                · (intro W _; go_simp; try with_reducible rfl)
                try simp only [Act.put, List.getElem_toArray, List.getElem_cons_zero, List.getElem_cons_succ, List.setIfInBounds_toArray, List.set_cons_zero, List.set_cons_succ]
                refine wpAnyH_ready (rs := [8]) (by kernel_rfl) (by simp) (AllReadyH.cons rfl (fun K hK => ?_) AllReadyH.nil)
                · simp only [List.getElem_toArray, List.getElem_cons_zero, List.getElem_cons_succ]
                  rw [if_pos (by rfl)]
                  have hd0 : dev0.length = 5 := rfl
                  with_reducible refine op_storeV f21_279.out f21_283.out hd0 (by rfl) ?_ ?_ (fun W21_284 hP21_286 hS21_287 => ?_)
                  · rfl
                  · rfl
                  have f21_288 := Lib.hid (var_put hP21_286 hS21_287 f21_279.out f21_280.out)
                  have f21_290 := Lib.hid (f21_281.out.stored hS21_287 (by simp))
                  have f21_289 := Lib.hid (codL_stored f21_282.out hS21_287 f21_221.out)
                  refine hK.out _ _ (hH21_272.stored (fun _ hx => by cases hx) f21_222.out hS21_287) (fun hH21_285 => ?_)
                  clear hK K
                  try simp only [Act.put, List.getElem_toArray, List.getElem_cons_zero, List.getElem_cons_succ, List.setIfInBounds_toArray, List.set_cons_zero, List.set_cons_succ]
                  refine wpAnyH_take (i := 9) (v := ?_) rfl (by kernel_rfl) (by kernel_rfl) (by kernel_rfl) (fun _ _ _ h => h) (Or.inl ⟨by rfl, ?_⟩) (by assumption) ?_
                  rotate_left
                  · (intro W _; go_simp; try with_reducible rfl)
                  try simp only [Act.put, List.getElem_toArray, List.getElem_cons_zero, List.getElem_cons_succ, List.setIfInBounds_toArray, List.set_cons_zero, List.set_cons_succ]
                  refine wpAnyH_done (by kernel_rfl) ?_ _
                  go_wp2_with fail
                  go_meet
                  exact ⟨rfl, _, _, rfl, varAt_sub f21_290.out (by simp), f21_288.out, hH21_285.2⟩
      case rest =>
      obtain ⟨rfl, yy, v10, rfl, hX, hZ, hB⟩ := hcut
      have XV := Lib.hid hX
      have ZV := Lib.hid hZ
      have BV := Lib.hid hB
      clear hX hZ hB XU CU BU
      have QR := Lib.hid (q_read (k := 1) (ps := blanks 2) (x := lg.blank) (n := (i : Int) + 1) (pages_blanks 2) (by decide) (by have := HN.out; omega) rfl)
      go_upto_region 23 with (first
        | (refine wp_loadV _ ZV.out.row ZV.out.len rfl rfl rfl ?_)
        | (go_at_call 31; refine (read_b _ _ 1 lg.blank 0 QR.out.1 QR.out.2 _ ZV.out.dev (fits_pages (m := 2) (pages_blanks 2))).mono ?_; rintro e wd ⟨rfl, hb⟩; have XW := Lib.hid (XV.out.keep hb); have BW := Lib.hid (BV.out.trans (hb.mono BV.out.size)); clear hb XV ZV BV))
      have hx1 : wd.cell? ⟨xr, 1, none⟩ = some (.int .i64 (i : Int)) := by
        obtain ⟨_, _, _, e, _⟩ := XW.out.dev
        exact XW.out.row.cells 1 _ (by rw [e]; rfl)
      obtain ⟨sf, cf, hx4⟩ : ∃ sf cf, wd.cell? ⟨xr, 4, none⟩ = some (.slice sf 1 cf) := by
        obtain ⟨sp, cp, su, cu, sf, cf, e, _⟩ := XW.out.dev.form
        exact ⟨sf, cf, XW.out.row.cells 4 _ (by rw [e]; rfl)⟩
      have mk := make_zero 256 (by decide) 256 rfl wd
      have c1 := conv_at (wd.alloc (zeroObj 256)) 256 wd.heap.size (fun i hi => lv.zero_cells wd 256 i hi)
      rw [zeroS_blank] at c1
      have hA : Below w.heap.size w (wd.alloc (zeroObj 256)) := BW.out.alloc BW.out.size _
      go_wp2_with fail
      go_ret
      exact ⟨rfl, hA⟩
end Go.Proofs.Ytikpchhhenonaaa.mb
