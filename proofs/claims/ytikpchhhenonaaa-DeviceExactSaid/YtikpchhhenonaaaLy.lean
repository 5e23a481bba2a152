/- DeviceQuiet. -/
import Derived.Test.YtikpchhhenonaaaLx
namespace Go.Proofs.Ytikpchhhenonaaa.ly
open Go.ChangeShapes Go.WideShapes Go.ChangeAt Go.RowKit Go.Proofs.Ytikpchhhenonaaa.cx Go.Proofs.Ytikpchhhenonaaa.ra Go.Proofs.Ytikpchhhenonaaa.la Go.Proofs.Ytikpchhhenonaaa.lb Go.Proofs.Ytikpchhhenonaaa.lc Go.Proofs.Ytikpchhhenonaaa.ld Go.Proofs.Ytikpchhhenonaaa.le Go.Proofs.Ytikpchhhenonaaa.lf Go.Proofs.Ytikpchhhenonaaa.lg Go.Proofs.Ytikpchhhenonaaa.lh Go.Proofs.Ytikpchhhenonaaa.li Go.Proofs.Ytikpchhhenonaaa.lj Go.Proofs.Ytikpchhhenonaaa.lk Go.Proofs.Ytikpchhhenonaaa.ll Go.Proofs.Ytikpchhhenonaaa.lm Go.Proofs.Ytikpchhhenonaaa.ln Go.Proofs.Ytikpchhhenonaaa.lo Go.Proofs.Ytikpchhhenonaaa.lp Go.Proofs.Ytikpchhhenonaaa.lq Go.Proofs.Ytikpchhhenonaaa.lr Go.Proofs.Ytikpchhhenonaaa.ls Go.Proofs.Ytikpchhhenonaaa.lt Go.Proofs.Ytikpchhhenonaaa.lu Go.Proofs.Ytikpchhhenonaaa.lv Go.Proofs.Ytikpchhhenonaaa.lw Go.Proofs.Ytikpchhhenonaaa.lx

theorem bytesIn_below {so : Option Addr} {len : Nat} {w w' : World} (h : BytesIn so len w) (hb : Below w.heap.size w w') : BytesIn so len w' := fun i hi => by
  obtain ⟨b, off, x, e, hc, hx⟩ := h i hi
  exact ⟨b, off, x, e, (hb.cell (p := ⟨b, off + i, none⟩) (cell_lt hc)).trans hc, hx⟩
section
variable {p m : Nat} {w w' w2 : World}
theorem codL_grown {row : Option Nat} (h : CodL p m w) (hg : w.grownBy w' row) (hr : ∀ k, row = some k → p < k) : CodL p m w' := by
  obtain ⟨so, len, cap, at', h, rfl⟩ := h
  have hp := cell_lt h.slice
  have ne : ∀ b, b ≤ p → b ≠ p ∨ b = p → some b ≠ row := fun b hb _ e => by have := hr b e.symm; omega
  have kc : ∀ (b i : Nat), b ≤ p → w'.cell? ⟨b, i, none⟩ = w.cell? ⟨b, i, none⟩ := fun b i hb => World.cell?_of_block (w := w) (a := ⟨b, i, none⟩) (hg.block b (Nat.lt_of_le_of_lt hb hp) (fun e => by have := hr b e.symm; omega))
  have kf : ∀ (b i : Nat), b ≤ p → w'.frozen? ⟨b, i, none⟩ = w.frozen? ⟨b, i, none⟩ := fun b i hb => World.frozen?_of_block (w := w) (a := ⟨b, i, none⟩) (hg.block b (Nat.lt_of_le_of_lt hb hp) (fun e => by have := hr b e.symm; omega))
  refine ⟨so, len, cap, at', ⟨(kc p 0 (Nat.le_refl _)).trans h.slice, (kc p 1 (Nat.le_refl _)).trans h.at1, (kf p 1 (Nat.le_refl _)).trans h.free, h.le, h.small, fun i hi => ?_⟩, rfl⟩
  obtain ⟨b, off, x, e, hne, hc, hx⟩ := h.bytes i hi
  exact ⟨b, off, x, e, hne, (kc b (off + i) (Nat.le_of_lt hne)).trans hc, hx⟩
theorem codL_stored {x : Nat} (h : CodL p m w) (hs : StoredAt x w w') (hx : p < x) : CodL p m w' := codL_grown h (stored_grown hs) fun k e => by injection e with e; omega
theorem codL_most (h : CodL p m w) : m ≤ 1000000 := by
  obtain ⟨so, len, cap, at', h, rfl⟩ := h
  have := h.small
  omega
/-- How many codes are left. -/
def leftOf (p : Nat) (w : World) : Nat :=
  match w.cell? ⟨p, 0, none⟩, w.cell? ⟨p, 1, none⟩ with
  | some (.slice _ len _), some (.int _ a) => len - a.toNat
  | _, _ => 0
theorem leftOf_is (h : CodL p m w) : leftOf p w = m := by
  obtain ⟨so, len, cap, at', h, rfl⟩ := h
  unfold leftOf
  rw [h.slice, h.at1]
  simp
theorem below_grown {k : Nat} (h : Below w.heap.size w w') (hg : w'.grownBy w2 (some k)) (hk : w.heap.size ≤ k) : Below w.heap.size w w2 :=
  ((st_nil h).grown hg (fun _ hx => by cases hx) (fun j e => by injection e with e; omega)).2
theorem varAt_more {x y : Nat} {Y : List Nat} {vs : List Value} {d : Dev} (h : VarAt x Y vs d w) (hy : w.heap.size ≤ y) : VarAt x (y :: Y) vs d w :=
  ⟨h.row, h.dev, h.off, fun z hz => by
    rcases List.mem_cons.1 hz with rfl | hz
    · exact ⟨by have := h.row.lt; omega, off_new h.dev hy⟩
    · exact h.offs z hz⟩
end
theorem zero_last (W : World) : (zeroValue 53).run Try.prog W = .ok (.agg (strL (List.replicate 4 ByteArray.empty)).toArray) W := by kernel_rfl
set_option maxHeartbeats 8000000 in
set_option maxRecDepth 4000 in
theorem quiet_walk (so : Option Addr) (len cap : Nat) (w : World) (hin : BytesIn so len w) (hl : len ≤ 9223372036854775807) (hc : len ≤ cap) :
    Calls Try.prog 5 #[.slice so len cap] w fun e w' => e = .returned (.bool true) ∧ Below w.heap.size w w' := by
  have HIN := Lib.hid hin
  have F0 : Hid (∀ ps, Pages 4 ps → ∀ n, FitsD (qDev ps n)) := Lib.hid fun ps h n => fits_pages (m := 4) h
  clear hin
  go_enter Try.func5, Try.ntmps5
  go_wp2_with (first
    | (go_at_call 9; refine (awake_any _).mono ?_; rintro e w1 ⟨rfl, hb⟩; have B1 := Lib.hid hb; clear hb)
    | (go_at_call 11; (refine (new_most 200 200 rfl so len cap _ (bytesIn_below HIN.out B1.out) hl hc (by decide)).mono ?_; rintro e w2 ⟨rfl, hC, hb, hz⟩; obtain ⟨m0, hC2⟩ := codL_new hC; have C2 := Lib.hid hC2; have B2 := Lib.hid (B1.out.trans (hb.mono B1.out.size)); have K2 : Hid (w.heap.size ≤ w1.heap.size ∧ w1.heap.size < w2.heap.size) := Lib.hid ⟨B1.out.size, codL_lt hC2⟩; clear hC hC2 hb hz))
    | (go_at_call 13; refine (new_b 4 0 (qDev (blanks 4) 0) (newD_of 4 (by decide)).1 (newD_of 4 (by decide)).2 _).mono ?_; rintro e w3 ⟨v1, rfl, hV, hl2, hb⟩; have V3 := Lib.hid hV; have L3 := Lib.hid (hl2 _ (Nat.le_refl _)); have C3 := Lib.hid (codL_keep C2.out hb); have B3 := Lib.hid (B2.out.trans (hb.mono B2.out.size)); have K3 := Lib.hid (Nat.lt_of_lt_of_le K2.out.2 hb.size); clear hV hl2 hb C2)
    | (refine wp_newW dev0 _ zero_dev rfl rfl ?_; intro w4 hP hb _; have N4 := Lib.hid hP; have M4 := Lib.hid hb; have C4 := Lib.hid (codL_keep C3.out hb); have B4 := Lib.hid (B3.out.trans (hb.mono B3.out.size)); clear hP hb C3)
    | (refine wp_storeV V3.out N4.out rfl rfl rfl rfl rfl ?_; intro w5 hP hS; have X5 : Hid (VarAt w3.heap.size [w1.heap.size] v1 (qDev (blanks 4) 0) w5) := Lib.hid (var_new V3.out M4.out hP hS (fun y h => by (obtain rfl : y = w1.heap.size := by simpa using h); exact ⟨K3.out, off_lo L3.out K2.out.2⟩)); have C5 := Lib.hid (codL_stored C4.out hS K3.out); have B5 := Lib.hid (hS.below B4.out B3.out.size); clear hP hS N4 M4 V3 C4 L3)
    | (refine wp_newW _ _ zero_last rfl rfl ?_; (intro w6 hP hb _; have N6 := Lib.hid hP; have C6 := Lib.hid (codL_keep C5.out hb); have B6 := Lib.hid (B5.out.trans (hb.mono B5.out.size)); have X6 := Lib.hid ((varAt_more X5.out (Nat.le_refl _)).keep hb); have KD : Hid (w1.heap.size < w3.heap.size ∧ w.heap.size ≤ w3.heap.size) := Lib.hid ⟨K3.out, B3.out.size⟩; have K6 : Hid (w1.heap.size < w5.heap.size ∧ w.heap.size ≤ w5.heap.size ∧ w3.heap.size < w5.heap.size) := Lib.hid ⟨codL_lt C5.out, B5.out.size, X5.out.row.lt⟩; clear hP hb C5 X5)))
  generalize w5.heap.size = xl at *
  generalize w3.heap.size = xd at *
  have hwc := Lib.hid K2.out.1
  generalize w1.heap.size = xc at *
  go_loopw [7] (fun s7 wr => ∃ (j : Nat) (L : List ByteArray), j ≤ 4 ∧ s7 = .int .i64 j ∧ Hid (L.length = 4 ∧ ∀ i, i < j → L[i]? = some lg.blank) ∧ Hid (RowAt xl (strL L) wr) ∧ Hid (VarAt xd [xl, xc] v1 (qDev (blanks 4) 0) wr) ∧ Hid (CodL xc m0 wr) ∧ Hid (Below w.heap.size w wr)) (fun s7 _ => 4 - (intOf s7).toNat)
  case atStart => exact ⟨0, _, by omega, rfl, Lib.hid ⟨rfl, fun i hi => by omega⟩, N6, X6, C6, B6⟩
  case round =>
    clear N6 X6 C6 B6
    obtain ⟨j, L, hj, rfl, HL, R, X, C, B⟩ := hrel
    by_cases hj4 : j < 4
    · have q0 : (0 : Int) ≤ (j : Int) := by omega
      have q1 : (j : Int) < 4 := by omega
      have mk := make_zero 256 (by decide) 256 rfl wr
      have c1 := conv_at (wr.alloc (zeroObj 256)) 256 wr.heap.size (fun i hi => lv.zero_cells wr 256 i hi)
      have hA : Below wr.heap.size wr (wr.alloc (zeroObj 256)) := (Below.refl _ _).alloc (Nat.le_refl _) _
      have HL2 := HL.out
      have R2 := Lib.hid (R.out.keep hA)
      have X2 := Lib.hid (X.out.keep hA)
      have C2 := Lib.hid (codL_keep C.out hA)
      have B2 := Lib.hid (B.out.trans (hA.mono B.out.size))
      clear hA R X C B
      generalize wr.alloc (zeroObj 256) = w7 at *
      go_wp2_with (refine wp_storeFieldW (i := j) 9 (.string (zeroS 256)) rfl rfl info_string1 R2.out (by simp only [strL, List.length_map, HL2.1]; exact hj4) rfl rfl rfl rfl ?_; intro w8 hP hS; have R3 := Lib.hid hP; have X3 := Lib.hid (X2.out.stored hS (by simp)); have C3 := Lib.hid (codL_stored C2.out hS K6.out.1); have B3 := Lib.hid (hS.below B2.out K6.out.2.1); clear hP hS)
      go_roundw
      case measure => simp [intOf]; omega
      case rel =>
        refine ⟨j + 1, L.set j lg.blank, by omega, by go_num, Lib.hid ⟨by rw [List.length_set]; exact HL2.1, fun i hi => ?_⟩, Lib.hid (by rw [← strL_set, ← zeroS_blank]; exact R3.out), X3, C3, B3⟩
        by_cases e : i = j
        · subst e
          rw [List.getElem?_set_self (by rw [HL2.1]; exact hj4)]
        · rw [List.getElem?_set_ne (fun h => e h.symm)]
          exact HL2.2 i (by omega)
    · obtain rfl : j = 4 := by omega
      have hL : L = blanks 4 := by
        apply List.ext_getElem?
        intro i
        by_cases h : i < 4
        · rw [HL.out.2 i h, blanks, List.getElem?_replicate, if_pos h]
        · rw [List.getElem?_eq_none (by have := HL.out.1; omega), List.getElem?_eq_none (by rw [blanks, List.length_replicate]; omega)]
      subst hL
      clear HL
      go_wp2_with fail
      have HM := codL_most C.out
      go_loopw [5, 8, 9, 10] (fun _ s8 _ _ wx => ∃ (n m : Nat) (ps : List ByteArray) (vs : List Value), s8 = .int .i64 n ∧ n + m ≤ 1000000 ∧ Hid (Pages 4 ps) ∧ Hid (RowAt xl (strL ps) wx) ∧ Hid (VarAt xd [xl, xc] vs (qDev ps n) wx) ∧ Hid (CodL xc m wx) ∧ Hid (Below w.heap.size w wx)) (fun _ _ _ _ wx => leftOf xc wx)
      case atStart => exact ⟨0, m0, _, _, rfl, by omega, Lib.hid (pages_blanks 4), R, X, C, B⟩
      case round =>
        clear R X C B HM
        obtain ⟨n, m, ps, vs, rfl, hnm, HP, R, X, C, B⟩ := hrel
        by_cases hm : 0 < m
        · have q2 : (m : Int) > 0 := by omega
          have hlf := leftOf_is C.out
          go_wp2_with (first
            | (go_at_call 33; refine (left_any xc m _ C.out).mono ?_; rintro e y1 ⟨rfl, hb⟩; have R1 := Lib.hid (R.out.keep hb); have X1 := Lib.hid (X.out.keep hb); have C1 := Lib.hid (codL_keep C.out hb); have B1 := Lib.hid (B.out.trans (hb.mono B.out.size)); clear hb R X C B)
            | (go_at_call 17; refine (nextL_any xc m 4 _ C1.out (by decide)).mono ?_; rintro e y2 ⟨r, rfl, hr0, hr1, _, ⟨m2, hm2, hm3, hC⟩, hg⟩; have R2 := Lib.hid (R1.out.grown hg (fun e => by injection e with e; have := K6.out.1; omega)); have X2 := Lib.hid (X1.out.grown hg (fun k e => by injection e with e; subst e; simp)); have C2 := Lib.hid hC; have B2 := Lib.hid (below_grown B1.out hg hwc.out); have hr4 := hr1 (by decide); have hmm := hm3 (by decide) hm; obtain ⟨k, rfl⟩ := Int.eq_ofNat_of_zero_le hr0; have hk4 : k < 4 := (by omega); clear hr1 hm3 hC hg hr0 R1 X1 C1 B1)
            | (go_at_call 18; refine (bytes_any xc _ _ C2.out).mono ?_; rintro e y3 ⟨x, rfl, hx, ⟨m4, hm4, hC⟩, hg⟩; have R3 := Lib.hid (R2.out.grown hg (fun e => by injection e with e; have := K6.out.1; omega)); have X3 := Lib.hid (X2.out.grown hg (fun k e => by injection e with e; subst e; simp)); have C3 := Lib.hid hC; have B3 := Lib.hid (below_grown B2.out hg hwc.out); have HX := Lib.hid hx; have HPX := Lib.hid (pages_set (k := k) HP.out hx); have q4 : (0 : Int) ≤ (k : Int) := (by omega); clear hC hg hx R2 X2 C2 B2)
            | (refine wp_loadV _ X3.out.row X3.out.len rfl rfl rfl ?_)
            | (go_at_call 20; refine (write_b _ _ (qDev (ps.set k x) ((n : Int) + 1)) (k : Int) x (writeE_of (q_valid HP.out (by decide) (by omega)) rfl (by have := HP.out.1; show (0 : Int) ≤ k ∧ (k : Int) < (ps.length : Int); omega) HX.out (by show (n : Int) < _; omega)) (q_write HX.out) _ X3.out.dev (F0.out _ HP.out _)).mono ?_; rintro e y4 ⟨v4, rfl, hV, hl4, hb⟩; have V4 := Lib.hid hV; have L4 := Lib.hid (hl4 _ (Nat.le_refl _)); have R4 := Lib.hid (R3.out.keep hb); have X4 := Lib.hid (X3.out.keep hb); have C4 := Lib.hid (codL_keep C3.out hb); have B4 := Lib.hid (B3.out.trans (hb.mono B3.out.size)); have T4 : Hid (xd < y3.heap.size ∧ xl < y3.heap.size ∧ xc < y3.heap.size) := Lib.hid ⟨X3.out.row.lt, R3.out.lt, codL_lt C3.out⟩; clear hV hl4 hb R3 X3 C3 B3)
            | (refine wp_storeV V4.out X4.out.row X4.out.len rfl rfl rfl rfl ?_; intro y5 hP hS; have X5 := Lib.hid (var_set X4.out V4.out L4.out T4.out.1 (fun y hy => by have := T4.out; simp at hy; omega) hP hS); have R5 := Lib.hid (hS.row R4.out (fun e => by have := K6.out.2.2; omega)); have C5 := Lib.hid (codL_stored C4.out hS KD.out.1); have B5 := Lib.hid (hS.below B4.out KD.out.2); clear hP hS X4 V4 R4 C4 B4)
            | (refine wp_storeFieldW (i := k) 9 (.string x) rfl rfl info_string1 R5.out (by simp only [strL, List.length_map, HP.out.1]; exact hk4) rfl rfl rfl rfl ?_; intro y6 hP hS; have R6 := Lib.hid hP; have X6 := Lib.hid (X5.out.stored hS (by simp)); have C6 := Lib.hid (codL_stored C5.out hS K6.out.1); have B6 := Lib.hid (hS.below B5.out K6.out.2.1); clear hP hS))
          go_roundw
          case measure => rw [hlf, leftOf_is C6.out]; omega
          case rel =>
            (repeat apply Exists.intro)
            refine ⟨⟨n + 1, m4, ps.set k x, v4, by go_num, by omega, HPX, Lib.hid (by rw [← strL_set]; exact R6.out), Lib.hid (by have := X6.out; rwa [show ((n + 1 : Nat) : Int) = (n : Int) + 1 by omega]), C6, B6⟩, rfl⟩
        · obtain rfl : m = 0 := by omega
          go_wp2_with (go_at_call 33; refine (left_any xc 0 _ C.out).mono ?_; rintro e y1 ⟨rfl, hb⟩; have R1 := Lib.hid (R.out.keep hb); have X1 := Lib.hid (X.out.keep hb); have B1 := Lib.hid (B.out.trans (hb.mono B.out.size)); clear hb R X C B)
          go_loopw [11, 12, 13] (fun s11 _ _ wz => ∃ (j : Nat), j ≤ 4 ∧ s11 = .int .i64 j ∧ Hid (RowAt xl (strL ps) wz) ∧ Hid (VarAt xd [xl, xc] vs (qDev ps n) wz) ∧ Hid (Below w.heap.size w wz)) (fun s11 _ _ _ => 4 - (intOf s11).toNat)
          case atStart => exact ⟨0, by omega, rfl, R1, X1, B1⟩
          case round =>
            clear R1 X1 B1
            obtain ⟨j, hj, rfl, R, X, B⟩ := hrel
            by_cases hj4 : j < 4
            · have q0 : (0 : Int) ≤ (j : Int) := by omega
              have q1 : (j : Int) < 4 := by omega
              obtain ⟨x, hx⟩ : ∃ x, ps[j]? = some x := ⟨_, List.getElem?_eq_getElem (show j < ps.length by have := HP.out.1; omega)⟩
              have hrd := q_read HP.out (n := (n : Int)) (by decide) (by omega) hx
              go_wp2_with (first
                | (refine wp_loadV _ X.out.row X.out.len rfl rfl rfl ?_)
                | (go_at_call 31; refine (read_b _ _ (j : Int) x 0 hrd.1 hrd.2 _ X.out.dev (F0.out _ HP.out _)).mono ?_; rintro e z1 ⟨rfl, hb⟩; have R1 := Lib.hid (R.out.keep hb); have X1 := Lib.hid (X.out.keep hb); have B1 := Lib.hid (B.out.trans (hb.mono B.out.size)); have hcx := R1.out.cells j _ (strL_at hx); clear hb R X B))
              go_roundw
              case measure => simp [intOf]; omega
              case rel => exact ⟨j + 1, by omega, by go_num, R1, X1, B1⟩
            · obtain rfl : j = 4 := by omega
              have hc1 : wr.cell? ⟨xd, 1, none⟩ = some (.int .i64 (n : Int)) := by
                obtain ⟨_, _, _, rfl, _⟩ := X.out.dev
                exact X.out.row.cells 1 _ rfl
              go_wp2_with fail
              go_ret
              exact ⟨rfl, B.out⟩
end Go.Proofs.Ytikpchhhenonaaa.ly
