/- The reference's Valid. -/
import Derived.Test.YtikpchhhenonaaaNa
namespace Go.Proofs.Ytikpchhhenonaaa.nb
open Go.ChangeShapes Go.WideShapes Go.ChangeAt Go.RowKit Go.Proofs.Ytikpchhhenonaaa.cx Go.Proofs.Ytikpchhhenonaaa.ra Go.Proofs.Ytikpchhhenonaaa.la Go.Proofs.Ytikpchhhenonaaa.lb Go.Proofs.Ytikpchhhenonaaa.lc Go.Proofs.Ytikpchhhenonaaa.ld Go.Proofs.Ytikpchhhenonaaa.le Go.Proofs.Ytikpchhhenonaaa.lf Go.Proofs.Ytikpchhhenonaaa.lg Go.Proofs.Ytikpchhhenonaaa.lh Go.Proofs.Ytikpchhhenonaaa.li Go.Proofs.Ytikpchhhenonaaa.lj Go.Proofs.Ytikpchhhenonaaa.lk Go.Proofs.Ytikpchhhenonaaa.ll Go.Proofs.Ytikpchhhenonaaa.lm Go.Proofs.Ytikpchhhenonaaa.ln Go.Proofs.Ytikpchhhenonaaa.lo Go.Proofs.Ytikpchhhenonaaa.lp Go.Proofs.Ytikpchhhenonaaa.lq Go.Proofs.Ytikpchhhenonaaa.lr Go.Proofs.Ytikpchhhenonaaa.ls Go.Proofs.Ytikpchhhenonaaa.lt Go.Proofs.Ytikpchhhenonaaa.lu Go.Proofs.Ytikpchhhenonaaa.lv Go.Proofs.Ytikpchhhenonaaa.lw Go.Proofs.Ytikpchhhenonaaa.lx Go.Proofs.Ytikpchhhenonaaa.ly Go.Proofs.Ytikpchhhenonaaa.na
set_option linter.unusedSimpArgs false
theorem nv {d : Dev} (h : IsValid d → False) : validD d = false := by
  cases hh : validD d
  · rfl
  · exact (h (valid_is hh)).elim
theorem sl_block {so : Option Addr} {n cap k : Nat} {xs : List Value} {w : World} (h : Sl (.slice so n cap) k n xs w) (hn : 0 < n) :
    ∃ g off, so = some ⟨g, off, none⟩ ∧ g < w.heap.size ∧ ∀ i u, xs[i]? = some u → w.cell? ⟨g, off + i, none⟩ = some u := by
  rcases h.2.2 with ⟨_, h0⟩ | ⟨b, off, cap', e, _, hb, hcc⟩
  · omega
  · simp only [Value.slice.injEq, true_and] at e
    exact ⟨b, off, e.1, hb, hcc⟩
theorem asc_adj : ∀ (l : List Int), (∀ (i : Nat) (a b : Int), l[i]? = some a → l[i + 1]? = some b → a < b) → Asc l
  | [], _ => List.Pairwise.nil
  | [x], _ => List.Pairwise.cons (fun _ h => by cases h) List.Pairwise.nil
  | x :: y :: r, h => by
    have ih := asc_adj (y :: r) (fun i a b ha hb => h (i + 1) a b ha hb)
    have hxy := h 0 x y rfl rfl
    refine List.Pairwise.cons (fun z hz => ?_) ih
    rcases List.mem_cons.1 hz with rfl | hz
    · exact hxy
    · have := (List.pairwise_cons.1 ih).1 z hz
      omega
theorem asc_pair {l : List Int} (h : Asc l) {i : Nat} {a b : Int} (ha : l[i]? = some a) (hb : l[i + 1]? = some b) : a < b := by
  obtain ⟨hi, rfl⟩ := List.getElem?_eq_some_iff.1 ha
  obtain ⟨hj, rfl⟩ := List.getElem?_eq_some_iff.1 hb
  exact List.pairwise_iff_getElem.1 h i (i + 1) hi hj (Nat.lt_succ_self _)
theorem refFault_b (vs : List Value) (d : Dev) (f : Flt) (b : Bool) (hr : okFault d f = b) (w : World) (h : DevV vs d w) :
    Calls Try.prog 52 #[.agg vs.toArray, .agg f.arr] w fun e w' => e = .returned (.bool b) ∧ Below w.heap.size w w' := hr ▸ refFault_any vs d f w h
set_option maxHeartbeats 8000000 in
set_option maxRecDepth 4000 in
theorem refValid_any (vs : List Value) (d : Dev) (w : World) (h : DevV vs d w) (hf : FitsD d) :
    Calls Try.prog 23 #[.agg vs.toArray] w fun e w' => e = .returned (.bool (validD d)) ∧ Below w.heap.size w w' := by
  obtain ⟨sp, cp, su, cu, sf, cf, rfl, P, U, F⟩ := h.form
  have DV := Lib.hid h
  have HF := Lib.hid hf
  have l1 := Sl.len_le P.out
  have l2 := Sl.len_le U.out
  have l3 := Sl.len_le F.out
  clear h hf
  by_cases q0 : (d.pages.length : Int) < 1
  · have E : Hid (validD d = false) := Lib.hid (nv fun V => by have := V.pages.1; omega)
    have e0 : decide ((d.pages.length : Int) < 1) = true := decide_eq_true q0
    clear P U F
    go_enter Try.func23, Try.ntmps23
    go_wp2_with (refine wp_boxW (dvals (.slice sp d.pages.length cp) d.writes (.slice su d.unr.length cu) d.dead (.slice sf d.faults.length cf)) _ rfl rfl rfl ?_; intro w0 hP hb0 hz0; have HB0 := Lib.hid hb0; have HD0 := Lib.hid hP; obtain ⟨a0, a1, a2, a3, a4⟩ := hP.all5; clear hP hb0)
    go_ret
    exact ⟨by rw [E.out]; rfl, HB0.out⟩
  by_cases q1 : (64 : Int) < (d.pages.length : Int)
  · have E : Hid (validD d = false) := Lib.hid (nv fun V => by have := V.pages.1; omega)
    have e0 : decide ((d.pages.length : Int) < 1) = false := decide_eq_false q0
    have e1 : decide ((64 : Int) < (d.pages.length : Int)) = true := decide_eq_true q1
    clear P U F
    go_enter Try.func23, Try.ntmps23
    go_wp2_with (refine wp_boxW (dvals (.slice sp d.pages.length cp) d.writes (.slice su d.unr.length cu) d.dead (.slice sf d.faults.length cf)) _ rfl rfl rfl ?_; intro w0 hP hb0 hz0; have HB0 := Lib.hid hb0; have HD0 := Lib.hid hP; obtain ⟨a0, a1, a2, a3, a4⟩ := hP.all5; clear hP hb0)
    go_ret
    exact ⟨by rw [E.out]; rfl, HB0.out⟩
  by_cases q2 : d.writes < 0
  · have E : Hid (validD d = false) := Lib.hid (nv fun V => by have := V.writes; omega)
    have e0 : decide ((d.pages.length : Int) < 1) = false := decide_eq_false q0
    have e1 : decide ((64 : Int) < (d.pages.length : Int)) = false := decide_eq_false q1
    have e2 : decide (d.writes < 0) = true := decide_eq_true q2
    clear P U F
    go_enter Try.func23, Try.ntmps23
    go_wp2_with (refine wp_boxW (dvals (.slice sp d.pages.length cp) d.writes (.slice su d.unr.length cu) d.dead (.slice sf d.faults.length cf)) _ rfl rfl rfl ?_; intro w0 hP hb0 hz0; have HB0 := Lib.hid hb0; have HD0 := Lib.hid hP; obtain ⟨a0, a1, a2, a3, a4⟩ := hP.all5; clear hP hb0)
    go_ret
    exact ⟨by rw [E.out]; rfl, HB0.out⟩
  by_cases q3 : (1099511627776 : Int) < d.writes
  · have E : Hid (validD d = false) := Lib.hid (nv fun V => by have := V.writes; omega)
    have e0 : decide ((d.pages.length : Int) < 1) = false := decide_eq_false q0
    have e1 : decide ((64 : Int) < (d.pages.length : Int)) = false := decide_eq_false q1
    have e2 : decide (d.writes < 0) = false := decide_eq_false q2
    have e3 : decide ((1099511627776 : Int) < d.writes) = true := decide_eq_true q3
    clear P U F
    go_enter Try.func23, Try.ntmps23
    go_wp2_with (refine wp_boxW (dvals (.slice sp d.pages.length cp) d.writes (.slice su d.unr.length cu) d.dead (.slice sf d.faults.length cf)) _ rfl rfl rfl ?_; intro w0 hP hb0 hz0; have HB0 := Lib.hid hb0; have HD0 := Lib.hid hP; obtain ⟨a0, a1, a2, a3, a4⟩ := hP.all5; clear hP hb0)
    go_ret
    exact ⟨by rw [E.out]; rfl, HB0.out⟩
  by_cases q4 : (64 : Int) < (d.faults.length : Int)
  · have E : Hid (validD d = false) := Lib.hid (nv fun V => by have := V.faults.1; omega)
    have e0 : decide ((d.pages.length : Int) < 1) = false := decide_eq_false q0
    have e1 : decide ((64 : Int) < (d.pages.length : Int)) = false := decide_eq_false q1
    have e2 : decide (d.writes < 0) = false := decide_eq_false q2
    have e3 : decide ((1099511627776 : Int) < d.writes) = false := decide_eq_false q3
    have e4 : decide ((64 : Int) < (d.faults.length : Int)) = true := decide_eq_true q4
    clear P U F
    go_enter Try.func23, Try.ntmps23
    go_wp2_with (refine wp_boxW (dvals (.slice sp d.pages.length cp) d.writes (.slice su d.unr.length cu) d.dead (.slice sf d.faults.length cf)) _ rfl rfl rfl ?_; intro w0 hP hb0 hz0; have HB0 := Lib.hid hb0; have HD0 := Lib.hid hP; obtain ⟨a0, a1, a2, a3, a4⟩ := hP.all5; clear hP hb0)
    go_ret
    exact ⟨by rw [E.out]; rfl, HB0.out⟩
  have e0 : decide ((d.pages.length : Int) < 1) = false := decide_eq_false q0
  have e1 : decide ((64 : Int) < (d.pages.length : Int)) = false := decide_eq_false q1
  have e2 : decide (d.writes < 0) = false := decide_eq_false q2
  have e3 : decide ((1099511627776 : Int) < d.writes) = false := decide_eq_false q3
  have e4 : decide ((64 : Int) < (d.faults.length : Int)) = false := decide_eq_false q4
  have RG : Hid ((1 ≤ d.pages.length ∧ d.pages.length ≤ 64) ∧ (0 ≤ d.writes ∧ d.writes ≤ 1099511627776) ∧ d.faults.length ≤ 64) := Lib.hid ⟨by omega, by omega, by omega⟩
  clear q0 q1 q2 q3 q4
  go_enter Try.func23, Try.ntmps23
  go_wp2_with (refine wp_boxW (dvals (.slice sp d.pages.length cp) d.writes (.slice su d.unr.length cu) d.dead (.slice sf d.faults.length cf)) _ rfl rfl rfl ?_; intro w0 hP hb0 hz0; have HB0 := Lib.hid hb0; have HD0 := Lib.hid hP; obtain ⟨a0, a1, a2, a3, a4⟩ := hP.all5; clear hP hb0)
  clear a0 a1 a2 a3 a4 e0 e1 e2 e3 e4
  go_loopw [4] (fun s4 wr => ∃ j : Nat, j ≤ d.pages.length ∧ s4 = .int .i64 j ∧ Hid (∀ i x, i < j → d.pages[i]? = some x → x.size = 256) ∧ Hid (Below w.heap.size w wr) ∧ Hid (RowAt w.heap.size (dvals (.slice sp d.pages.length cp) d.writes (.slice su d.unr.length cu) d.dead (.slice sf d.faults.length cf)) wr)) (fun s4 _ => d.pages.length - (intOf s4).toNat)
  case atStart => exact ⟨0, by omega, rfl, Lib.hid (fun i x hi _ => absurd hi (Nat.not_lt_zero _)), HB0, HD0⟩
  case round =>
    clear HB0 HD0
    obtain ⟨j, hj, rfl, HA, HB, HD⟩ := hrel
    by_cases hj2 : j < d.pages.length
    · obtain ⟨x, hx⟩ : ∃ x, d.pages[j]? = some x := ⟨_, List.getElem?_eq_getElem hj2⟩
      obtain ⟨g, off, rfl, hg, hcc⟩ := sl_block P.out (by omega)
      have hc : wr.cell? ⟨g, off + j, none⟩ = some (.string x) := (HB.out.cell (p := ⟨g, off + j, none⟩) hg).trans (hcc j _ (strL_at hx))
      have hfx : (x.size : Int) ≤ 9223372036854775807 := by have := HF.out x (List.mem_of_getElem? hx); omega
      have q0 : (0 : Int) ≤ (j : Int) := by omega
      have q1 : (j : Int) < (d.pages.length : Int) := by omega
      obtain ⟨a0, a1, a2, a3, a4⟩ := HD.out.all5
      have HX := Lib.hid hx
      clear hcc hx
      by_cases hs : x.size = 256
      · have hz : ((x.size : Int) != 256) = false := by simp; omega
        go_wp2_with fail
        go_roundw
        case measure => simp [intOf]; omega
        case rel =>
          refine ⟨j + 1, by omega, by go_num, Lib.hid (fun i y hi hy => ?_), HB, HD⟩
          by_cases e : i = j
          · subst e
            rw [HX.out] at hy
            injection hy with hy
            rw [← hy]; exact hs
          · exact HA.out i y (by omega) hy
      · have hz : ((x.size : Int) != 256) = true := by simp; omega
        have E : Hid (validD d = false) := Lib.hid (nv fun V => hs (V.pages.2 x (List.mem_of_getElem? HX.out)))
        clear hs
        go_wp2_with fail
        go_ret
        exact ⟨by rw [E.out]; rfl, HB.out⟩
    · have hj3 : ¬ (j : Int) < (d.pages.length : Int) := by omega
      have HPG : Hid (∀ s ∈ d.pages, s.size = 256) := Lib.hid fun s hs => by
        obtain ⟨i, hi, rfl⟩ := List.mem_iff_getElem.1 hs
        exact HA.out i _ (by omega) (List.getElem?_eq_getElem hi)
      obtain ⟨a0, a1, a2, a3, a4⟩ := HD.out.all5
      clear HA
      go_wp2_with fail
      clear a0 a1 a2 a3 a4
      go_loopw [5] (fun s5 wr => ∃ j : Nat, j ≤ d.unr.length ∧ s5 = .int .i64 j ∧ Hid (∀ i x, i < j → d.unr[i]? = some x → 0 ≤ x ∧ x < (d.pages.length : Int)) ∧ Hid (∀ i a b, i + 1 < j → d.unr[i]? = some a → d.unr[i + 1]? = some b → a < b) ∧ Hid (Below w.heap.size w wr) ∧ Hid (RowAt w.heap.size (dvals (.slice sp d.pages.length cp) d.writes (.slice su d.unr.length cu) d.dead (.slice sf d.faults.length cf)) wr)) (fun s5 _ => d.unr.length - (intOf s5).toNat)
      case atStart => exact ⟨0, by omega, rfl, Lib.hid (fun i x hi _ => absurd hi (Nat.not_lt_zero _)), Lib.hid (fun i x y hi _ => absurd hi (Nat.not_lt_zero _)), HB, HD⟩
      case round =>
        clear HB HD
        obtain ⟨t, ht, rfl, HA, HA2, HB, HD⟩ := hrel
        by_cases ht2 : t < d.unr.length
        · obtain ⟨x, hx⟩ : ∃ x, d.unr[t]? = some x := ⟨_, List.getElem?_eq_getElem ht2⟩
          obtain ⟨g, off, rfl, hg, hcc⟩ := sl_block U.out (by omega)
          have HCC : Hid (∀ i u, (intL d.unr)[i]? = some u → wr.cell? ⟨g, off + i, none⟩ = some u) := Lib.hid fun i u hu => (HB.out.cell (p := ⟨g, off + i, none⟩) hg).trans (hcc i u hu)
          have hc : wr.cell? ⟨g, off + t, none⟩ = some (.int .i64 x) := HCC.out t _ (intL_at hx)
          have q0 : (0 : Int) ≤ (t : Int) := by omega
          have q1 : (t : Int) < (d.unr.length : Int) := by omega
          obtain ⟨a0, a1, a2, a3, a4⟩ := HD.out.all5
          have HX := Lib.hid hx
          have HBD := Lib.hid (la.below_drewN HB.out)
          have HDD := Lib.hid (fun n => HD.out.drewN n)
          clear hcc hx
          by_cases x0 : x < 0
          · have E : Hid (validD d = false) := Lib.hid (nv fun V => by have := V.unr.2 x (List.mem_of_getElem? HX.out); omega)
            have y0 : decide (x < 0) = true := decide_eq_true x0
            clear x0
            go_wp2_with fail
            go_quiet (fail)
            go_wp2_with fail
            go_ret
            exact ⟨by rw [E.out]; rfl, HBD.out _⟩
          have y0 : decide (x < 0) = false := decide_eq_false x0
          by_cases x1 : (d.pages.length : Int) ≤ x
          · have E : Hid (validD d = false) := Lib.hid (nv fun V => by have := V.unr.2 x (List.mem_of_getElem? HX.out); omega)
            have y1 : decide ((d.pages.length : Int) ≤ x) = true := decide_eq_true x1
            clear x0 x1
            go_wp2_with fail
            go_quiet (fail)
            go_wp2_with fail
            go_ret
            exact ⟨by rw [E.out]; rfl, HBD.out _⟩
          have y1 : decide ((d.pages.length : Int) ≤ x) = false := decide_eq_false x1
          have HR : Hid (0 ≤ x ∧ x < (d.pages.length : Int)) := Lib.hid (by omega)
          have NXT : Hid (∀ i y, i < t + 1 → d.unr[i]? = some y → 0 ≤ y ∧ y < (d.pages.length : Int)) := Lib.hid (fun i y hi hy => by
            by_cases e : i = t
            · subst e
              rw [HX.out] at hy
              injection hy with hy
              rw [← hy]; exact HR.out
            · exact HA.out i y (by omega) hy)
          clear x0 x1
          by_cases tz : t = 0
          · have y2 : decide ((0 : Int) < (t : Int)) = false := decide_eq_false (by omega)
            have y4 : decide (0 < t) = false := decide_eq_false (by omega)
            have y5 : ¬ 0 < t := by omega
            have y6 : ¬ (0 : Int) < (t : Int) := by omega
            have NX2 : Hid (∀ i a b, i + 1 < t + 1 → d.unr[i]? = some a → d.unr[i + 1]? = some b → a < b) := Lib.hid (fun i a b hi => by omega)
            clear tz
            go_wp2_with fail
            go_quiet (fail)
            go_wp2_with fail
            go_roundw
            case measure => simp [intOf]; omega
            case rel => exact ⟨t + 1, by omega, by go_num, NXT, NX2, Lib.hid (HBD.out _), Lib.hid (HDD.out _)⟩
          · obtain ⟨s, rfl⟩ : ∃ s, t = s + 1 := ⟨t - 1, by omega⟩
            obtain ⟨y, hy⟩ : ∃ y, d.unr[s]? = some y := ⟨_, List.getElem?_eq_getElem (by omega)⟩
            have y2 : decide ((0 : Int) < ((s + 1 : Nat) : Int)) = true := decide_eq_true (by omega)
            have hc2 : wr.cell? ⟨g, off + s, none⟩ = some (.int .i64 y) := HCC.out s _ (intL_at hy)
            have q2 : (0 : Int) ≤ (s : Int) := by omega
            have q3 : (s : Int) < (d.unr.length : Int) := by omega
            have q4 : ((s + 1 : Nat) : Int) - 1 = (s : Int) := by omega
            have HY := Lib.hid hy
            clear tz hy
            by_cases x2 : x ≤ y
            · have E : Hid (validD d = false) := Lib.hid (nv fun V => by have := asc_pair V.unr.1 HY.out HX.out; omega)
              have y3 : decide (x ≤ y) = true := decide_eq_true x2
              clear x2
              go_wp2_with fail
              go_quiet (fail)
              go_wp2_with fail
              go_ret
              exact ⟨by rw [E.out]; rfl, HBD.out _⟩
            · have y3 : decide (x ≤ y) = false := decide_eq_false x2
              have NX2 : Hid (∀ i a b, i + 1 < s + 1 + 1 → d.unr[i]? = some a → d.unr[i + 1]? = some b → a < b) := Lib.hid (fun i a b hi ha hb => by
                by_cases e : i = s
                · subst e
                  rw [HY.out] at ha
                  rw [HX.out] at hb
                  injection ha with ha
                  injection hb with hb
                  omega
                · exact HA2.out i a b (by omega) ha hb)
              clear x2
              go_wp2_with fail
              go_quiet (fail)
              go_wp2_with fail
              go_roundw
              case measure => simp [intOf]; omega
              case rel => exact ⟨s + 1 + 1, by omega, by go_num, NXT, NX2, Lib.hid (HBD.out _), Lib.hid (HDD.out _)⟩
        · have ht3 : ¬ (t : Int) < (d.unr.length : Int) := by omega
          have HU : Hid (Asc d.unr ∧ ∀ x ∈ d.unr, 0 ≤ x ∧ x < (d.pages.length : Int)) := Lib.hid ⟨asc_adj _ (fun i a b ha hb => HA2.out i a b (by have := (List.getElem?_eq_some_iff.1 hb).1; omega) ha hb), fun x hx => by
            obtain ⟨i, hi, rfl⟩ := List.mem_iff_getElem.1 hx
            exact HA.out i _ (by omega) (List.getElem?_eq_getElem hi)⟩
          obtain ⟨a0, a1, a2, a3, a4⟩ := HD.out.all5
          clear HA HA2
          go_wp2_with fail
          clear a0 a1 a2 a3 a4
          go_loopw [6] (fun s6 wr => ∃ j : Nat, j ≤ d.faults.length ∧ s6 = .int .i64 j ∧ Hid (∀ i x, i < j → d.faults[i]? = some x → okFault d x = true) ∧ Hid (Below w.heap.size w wr) ∧ Hid (RowAt w.heap.size (dvals (.slice sp d.pages.length cp) d.writes (.slice su d.unr.length cu) d.dead (.slice sf d.faults.length cf)) wr)) (fun s6 _ => d.faults.length - (intOf s6).toNat)
          case atStart => exact ⟨0, by omega, rfl, Lib.hid (fun i x hi _ => absurd hi (Nat.not_lt_zero _)), HB, HD⟩
          case round =>
            clear HB HD
            obtain ⟨r, hr, rfl, HA, HB, HD⟩ := hrel
            by_cases hr2 : r < d.faults.length
            · obtain ⟨x, hx⟩ : ∃ x, d.faults[r]? = some x := ⟨_, List.getElem?_eq_getElem hr2⟩
              obtain ⟨g, off, rfl, hg, hcc⟩ := sl_block F.out (by omega)
              have HCC : Hid (∀ i u, x.vals[i]? = some u → wr.cell? ⟨g, off + r * 6 + i, none⟩ = some u) := Lib.hid fun i u hu => by
                rw [HB.out.cell (p := ⟨g, off + r * 6 + i, none⟩) hg, Nat.add_assoc]
                exact hcc _ _ (fltL_at d.faults r x i u hx hu)
              have q0 : (0 : Int) ≤ (r : Int) := by omega
              have q1 : (r : Int) < (d.faults.length : Int) := by omega
              obtain ⟨a0, a1, a2, a3, a4⟩ := HD.out.all5
              have HX := Lib.hid hx
              have VW := Lib.hid (DV.out.keep HB.out)
              clear hcc hx
              cases hres : okFault d x
              all_goals
                have HRR := Lib.hid hres
                clear hres
                go_upto_region 17 with fail
                refine wp_region_held_drew (S := fun W => St [] w W ∧ RowAt w.heap.size (dvals (.slice sp d.pages.length cp) d.writes (.slice su d.unr.length cu) d.dead (.slice (some ⟨g, off, none⟩) d.faults.length cf)) W ∧ DevV (dvals (.slice sp d.pages.length cp) d.writes (.slice su d.unr.length cu) d.dead (.slice (some ⟨g, off, none⟩) d.faults.length cf)) d W ∧ W.cell? ⟨w.heap.size, 4, none⟩ = some (.slice (some ⟨g, off, none⟩) d.faults.length cf) ∧ (∀ i u, x.vals[i]? = some u → W.cell? ⟨g, off + r * 6 + i, none⟩ = some u)) (by kernel_rfl) ⟨(st_nil HB.out).drew, HD.out.drew, VW.out.keep (Below.refl _ _).drew, a4, HCC.out⟩ (fun hHeld => ?_)
                refine wpAnyH_take (i := 0) (v := .agg (dvals (.slice sp d.pages.length cp) d.writes (.slice su d.unr.length cu) d.dead (.slice (some ⟨g, off, none⟩) d.faults.length cf)).toArray) rfl (by kernel_rfl) (by kernel_rfl) (by kernel_rfl) (fun _ _ _ h => h) (yieldsIf_load_mid (by rfl) 27 _ rfl w.heap.size 0 rfl (dvals (.slice sp d.pages.length cp) d.writes (.slice su d.unr.length cu) d.dead (.slice (some ⟨g, off, none⟩) d.faults.length cf)) _ (fun W hSw => RowAt.range (hSw.2.1) 0 (fun j v hv => by rw [Nat.zero_add]; exact hv)) Try.underlying27 rfl info_dev) (by assumption) ?_
                try simp only [Act.put, List.getElem_toArray, List.getElem_cons_zero, List.getElem_cons_succ, List.setIfInBounds_toArray, List.set_cons_zero, List.set_cons_succ]
                refine wpAnyH_take (i := 1) (v := ?_) rfl (by kernel_rfl) (by kernel_rfl) (by kernel_rfl) (fun _ _ _ h => h) (Or.inl ⟨by rfl, ?_⟩) (by assumption) ?_
                rotate_left
                · (intro W hSW; obtain ⟨_, _, _, hsw3, _⟩ := hSW; go_simp; try with_reducible rfl)
                try simp only [Act.put, List.getElem_toArray, List.getElem_cons_zero, List.getElem_cons_succ, List.setIfInBounds_toArray, List.set_cons_zero, List.set_cons_succ]
                refine wpAnyH_take (i := 2) (v := ?_) rfl (by kernel_rfl) (by kernel_rfl) (by kernel_rfl) (fun _ _ _ h => h) (Or.inl ⟨by rfl, ?_⟩) (by assumption) ?_
                rotate_left
                · (intro W hSW; obtain ⟨_, _, _, hsw3, _⟩ := hSW; go_simp; try with_reducible rfl)
                try simp only [Act.put, List.getElem_toArray, List.getElem_cons_zero, List.getElem_cons_succ, List.setIfInBounds_toArray, List.set_cons_zero, List.set_cons_succ]
                refine wpAnyH_take (i := 3) (v := ?_) rfl (by kernel_rfl) (by kernel_rfl) (by kernel_rfl) (fun _ _ _ h => h) (Or.inl ⟨by rfl, ?_⟩) (by assumption) ?_
                rotate_left
                · (intro W hSW; obtain ⟨_, _, _, hsw3, _⟩ := hSW; go_simp; try with_reducible rfl)
                try simp only [Act.put, List.getElem_toArray, List.getElem_cons_zero, List.getElem_cons_succ, List.setIfInBounds_toArray, List.set_cons_zero, List.set_cons_succ]
                refine wpAnyH_take (i := 4) (v := ?_) rfl (by kernel_rfl) (by kernel_rfl) (by kernel_rfl) (fun _ _ _ h => h) (Or.inl ⟨by rfl, ?_⟩) (by assumption) ?_
                rotate_left
                · (intro W hSW; obtain ⟨_, _, _, hsw3, _⟩ := hSW; go_simp; try with_reducible rfl)
                try simp only [Act.put, List.getElem_toArray, List.getElem_cons_zero, List.getElem_cons_succ, List.setIfInBounds_toArray, List.set_cons_zero, List.set_cons_succ]
                refine wpAnyH_take (i := 5) (v := .agg x.arr) rfl (by kernel_rfl) (by kernel_rfl) (by kernel_rfl) (fun _ _ _ h => h) (yieldsIf_load_mid (by rfl) 29 _ rfl g (off + r * 6) rfl x.vals _ (fun W hSw => fun j v hv => hSw.2.2.2.2 j v hv) Try.underlying29 rfl info_flt) (by assumption) ?_
                try simp only [Act.put, List.getElem_toArray, List.getElem_cons_zero, List.getElem_cons_succ, List.setIfInBounds_toArray, List.set_cons_zero, List.set_cons_succ]
                refine wpAnyH_ready (rs := [6]) (by kernel_rfl) (by simp) (AllReadyH.cons rfl (fun K hK => ?_) AllReadyH.nil)
                go_simp
                go_wp2_with (go_at_call 52; (with_reducible refine (refFault_b _ d x _ HRR.out _ hHeld.2.2.1).mono ?_); rintro e W2 ⟨rfl, hb2⟩)
                refine hK.out _ _ ⟨hHeld.1.keep hb2, hHeld.2.1.keep hb2, hHeld.2.2.1.keep hb2, (hb2.cell (cell_lt hHeld.2.2.2.1)).trans hHeld.2.2.2.1, fun i u hu => (hb2.cell (cell_lt (hHeld.2.2.2.2 i u hu))).trans (hHeld.2.2.2.2 i u hu)⟩ (fun hH2 => ?_)
                clear hK K
                try simp only [Act.put, List.getElem_toArray, List.getElem_cons_zero, List.getElem_cons_succ, List.setIfInBounds_toArray, List.set_cons_zero, List.set_cons_succ]
                refine wpAnyH_take (i := 7) (v := ?_) rfl (by kernel_rfl) (by kernel_rfl) (by kernel_rfl) (fun _ _ _ h => h) (Or.inl ⟨by rfl, ?_⟩) (by assumption) ?_
                rotate_left
                · (intro W hSW; go_simp; try with_reducible rfl)
                try simp only [Act.put, List.getElem_toArray, List.getElem_cons_zero, List.getElem_cons_succ, List.setIfInBounds_toArray, List.set_cons_zero, List.set_cons_succ]
                refine wpAnyH_done (by kernel_rfl) ?_ _
                clear a0 a1 a2 a3 a4
                go_wp2_with fail
              · go_ret
                have E : validD d = false := nv fun V => by
                  have := V.faults.2 x (List.mem_of_getElem? HX.out)
                  rw [HRR.out] at this
                  cases this
                exact ⟨by rw [E]; rfl, hH2.1.2⟩
              · go_roundw
                case measure => simp [intOf]; omega
                case rel =>
                  refine ⟨r + 1, by omega, by go_num, Lib.hid (fun i y hi hy => ?_), Lib.hid hH2.1.2, Lib.hid hH2.2.1⟩
                  by_cases e : i = r
                  · subst e
                    rw [HX.out] at hy
                    injection hy with hy
                    rw [← hy]; exact HRR.out
                  · exact HA.out i y (by omega) hy
            · have hr3 : ¬ (r : Int) < (d.faults.length : Int) := by omega
              obtain ⟨a0, a1, a2, a3, a4⟩ := HD.out.all5
              have E : Hid (validD d = true) := Lib.hid (is_valid ⟨RG.out.1, HPG.out⟩ RG.out.2.1 HU.out ⟨RG.out.2.2, fun f hf => by
                obtain ⟨i, hi, rfl⟩ := List.mem_iff_getElem.1 hf
                exact HA.out i _ (by omega) (List.getElem?_eq_getElem hi)⟩)
              go_wp2_with fail
              go_ret
              exact ⟨by rw [E.out]; rfl, HB.out⟩
end Go.Proofs.Ytikpchhhenonaaa.nb
