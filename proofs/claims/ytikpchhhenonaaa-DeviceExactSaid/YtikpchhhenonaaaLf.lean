/- slices.DeleteFunc at faults and numbers, of a row that the caller owns. -/
import Derived.Test.YtikpchhhenonaaaLe
namespace Go.Proofs.Ytikpchhhenonaaa.lf
open Go.ChangeShapes Go.WideShapes Go.ChangeAt Go.RowKit Go.Proofs.Ytikpchhhenonaaa.cx Go.Proofs.Ytikpchhhenonaaa.ra Go.Proofs.Ytikpchhhenonaaa.la Go.Proofs.Ytikpchhhenonaaa.lb Go.Proofs.Ytikpchhhenonaaa.lc Go.Proofs.Ytikpchhhenonaaa.ld Go.Proofs.Ytikpchhhenonaaa.le

theorem zero_int' (W : World) : (zeroValue 3).run Try.prog W = .ok (.int .i64 0) W := by kernel_rfl
theorem take_flt (L : List Flt) (i : Nat) (us : List Value) : (splice (fltL L) (i * 6) us).take (i * 6) = fltL (L.take i) := by
  rw [splice_take]
  exact fltL_take L i
set_option maxHeartbeats 2000000 in
set_option maxRecDepth 4000 in
theorem deleteFunc_flt (p : Flt → Bool) (g C : Nat) (now : Int) (eg : ∀ args w, (callFunc g args).run Try.prog w = .ok (.enter g args) w) (hp : Pred g C now (fun f : Flt => .agg f.arr) p) (base : Nat) (v : Value) (l : List Flt) (w : World)
    (h : w.ownsRow base 29 6 v l.length (fltL l)) (hc : w.cell? ⟨C, 0, none⟩ = some (.int .i64 now)) (hne : v.ownBlock ≠ some C) (hn : l.length ≤ 100000) :
    Calls Try.prog 64 #[v, .func (.func g) #[] #[.pointer (some ⟨C, 0, none⟩)]] w fun e w' => ∃ v', e = .returned v' ∧ w'.ownsRow base 29 6 v' (l.filter fun x => !p x).length (fltL (l.filter fun x => !p x)) ∧ w.grownBy w' v.ownBlock ∧ v'.ownBlock = v.ownBlock := by
  have hIF := indexFunc_flt p g C now eg hp v l w (Sl.of_own h) hc
  rcases Nat.lt_or_ge (l.findIdx p) l.length with hlt | hge
  · have hidx : idxOf p l = ((l.findIdx p : Nat) : Int) := if_pos hlt
    rw [hidx] at hIF
    have HK := Lib.hid (Kept.start hlt)
    obtain ⟨g0, cap, hv, hbg, hg0⟩ := h.form (by omega)
    have hcap : l.length ≤ cap ∧ cap ≤ 9223372036854775807 := by
      rcases h.2 with ⟨e, _⟩ | ⟨g', cap', cur, e, _, _, h1, h2, _⟩
      · rw [hv] at e; cases e
      · rw [hv] at e
        simp only [Value.slice.injEq, true_and] at e
        obtain ⟨_, rfl⟩ := e
        exact ⟨h1, by unfold maxLen at h2; omega⟩
    subst hv
    generalize l.findIdx p = k0 at *
    have hne1 : ((k0 : Int) == -1) = false := beq_eq_false_iff_ne.2 (by omega)
    have O := Lib.hid h
    have HCC := Lib.hid hc
    have HNE : Hid (some C ≠ some g0) := Lib.hid fun e => hne (by injection e with e; rw [e]; rfl)
    have HP := Lib.hid hp
    obtain ⟨hcap1, hcap2⟩ := hcap
    clear h hc hne hp hidx
    go_enter Try.func64, Try.ntmps64
    go_wp2_with (first
      | (go_at_call 81; (with_reducible refine hIF.mono ?_); rintro e wa ⟨rfl, hb⟩; have OA := Lib.hid (own_keep O.out hb); have GA := Lib.hid (below_grownBy hb (some g0)); clear hb hIF O))
    go_loopw [5, 6, 7] (fun s5 s6 _ wr => ∃ (i j : Nat) (L : List Flt), s5 = .int .i64 i ∧ s6 = .int .i64 j ∧ Hid (Kept p l L i j) ∧ Hid (wr.ownsRow base 29 6 (.slice (some ⟨g0, 0, none⟩) l.length cap) l.length (fltL L)) ∧ Hid (w.grownBy wr (some g0))) (fun _ s6 _ _ => l.length - (intOf s6).toNat)
    case atStart => exact ⟨k0, k0 + 1, l, rfl, by go_num, HK, OA, GA⟩
    case round =>
      obtain ⟨i, j, L, rfl, rfl, K0, O0, G0⟩ := hrel
      have hij := K0.out.lt
      have hjl := K0.out.le
      have hLl := K0.out.len
      clear OA GA HK
      by_cases hlt2 : j < l.length
      · have hltz : (j : Int) < (l.length : Int) := by omega
        have q0 : (0 : Int) ≤ (j : Int) := by omega
        have q1 : (0 : Int) ≤ (i : Int) := by omega
        have q2 : (i : Int) < (l.length : Int) := by omega
        obtain ⟨x, hx⟩ : ∃ x, l[j]? = some x := ⟨_, List.getElem?_eq_getElem hlt2⟩
        have hLx : L[j]? = some x := K0.out.at'.trans hx
        have HX := Lib.hid hx
        clear hx
        cases hq : p x
        all_goals
          have HQ := Lib.hid hq
          clear hq
        · have LC : Hid (∀ t u, x.vals[t]? = some u → wr.cell? ⟨g0, j * 6 + t, none⟩ = some u) := Lib.hid fun t u hu => by rw [O0.out.cellAt _ (by have ht : t < 6 := (List.getElem?_eq_some_iff.1 hu).1; omega)]; exact fltL_at L j x t u hLx hu
          clear hLx
          go_wp2_with (first
          | (refine wp_loadFltAt x (j * 6) LC.out rfl rfl rfl ?_)
          | (refine wp_newW flt0.vals _ zero_flt rfl rfl ?_; intro w1 hP hb1 _; have N1 := Lib.hid hP; have O1 := Lib.hid (own_keep O0.out hb1); have Q1 := Lib.hid (own_less O0.out); have G1 := Lib.hid (grownBy_below G0.out hb1); clear hP hb1 LC O0)
          | (refine wp_storeFltW x N1.out rfl rfl rfl rfl rfl ?_; intro w2 hP hS; have N2 := Lib.hid hP; have O2 := Lib.hid (own_storedNe O1.out hS Q1.out); have G2 := Lib.hid (grownBy_stored G1.out G0.out.size hS); have hcall := HP.out w2 x (G2.out.cell HCC.out HNE.out); rw [HQ.out] at hcall; clear hP hS N1 O1 G1 Q1 G0)
          | (refine wp_loadFlt x N2.out rfl rfl rfl ?_)
          | (go_at_fn g; refine hcall.mono ?_; rintro e w3 ⟨rfl, hb3⟩; have N3 := Lib.hid (N2.out.keep hb3); have O3 := Lib.hid (own_keep O2.out hb3); have G3 := Lib.hid (grownBy_below G2.out hb3); clear hb3 hcall N2 O2 G2)
          | (refine wp_loadFlt x N3.out rfl rfl rfl ?_)
          | (refine wp_storeFltAtW x (i * 6) (own_there O3.out _ _ (by omega)) rfl rfl rfl rfl ?_; intro w4 hw4; have hO4 := own_setCells x.vals (i * 6) w3 _ O3.out; rw [← hw4] at hO4; have O4 := Lib.hid hO4.1; have G4 := Lib.hid (grownBy_trans G3.out hO4.2); clear hO4 hw4 O3 G3 N3))
          go_roundw
          case measure => simp [intOf]; omega
          case rel =>
             exact ⟨i + 1, j + 1, L.set i x, by go_num, by go_num, Lib.hid (K0.out.keep HX.out HQ.out), Lib.hid (by have h4 := O4.out; rw [fltL_set L i x (by omega)] at h4; exact h4), G4⟩
        · have LC : Hid (∀ t u, x.vals[t]? = some u → wr.cell? ⟨g0, j * 6 + t, none⟩ = some u) := Lib.hid fun t u hu => by rw [O0.out.cellAt _ (by have ht : t < 6 := (List.getElem?_eq_some_iff.1 hu).1; omega)]; exact fltL_at L j x t u hLx hu
          clear hLx
          go_wp2_with (first
          | (refine wp_loadFltAt x (j * 6) LC.out rfl rfl rfl ?_)
          | (refine wp_newW flt0.vals _ zero_flt rfl rfl ?_; intro w1 hP hb1 _; have N1 := Lib.hid hP; have O1 := Lib.hid (own_keep O0.out hb1); have Q1 := Lib.hid (own_less O0.out); have G1 := Lib.hid (grownBy_below G0.out hb1); clear hP hb1 LC O0)
          | (refine wp_storeFltW x N1.out rfl rfl rfl rfl rfl ?_; intro w2 hP hS; have N2 := Lib.hid hP; have O2 := Lib.hid (own_storedNe O1.out hS Q1.out); have G2 := Lib.hid (grownBy_stored G1.out G0.out.size hS); have hcall := HP.out w2 x (G2.out.cell HCC.out HNE.out); rw [HQ.out] at hcall; clear hP hS N1 O1 G1 Q1 G0)
          | (refine wp_loadFlt x N2.out rfl rfl rfl ?_)
          | (go_at_fn g; refine hcall.mono ?_; rintro e w3 ⟨rfl, hb3⟩; have N3 := Lib.hid (N2.out.keep hb3); have O3 := Lib.hid (own_keep O2.out hb3); have G3 := Lib.hid (grownBy_below G2.out hb3); clear hb3 hcall N2 O2 G2))
          go_roundw
          case measure => simp [intOf]; omega
          case rel => exact ⟨i, j + 1, L, rfl, by go_num, Lib.hid (K0.out.skip HX.out HQ.out), O3, G3⟩
      · obtain rfl : j = l.length := by omega
        have hltz : ¬ (l.length : Int) < (l.length : Int) := by omega
        have q1 : (0 : Int) ≤ (i : Int) := by omega
        have q2 : (i : Int) ≤ (l.length : Int) := by omega
        have hcl : ∀ ty, (Builtin.clear_ #[25] ty #[.slice (some ⟨g0, i * 6, none⟩) (l.length - i) (cap - i)]).run Try.prog wr = .ok (.tuple #[]) (wr.setCells g0 (i * 6) (Builtin.zeroCells (Value.cells (.agg flt0.vals.toArray)) (l.length - i)).toList) :=
          fun ty => run_clear_cells wr _ _ ty (.agg flt0.vals.toArray) Try.underlying25 zero_flt g0 _ _ _ (by omega) (zero_cells_mem _ _ (by decide) (by decide)) (own_there O0.out _ _ (by show i * 6 + (l.length - i) * 6 ≤ l.length * 6; omega))
        have hO := own_setCells (Builtin.zeroCells (Value.cells (.agg flt0.vals.toArray)) (l.length - i)).toList (i * 6) wr _ O0.out
        have RES : Hid (_ ∧ _) := Lib.hid (And.intro (own_shrink hO.1 (show i ≤ l.length by omega)) (grownBy_trans G0.out hO.2))
        have D := K0.out.done
        have RD : Hid (_ ∧ _) := Lib.hid D
        clear hO D O0
        go_wp2
        go_ret
        have h1 := RES.out.1
        rw [take_flt, RD.out.1] at h1
        exact ⟨_, rfl, by rw [RD.out.2]; exact h1, RES.out.2, rfl⟩
  · have hle : l.findIdx p ≤ l.length := List.findIdx_le_length
    have he : l.findIdx p = l.length := by omega
    have hidx : idxOf p l = -1 := if_neg (by omega)
    rw [hidx] at hIF
    rw [filter_none he]
    have O := Lib.hid h
    clear h hc hne hp hidx he hle hge
    go_enter Try.func64, Try.ntmps64
    go_wp2_with (first
      | (go_at_call 81; (with_reducible refine hIF.mono ?_); rintro e wa ⟨rfl, hb⟩; have OA := Lib.hid (own_keep O.out hb); have GA := Lib.hid (below_grownBy hb v.ownBlock); clear hb hIF O))
    go_ret
    exact ⟨_, rfl, OA.out, GA.out, rfl⟩
theorem take_int (L : List Int) (i : Nat) (us : List Value) : (splice (intL L) (i * 1) us).take (i * 1) = intL (L.take i) := by
  rw [splice_take]
  exact by rw [Nat.mul_one]; exact intL_take L i
set_option maxHeartbeats 2000000 in
set_option maxRecDepth 4000 in
theorem deleteFunc_int (p : Int → Bool) (g C : Nat) (now : Int) (eg : ∀ args w, (callFunc g args).run Try.prog w = .ok (.enter g args) w) (hp : Pred g C now (fun n : Int => .int .i64 n) p) (base : Nat) (v : Value) (l : List Int) (w : World)
    (h : w.ownsRow base 3 1 v l.length (intL l)) (hc : w.cell? ⟨C, 0, none⟩ = some (.int .i64 now)) (hne : v.ownBlock ≠ some C) (hn : l.length ≤ 100000) :
    Calls Try.prog 72 #[v, .func (.func g) #[] #[.pointer (some ⟨C, 0, none⟩)]] w fun e w' => ∃ v', e = .returned v' ∧ w'.ownsRow base 3 1 v' (l.filter fun x => !p x).length (intL (l.filter fun x => !p x)) ∧ w.grownBy w' v.ownBlock ∧ v'.ownBlock = v.ownBlock := by
  have hIF := indexFunc_int p g C now eg hp v l w (Sl.of_own h) hc
  rcases Nat.lt_or_ge (l.findIdx p) l.length with hlt | hge
  · have hidx : idxOf p l = ((l.findIdx p : Nat) : Int) := if_pos hlt
    rw [hidx] at hIF
    have HK := Lib.hid (Kept.start hlt)
    obtain ⟨g0, cap, hv, hbg, hg0⟩ := h.form (by omega)
    have hcap : l.length ≤ cap ∧ cap ≤ 9223372036854775807 := by
      rcases h.2 with ⟨e, _⟩ | ⟨g', cap', cur, e, _, _, h1, h2, _⟩
      · rw [hv] at e; cases e
      · rw [hv] at e
        simp only [Value.slice.injEq, true_and] at e
        obtain ⟨_, rfl⟩ := e
        exact ⟨h1, by unfold maxLen at h2; omega⟩
    subst hv
    generalize l.findIdx p = k0 at *
    have hne1 : ((k0 : Int) == -1) = false := beq_eq_false_iff_ne.2 (by omega)
    have O := Lib.hid h
    have HCC := Lib.hid hc
    have HNE : Hid (some C ≠ some g0) := Lib.hid fun e => hne (by injection e with e; rw [e]; rfl)
    have HP := Lib.hid hp
    obtain ⟨hcap1, hcap2⟩ := hcap
    clear h hc hne hp hidx
    go_enter Try.func72, Try.ntmps72
    go_wp2_with (first
      | (go_at_call 84; (with_reducible refine hIF.mono ?_); rintro e wa ⟨rfl, hb⟩; have OA := Lib.hid (own_keep O.out hb); have GA := Lib.hid (below_grownBy hb (some g0)); clear hb hIF O))
    go_loopw [5, 6, 7] (fun s5 s6 _ wr => ∃ (i j : Nat) (L : List Int), s5 = .int .i64 i ∧ s6 = .int .i64 j ∧ Hid (Kept p l L i j) ∧ Hid (wr.ownsRow base 3 1 (.slice (some ⟨g0, 0, none⟩) l.length cap) l.length (intL L)) ∧ Hid (w.grownBy wr (some g0))) (fun _ s6 _ _ => l.length - (intOf s6).toNat)
    case atStart => exact ⟨k0, k0 + 1, l, rfl, by go_num, HK, OA, GA⟩
    case round =>
      obtain ⟨i, j, L, rfl, rfl, K0, O0, G0⟩ := hrel
      have hij := K0.out.lt
      have hjl := K0.out.le
      have hLl := K0.out.len
      clear OA GA HK
      by_cases hlt2 : j < l.length
      · have hltz : (j : Int) < (l.length : Int) := by omega
        have q0 : (0 : Int) ≤ (j : Int) := by omega
        have q1 : (0 : Int) ≤ (i : Int) := by omega
        have q2 : (i : Int) < (l.length : Int) := by omega
        obtain ⟨x, hx⟩ : ∃ x, l[j]? = some x := ⟨_, List.getElem?_eq_getElem hlt2⟩
        have hLx : L[j]? = some x := K0.out.at'.trans hx
        have HX := Lib.hid hx
        clear hx
        cases hq : p x
        all_goals
          have HQ := Lib.hid hq
          clear hq
        · have lc : wr.cell? ⟨g0, j, none⟩ = some (.int .i64 x) := by rw [O0.out.cellAt _ (by omega)]; exact intL_at hLx
          have hcall := HP.out wr x (G0.out.cell HCC.out HNE.out)
          rw [HQ.out] at hcall
          clear hLx
          go_wp2_with (first
          | (go_at_fn g; refine hcall.mono ?_; rintro e w3 ⟨rfl, hb3⟩; have O3 := Lib.hid (own_keep O0.out hb3); have G3 := Lib.hid (grownBy_below G0.out hb3); obtain ⟨hi1, hi2⟩ : (∃ old, w3.cell? ⟨g0, i, none⟩ = some old) ∧ w3.frozen? ⟨g0, i, none⟩ = false := ⟨⟨_, (O3.out.cellAt i (by omega)).trans (List.getElem?_eq_getElem (by rw [intL_length]; omega))⟩, O3.out.frozenAt i⟩; obtain ⟨old, hi1⟩ := hi1; clear hb3 hcall))
          go_roundw
          case measure => simp [intOf]; omega
          case rel =>
            have hO4 := own_setCells [Value.int .i64 x] i w3 _ O3.out; exact ⟨i + 1, j + 1, L.set i x, by go_num, by go_num, Lib.hid (K0.out.keep HX.out HQ.out), Lib.hid (by have := hO4.1; rw [intL_set L i x] at this; exact this), Lib.hid (grownBy_trans G3.out hO4.2)⟩
        · have lc : wr.cell? ⟨g0, j, none⟩ = some (.int .i64 x) := by rw [O0.out.cellAt _ (by omega)]; exact intL_at hLx
          have hcall := HP.out wr x (G0.out.cell HCC.out HNE.out)
          rw [HQ.out] at hcall
          clear hLx
          go_wp2_with (first
          | (go_at_fn g; refine hcall.mono ?_; rintro e w3 ⟨rfl, hb3⟩; have O3 := Lib.hid (own_keep O0.out hb3); have G3 := Lib.hid (grownBy_below G0.out hb3); obtain ⟨hi1, hi2⟩ : (∃ old, w3.cell? ⟨g0, i, none⟩ = some old) ∧ w3.frozen? ⟨g0, i, none⟩ = false := ⟨⟨_, (O3.out.cellAt i (by omega)).trans (List.getElem?_eq_getElem (by rw [intL_length]; omega))⟩, O3.out.frozenAt i⟩; obtain ⟨old, hi1⟩ := hi1; clear hb3 hcall))
          go_roundw
          case measure => simp [intOf]; omega
          case rel => exact ⟨i, j + 1, L, rfl, by go_num, Lib.hid (K0.out.skip HX.out HQ.out), O3, G3⟩
      · obtain rfl : j = l.length := by omega
        have hltz : ¬ (l.length : Int) < (l.length : Int) := by omega
        have q1 : (0 : Int) ≤ (i : Int) := by omega
        have q2 : (i : Int) ≤ (l.length : Int) := by omega
        have hcl : ∀ ty, (Builtin.clear_ #[24] ty #[.slice (some ⟨g0, i, none⟩) (l.length - i) (cap - i)]).run Try.prog wr = .ok (.tuple #[]) (wr.setCells g0 (i) (Builtin.zeroCells (Value.cells (.int .i64 0)) (l.length - i)).toList) :=
          fun ty => run_clear_cells wr _ _ ty (.int .i64 0) Try.underlying24 zero_int' g0 _ _ _ (by omega) (zero_cells_mem _ _ (by decide) (by decide)) (own_there O0.out _ _ (by show i + (l.length - i) * 1 ≤ l.length * 1; omega))
        have hO := own_setCells (Builtin.zeroCells (Value.cells (.int .i64 0)) (l.length - i)).toList (i) wr _ O0.out
        have RES : Hid (_ ∧ _) := Lib.hid (And.intro (own_shrink hO.1 (show i ≤ l.length by omega)) (grownBy_trans G0.out hO.2))
        have D := K0.out.done
        have RD : Hid (_ ∧ _) := Lib.hid D
        clear hO D O0
        go_wp2
        go_ret
        have h1 := RES.out.1
        rw [show splice (intL L) i _ = splice (intL L) (i * 1) _ by rw [Nat.mul_one], take_int, RD.out.1] at h1
        exact ⟨_, rfl, by rw [RD.out.2]; exact h1, RES.out.2, rfl⟩
  · have hle : l.findIdx p ≤ l.length := List.findIdx_le_length
    have he : l.findIdx p = l.length := by omega
    have hidx : idxOf p l = -1 := if_neg (by omega)
    rw [hidx] at hIF
    rw [filter_none he]
    have O := Lib.hid h
    clear h hc hne hp hidx he hle hge
    go_enter Try.func72, Try.ntmps72
    go_wp2_with (first
      | (go_at_call 84; (with_reducible refine hIF.mono ?_); rintro e wa ⟨rfl, hb⟩; have OA := Lib.hid (own_keep O.out hb); have GA := Lib.hid (below_grownBy hb v.ownBlock); clear hb hIF O))
    go_ret
    exact ⟨_, rfl, OA.out, GA.out, rfl⟩
end Go.Proofs.Ytikpchhhenonaaa.lf
